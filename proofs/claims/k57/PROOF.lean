import PyProof.Rows.All
import Wide.All
import OpenK.AllK
import Wide.FinOn
import Lean
import PyProof.EqAt
import PyProof.EqKinds
import PyProof.TupleCall
import PyProof.ZipIter
import PyProof.ExcInit
import PyProof.InstStoreFacts
import PyProof.ExcArgsOwn
import PyProof.ExcAttrAll.ValueError
import PyProof.Draws
import PyProof.EnumMake
import PyProof.Rows.SumAny
import PyProof.Rows.EnumRows
import PyProof.SeqI3
import PyProof.ListRange
import KE.KUnpack
import PySem.Challenge.RW_slanttables_k57_whole_foretold
set_option Elab.async false
set_option linter.all false
set_option maxRecDepth 100000
namespace L2
open PySem PySem.Spec PyProof.Rows
abbrev Key:=Sum Int Str
def keyIs:Key→Value→Bool
  | .inl k,v=>Value.isInt k v
  | .inr x,v=>Value.isStrOf x v
def keyH (w:World):Key→Int
  | .inl k=>hashInt k
  | .inr x=>hashStr w x
theorem keyIs_shape:∀ {k:Key} {v:Value},keyIs k v=true→(∃ i t,k=Sum.inl i∧v=Value.int i t)∨(∃ x t,k=Sum.inr x∧v=Value.str x t)
  | .inl i,v,h=>by
    obtain ⟨t,e⟩:=Value.isInt_shape (k:=i) (v:=v) h
    exact .inl ⟨i,t,rfl,e⟩
  | .inr x,v,h=>by
    obtain ⟨t,e⟩:=Value.isStrOf_shape (x:=x) (v:=v) h
    exact .inr ⟨x,t,rfl,e⟩
theorem key_ll (a b:Int):decide ((Sum.inl a:Key)=Sum.inl b)=(a == b):=by
  by_cases e:a=b
  · subst e;simp
  · have h:¬ (Sum.inl a:Key)=Sum.inl b:=fun q=>e (Sum.inl.inj q)
    rw [decide_eq_false h]
    exact (beq_eq_false_iff_ne.mpr e).symm
theorem key_rr (a b:Str):decide ((Sum.inr a:Key)=Sum.inr b)=decide (a=b):=by
  by_cases e:a=b
  · subst e;simp
  · have h:¬ (Sum.inr a:Key)=Sum.inr b:=fun q=>e (Sum.inr.inj q)
    rw [decide_eq_false h,decide_eq_false e]
theorem key_lr (a:Int) (b:Str):decide ((Sum.inl a:Key)=Sum.inr b)=false:=decide_eq_false (fun q=>nomatch q)
theorem key_rl (a:Str) (b:Int):decide ((Sum.inr a:Key)=Sum.inl b)=false:=decide_eq_false (fun q=>nomatch q)
def mixKind (prog:Program) (w:World):PySem.KeyKind prog w Key where
  is:=keyIs
  hash:=keyH w
  inj:=fun v a b ha hb=>by
    rcases keyIs_shape ha with ⟨i,t,rfl,rfl⟩ | ⟨x,t,rfl,rfl⟩
    · rcases keyIs_shape hb with ⟨j,u,rfl,e⟩ | ⟨y,u,rfl,e⟩
      · injection e with e1 _;rw [e1]
      · exact nomatch e
    · rcases keyIs_shape hb with ⟨j,u,rfl,e⟩ | ⟨y,u,rfl,e⟩
      · exact nomatch e
      · injection e with e1 _;rw [e1]
  byValue:=fun k v h=>by
    rcases keyIs_shape h with ⟨i,t,rfl,rfl⟩ | ⟨x,t,rfl,rfl⟩<;>rfl
  pyHash:=fun hv h=>by
    rcases keyIs_shape hv with ⟨i,t,rfl,rfl⟩ | ⟨x,t,rfl,rfl⟩
    · exact wpAny_pyHash_int h
    · exact wpAny_pyHash_str h
  eqBool:=fun hu hv h=>by
    rcases keyIs_shape hu with ⟨i,t,rfl,rfl⟩ | ⟨x,t,rfl,rfl⟩
    · rcases keyIs_shape hv with ⟨j,u,rfl,rfl⟩ | ⟨y,u,rfl,rfl⟩
      · rw [key_ll] at h;exact wpAny_eqBool_int h
      · rw [key_lr] at h;exact SeqAt.EqAt.int_str i t y u _ _ _ _ h
    · rcases keyIs_shape hv with ⟨j,u,rfl,rfl⟩ | ⟨y,u,rfl,rfl⟩
      · rw [key_rl] at h;exact SeqAt.EqAt.str_int x t j u _ _ _ _ h
      · rw [key_rr] at h;exact wpAny_eqBool_str h
  «strs»:=fun k x t v h=>by
    rcases keyIs_shape h with ⟨i,u,rfl,e⟩ | ⟨y,u,rfl,e⟩
    · exact nomatch e
    · injection e with e1 _
      subst e1
      cases v<;>rfl
inductive V where
  | non | bl (b:Bool) | int (i:Int) | str (x:Str) | byt (b:Array UInt8) | flt (b:UInt64) | ref (a:Addr) | ty (n:String)
  deriving DecidableEq
def RelV:V→Value→Prop
  | .non,u=>u=Value.none
  | .bl b,u=>u=Value.bool b
  | .int i,u=>∃ t,u=Value.int i t
  | .str x,u=>∃ t,u=Value.str x t
  | .byt b,u=>∃ t,u=Value.bytes b t
  | .flt b,u=>∃ t,u=Value.float b t
  | .ref a,u=>u=Value.ref a
  | .ty n,u=>u=Value.type n
abbrev Vals:List V→List Value→Prop:=Paired RelV
theorem Vals.length {xs:List V} {us:List Value} (r:Vals xs us):xs.length=us.length:=Paired.length r
theorem Vals.get:∀ {xs:List V} {us:List Value} {i:Nat} {x:V},Vals xs us→xs[i]? = some x→∃ u,us[i]? = some u∧RelV x u
  | _,_,_,_,.nil,e=>by simp at e
  | _,_,0,_,.cons r _,e=>by simp at e;subst e;exact ⟨_,rfl,r⟩
  | _,_,i+1,x,.cons _ t,e=>by
    obtain ⟨u,h1,h2⟩:=Vals.get (i:=i) (x:=x) t (by simpa using e)
    exact ⟨u,by simpa using h1,h2⟩
theorem Vals.set {x:V} {u:Value} (r:RelV x u):∀ {xs:List V} {us:List Value} (i:Nat),Vals xs us→Vals (xs.set i x) (us.set i u)
  | _,_,_,.nil=>.nil
  | _,_,0,.cons _ t=>.cons r t
  | _,_,i+1,.cons q t=>.cons q (Vals.set r i t)
theorem Vals.append:∀ {xs ys:List V} {us ws:List Value},Vals xs us→Vals ys ws→Vals (xs++ys) (us++ws)
  | _,_,_,_,.nil,s=>s
  | _,_,_,_,.cons r t,s=>.cons r (Vals.append t s)
theorem Vals.take:∀ {xs:List V} {us:List Value} (n:Nat),Vals xs us→Vals (xs.take n) (us.take n)
  | _,_,0,_=>.nil
  | _,_,_+1,.nil=>.nil
  | _,_,n+1,.cons r t=>.cons r (Vals.take n t)
theorem Vals.drop:∀ {xs:List V} {us:List Value} (n:Nat),Vals xs us→Vals (xs.drop n) (us.drop n)
  | _,_,0,r=>r
  | _,_,_+1,.nil=>.nil
  | _,_,n+1,.cons _ t=>Vals.drop n t
def RelO:Option V→Option Value→Prop
  | some v,some u=>RelV v u
  | none,none=>True
  | _,_=>False
def KV {κ:Type}:List (κ×V)→List (κ×Value)→Prop:=Paired fun (p:κ×V) (q:κ×Value)=>p.1=q.1∧RelV p.2 q.2
def kV:Key→V
  | .inl i=>.int i
  | .inr x=>.str x
inductive HO where
  | lst (xs:List V)
  | tup (xs:List V)
  | dK (kvs:List (Key×V)) | dT (kvs:List (List Key×V))
  | set (S:Int→Bool) (n:Nat)
  | ins (C dx:Addr) (fs:List (Str×V))
  | own (x:Addr)
  | xd (fs:List (Str×V))
  | met (f x:Addr)
  | rng (lo hi:Int)
  | frz (o:Obj) (u:HO)
  | tbl (ps:Array Value)
  | ext (φ:Heap→Prop)
abbrev Hp:=Addr→Option HO
def upd (H:Hp) (a:Addr) (o:HO):Hp:=fun b=>if b=a then some o else H b
theorem upd_same {H:Hp} {a:Addr} {o:HO}:upd H a o a=some o:=by unfold upd;rw [if_pos rfl]
theorem upd_ne {H:Hp} {a b:Addr} {o:HO} (h:b≠a):upd H a o b=H b:=by unfold upd;rw [if_neg h]
theorem ne_of_none {H:Hp} {a b:Addr} {o:HO} (h:H a=some o) (h':H b=none):a≠b:=by
  intro e;subst e;rw [h] at h';cases h'
section
variable (P:Program) (w:World)
def ObjOk (H:Hp) (h:Heap) (a:Addr):HO→Prop
  | .lst xs=>xs.length≤sizeLine∧∃ (its:List Value) (n:Nat),Vals xs its∧h.get? a=some { cls:=.type "list",data:=.seq its.toArray n }
  | .tup xs=>xs.length≤sizeLine∧∃ its:List Value,Vals xs its∧IsTup h a its.toArray
  | .dK kvs=>kvs.length≤sizeLine∧(a == sysModules)=false∧∃ vs,KV kvs vs∧h.DictOf (mixKind P w) a vs
  | .dT kvs=>kvs.length≤sizeLine∧(a == sysModules)=false∧∃ xs:List (List Key×Addr×Value),
      Paired (fun (p:List Key×V) (q:List Key×Addr×Value)=>p.1=q.1∧H q.2.1=some (.tup (p.1.map kV))∧RelV p.2 q.2.2) kvs xs∧
      ∃ o es ep,h.get? a=some o∧o.ExactDict∧o.data = .dict es ep∧es.toList=xs.map (entryOfKey (tupleKind (mixKind P w)))∧(xs.map (·.1)).Nodup
  | .set S n=>h.SetOf (intKind P w) a S n
  | .ins C dx fs=>H dx=some (.own a)∧fs.length≤1000∧dx≠a∧h.get? a=some (PySem.W.instObj C dx)∧
      ∃ mA,h.Ns1 dx mA∧(∀ f,RelO (fs.lookup f) (mA f))∧PySem.Within mA (fs.map (·.1))
  | .own _=>∃ o,h.get? a=some o
  | .xd fs=>∃ mA,h.Ns1 a mA∧∀ f,RelO (fs.lookup f) (mA f)
  | .rng lo hi=>∃ t u v,h.get? a=some { cls:=.type "range",data:=.fields #[.int lo t,.int hi u,.int 1 v] }
  | .frz o u=>h.get? a=some o∧ObjOk H h a u
  | .tbl ps=>h.get? a=some { cls:=.none,data:=.fields ps }
  | .met f x=>h.get? a=some (PySem.W.methodObj (.ref f) (.ref x))
  | .ext φ=>φ h∧(∃ o,h.get? a=some o)∧∀ h1 h2:Heap,φ h1→(∀ o,h1.get? a=some o→h2.get? a=some o)→φ h2
def HOk (H:Hp) (h:Heap):Prop:=∀ a o,H a=some o→ObjOk P w H h a o
end
section
variable {P:Program} {w:World} {H H':Hp} {h h':Heap} {a:Addr} {o:HO}
theorem ObjOk.lt (x:ObjOk P w H h a o):a < h.objs.size:=by
  cases o with
  | lst xs=>obtain ⟨_,_,_,_,e⟩:=x;exact Heap.lt_size e
  | tup xs=>obtain ⟨_,_,_,p⟩:=x;exact p.lt
  | dK kvs=>obtain ⟨_,_,_,_,o,_,_,e,_⟩:=x;exact Heap.lt_size e
  | dT kvs=>obtain ⟨_,_,_,_,o,_,_,e,_⟩:=x;exact Heap.lt_size e
  | set S n=>obtain ⟨o,_,_,_,e,_⟩:=x;exact Heap.lt_size e
  | ins C dx fs=>obtain ⟨_,_,_,e,_⟩:=x;exact Heap.lt_size e
  | own y=>obtain ⟨_,e⟩:=x;exact Heap.lt_size e
  | xd fs=>obtain ⟨_,⟨_,_,_,e,_⟩,_⟩:=x;exact Heap.lt_size e
  | rng lo hi=>obtain ⟨_,_,_,e⟩:=x;exact Heap.lt_size e
  | frz ob u=>obtain ⟨e,_⟩:=x;exact Heap.lt_size e
  | tbl ps=>exact Heap.lt_size (show h.get? a=some _ from x)
  | met f y=>exact Heap.lt_size (show h.get? a=some _ from x)
  | ext φ=>obtain ⟨_,⟨_,e⟩,_⟩:=x;exact Heap.lt_size e
theorem Paired.mapP {α β:Type} {F G:α→β→Prop}:∀ {l₁:List α} {l₂:List β},Paired F l₁ l₂→(∀ a b,F a b→G a b)→Paired G l₁ l₂
  | _,_,.nil,_=>.nil
  | _,_,.cons r t,f=>.cons (f _ _ r) (Paired.mapP t f)
theorem ObjOk.stay (x:ObjOk P w H h a o) (k:∀ b u,(b=a∨H b=some (.own a))→h.get? b=some u→h'.get? b=some u)
    (ho:∀ b,H b=some (.own a)→H' b=some (.own a)) (ht:∀ b xs,H b=some (.tup xs)→H' b=some (.tup xs)):ObjOk P w H' h' a o:=by
  induction o with
  | lst xs=>obtain ⟨z,its,n,r,e⟩:=x;exact ⟨z,its,n,r,k _ _ (.inl rfl) e⟩
  | tup xs=>obtain ⟨z,its,r,ob,e,c⟩:=x;exact ⟨z,its,r,ob,k _ _ (.inl rfl) e,c⟩
  | dK kvs=>obtain ⟨z,y,vs,r,ob,es,ep,e,c⟩:=x;exact ⟨z,y,vs,r,ob,es,ep,k _ _ (.inl rfl) e,c⟩
  | dT kvs=>
    obtain ⟨z,y,xs,r,ob,es,ep,e,c⟩:=x
    exact ⟨z,y,xs,Paired.mapP r fun p q z=>⟨z.1,ht _ _ z.2.1,z.2.2⟩,ob,es,ep,k _ _ (.inl rfl) e,c⟩
  | set S n=>obtain ⟨ob,es,ep,t,e,c⟩:=x;exact ⟨ob,es,ep,t,k _ _ (.inl rfl) e,c⟩
  | ins C dx fs=>
    obtain ⟨d,z,ne,e,mA,⟨od,es,ep,e2,c⟩,r⟩:=x
    exact ⟨ho _ d,z,ne,k _ _ (.inl rfl) e,mA,⟨od,es,ep,k _ _ (.inr d) e2,c⟩,r⟩
  | own y=>obtain ⟨ob,e⟩:=x;exact ⟨ob,k _ _ (.inl rfl) e⟩
  | xd fs=>obtain ⟨mA,⟨od,es,ep,e,c⟩,r⟩:=x;exact ⟨mA,⟨od,es,ep,k _ _ (.inl rfl) e,c⟩,r⟩
  | rng lo hi=>obtain ⟨t,u,v,e⟩:=x;exact ⟨t,u,v,k _ _ (.inl rfl) e⟩
  | frz ob u ih=>obtain ⟨e,q⟩:=x;exact ⟨k _ _ (.inl rfl) e,ih q⟩
  | tbl ps=>
    have e:h.get? a=some { cls:=.none,data:=.fields ps }:=x
    show h'.get? a=some { cls:=.none,data:=.fields ps }
    exact k a _ (.inl rfl) e
  | met f y=>
    have e:h.get? a=some (PySem.W.methodObj (.ref f) (.ref y)):=x
    show h'.get? a=some (PySem.W.methodObj (.ref f) (.ref y))
    exact k a _ (.inl rfl) e
  | ext φ=>obtain ⟨p,⟨o,e⟩,st⟩:=x;exact ⟨st _ _ p fun o q=>k _ _ (.inl rfl) q,⟨o,k _ _ (.inl rfl) e⟩,st⟩
theorem HOk.lt (x:HOk P w H h) (e:H a=some o):a < h.objs.size:=(x a o e).lt
theorem HOk.fresh (x:HOk P w H h) (e:h.objs.size≤a):H a=none:=by
  cases q:H a with
  | none=>rfl
  | some u=>exact absurd (Nat.lt_of_lt_of_le (x.lt q) e) (Nat.lt_irrefl _)
theorem HOk.kept (x:HOk P w H h) (k:∀ b u,h.get? b=some u→h'.get? b=some u):HOk P w H h':=fun a o e=>
  (x a o e).stay (fun b u _ q=>k b u q) (fun _ q=>q) fun _ _ q=>q
theorem HOk.laid (x:HOk P w H h) (k:∀ b u,h.get? b=some u→h'.get? b=some u) (hp:h.objs.size≤a) (new:ObjOk P w (upd H a o) h' a o):HOk P w (upd H a o) h':=fun b u e=>by
  have hn:=x.fresh hp
  by_cases hb:b=a
  · subst hb;rw [upd_same] at e;cases e;exact new
  · rw [upd_ne hb] at e
    exact (x b u e).stay (fun c v _ q=>k c v q) (fun c q=>by rw [upd_ne (ne_of_none q hn)];exact q) fun c xs q=>by rw [upd_ne (ne_of_none q hn)];exact q
end
def Rd (H:Hp) (a:Addr) (u:HO):Prop:=H a=some u∨∃ o,H a=some (.frz o u)
theorem Rd.of {H:Hp} {a:Addr} {u:HO} (h:H a=some u):Rd H a u:=.inl h
theorem Rd.ok {P:Program} {w:World} {H:Hp} {h:Heap} {a:Addr} {u:HO} (r:Rd H a u) (x:HOk P w H h):ObjOk P w H h a u:=by
  rcases r with r | ⟨o,r⟩
  · exact x a u r
  · obtain ⟨_,q⟩:=x a _ r
    exact q
def Mut:Option HO→Prop
  | some (.lst _)=>True
  | some (.dK _)=>True
  | some (.dT _)=>True
  | some (.set _ _)=>True
  | some (.ins _ _ _)=>True
  | some (.ext _)=>True
  | _=>False
section
variable {P:Program} {w:World} {H:Hp} {h h':Heap} {x e:Addr} {o':HO}
theorem HOk.write (ok:HOk P w H h) (mu:Mut (H x)) (he:e=x∨H e=some (.own x)) (k:∀ b u,b≠e→h.get? b=some u→h'.get? b=some u) (heo:∃ u,h'.get? e=some u)
    (new:ObjOk P w (upd H x o') h' x o'):HOk P w (upd H x o') h':=fun b u q=>by
  have nown:∀ c y,H c=some (.own y)→c≠x:=fun c y r z=>by subst z;rw [r] at mu;exact mu
  have ntup:∀ c xs,H c=some (.tup xs)→c≠x:=fun c xs r z=>by subst z;rw [r] at mu;exact mu
  by_cases hb:b=x
  · subst hb;rw [upd_same] at q;cases q;exact new
  · rw [upd_ne hb] at q
    by_cases hbe:b=e
    · have q':H b=some (.own x):=by
        rcases he with z | z
        · exact absurd (hbe.trans z) hb
        · rw [hbe];exact z
      rw [q] at q';cases q'
      obtain ⟨v,hv⟩:=heo
      exact ⟨v,by rw [hbe];exact hv⟩
    · refine (ok b u q).stay (fun c v hc r=>k c v ?_ r) (fun c r=>by rw [upd_ne (nown c b r)];exact r) fun c xs r=>by rw [upd_ne (ntup c xs r)];exact r
      rcases hc with rfl | hc
      · exact hbe
      · rintro rfl
        rcases he with z | z
        · exact nown c b hc z
        · rw [hc] at z;cases z;exact hb rfl
end
structure Un (fs ex:List Addr) (H H':Hp) (h h':Heap):Prop where
  keep:∀ b o,h.get? b=some o→H b=none→b∉fs→b∉ex→h'.get? b=some o
  slot:∀ b o,h.get? b=some o→H b=none→b∈fs→b∉ex→∃ sl,h'.get? b=some { o with slots:=sl }
  free:∀ b o,h.get? b=some o→H b=none→b∉ex→H' b=none
  there:∀ b o,h.get? b=some o→b∉ex→∃ o',h'.get? b=some o'
  tups:∀ b xs,H b=some (.tup xs)→H' b=some (.tup xs)
  frzs:∀ b o u,H b=some (.frz o u)→H' b=some (.frz o u)
  tbls:∀ b ps,H b=some (.tbl ps)→∃ more,H' b=some (.tbl (ps++more))
section
variable {fs fs' ex ex':List Addr} {H H1 H2:Hp} {h h1 h2 h':Heap} {a x e:Addr} {o:HO}
theorem Un.any (u:Un fs ex H H1 h h1) {b:Addr} {ob:Obj} (q:h.get? b=some ob) (n:H b=none) (hx:b∉ex):∃ sl,h1.get? b=some { ob with slots:=sl }:=by
  by_cases hb:b∈fs
  · exact u.slot b ob q n hb hx
  · exact ⟨ob.slots,u.keep b ob q n hb hx⟩
theorem Un.trans (a:Un fs ex H H1 h h1) (b:Un fs ex H1 H2 h1 h2):Un fs ex H H2 h h2 where
  keep:=fun c ob q n hc hx=>b.keep c ob (a.keep c ob q n hc hx) (a.free c ob q n hx) hc hx
  slot:=fun c ob q n hc hx=>by
    obtain ⟨sl,e1⟩:=a.slot c ob q n hc hx
    obtain ⟨sl',e2⟩:=b.slot c _ e1 (a.free c ob q n hx) hc hx
    exact ⟨sl',e2⟩
  free:=fun c ob q n hx=>by
    obtain ⟨o',e1⟩:=a.there c ob q hx
    exact b.free c o' e1 (a.free c ob q n hx) hx
  there:=fun c ob q hx=>by
    obtain ⟨o',e1⟩:=a.there c ob q hx
    exact b.there c o' e1 hx
  tups:=fun c xs q=>b.tups c xs (a.tups c xs q)
  frzs:=fun c ob xs q=>b.frzs c ob xs (a.frzs c ob xs q)
  tbls:=fun c ps q=>by
    obtain ⟨m1,e1⟩:=a.tbls c ps q
    obtain ⟨m2,e2⟩:=b.tbls c _ e1
    exact ⟨m1++m2,by rw [e2,Array.append_assoc]⟩
theorem Un.kept (k:∀ b u,h.get? b=some u→h'.get? b=some u):Un fs ex H H h h':=
  ⟨fun b ob q _ _ _=>k b ob q,fun b ob q _ _ _=>⟨ob.slots,k b ob q⟩,fun _ _ _ n _=>n,fun b ob q _=>⟨ob,k b ob q⟩,fun _ _ q=>q,fun _ _ _ q=>q,fun _ ps q=>⟨#[],by rw [q];simp⟩⟩
theorem Un.refl:Un fs ex H H h h:=Un.kept fun _ _ q=>q
theorem Un.laid (k:∀ b u,h.get? b=some u→h'.get? b=some u) (hp:h.objs.size≤a) (hn:H a=none):Un fs ex H (upd H a o) h h' where
  keep:=fun b u q _ _ _=>k b u q
  slot:=fun b u q _ _ _=>⟨u.slots,k b u q⟩
  free:=fun b u q n _=>by rw [upd_ne (Nat.ne_of_lt (Nat.lt_of_lt_of_le (Heap.lt_size q) hp))];exact n
  there:=fun b u q _=>⟨u,k b u q⟩
  tups:=fun b xs q=>by rw [upd_ne (ne_of_none q hn)];exact q
  frzs:=fun b u xs q=>by rw [upd_ne (ne_of_none q hn)];exact q
  tbls:=fun b ps q=>⟨#[],by rw [upd_ne (ne_of_none q hn),q];simp⟩
theorem Un.write (mu:Mut (H x)) (he:e=x∨H e=some (.own x)) (k:∀ b u,b≠e→h.get? b=some u→h'.get? b=some u) (heo:∃ u,h'.get? e=some u):Un fs ex H (upd H x o) h h':=by
  have hx:∀ b,H b=none→b≠x:=fun b n z=>by subst z;rw [n] at mu;exact mu
  have hb:∀ b,H b=none→b≠e:=fun b n z=>by
    subst z
    rcases he with r | r
    · exact hx b n r
    · rw [n] at r;cases r
  have hm:∀ b u,H b=some u→¬ Mut (some u)→b≠x:=fun b u q nm z=>by subst z;rw [q] at mu;exact nm mu
  refine ⟨fun b u q n _ _=>k b u (hb b n) q,fun b u q n _ _=>⟨u.slots,k b u (hb b n) q⟩,fun b u q n _=>by rw [upd_ne (hx b n)];exact n,fun b u q _=>?_,
    fun b xs q=>by rw [upd_ne (hm b _ q fun z=>z)];exact q,fun b u xs q=>by rw [upd_ne (hm b _ q fun z=>z)];exact q,fun b ps q=>⟨#[],by rw [upd_ne (hm b _ q fun z=>z),q];simp⟩⟩
  by_cases hbe:b=e
  · subst hbe;exact heo
  · exact ⟨u,k b u hbe q⟩
theorem Un.mono (u:Un fs ex H H1 h h1) (hs:∀ b∈fs,b∈fs') (hx:∀ b∈ex,b∈ex'):Un fs' ex' H H1 h h1:=
  ⟨fun b ob q n hb he=>u.keep b ob q n (fun z=>hb (hs b z)) fun z=>he (hx b z),fun _ _ q n _ he=>u.any q n fun z=>he (hx _ z),fun b ob q n he=>u.free b ob q n fun z=>he (hx b z),fun b ob q he=>u.there b ob q fun z=>he (hx b z),u.tups,u.frzs,u.tbls⟩
end
def trk (h:Heap) (H:Hp):List Addr:=(List.range h.objs.size).filter fun a=>(H a).isSome
def hidT (h:Heap) (H:Hp):Heap:=PySem.W.hideAll h (trk h H)
theorem hidT_size (h:Heap) (H:Hp):(hidT h H).objs.size=h.objs.size:=PySem.W.hideAll_size _ _
theorem hidT_get {h:Heap} {H:Hp} {b:Addr} {o:Obj} (e:h.get? b=some o) (n:H b=none):(hidT h H).get? b=some o:=
  PySem.W.hideAll_get _ e fun hm=>by
    have q:(H b).isSome=true:=(List.mem_filter.mp hm).2
    rw [n] at q;simp at q
theorem of_hidT {h:Heap} {H:Hp} {b:Addr} {o:Obj} (e:(hidT h H).get? b=some o):h.get? b=some o∧H b=none:=by
  have e':h.get? b=some o:=PySem.W.of_hideAll (trk h H) e
  refine ⟨e',?_⟩
  cases q:H b with
  | none=>rfl
  | some x=>
    have hm:b∈trk h H:=List.mem_filter.mpr ⟨List.mem_range.mpr (Heap.lt_size e'),by simp [q]⟩
    have z:(hidT h H).get? b=none:=PySem.W.hideAll_none (trk h H) hm
    rw [z] at e;cases e
def allNews (g h:Heap) (L:Addr):List (Addr×Obj):=(List.range h.objs.size).filterMap fun a=>if a=L∨(g.get? a).isSome=true then none else (h.get? a).map fun o=>(a,o)
def rest (g h:Heap) (L d:Addr):List (Addr×Obj):=(allNews g h L).filter fun p=>decide (p.1≠d)
structure Mod (K:PySem.W.Frag) (mg:Str→Option Value) (base:Heap):Prop where
  kin:K.In base
  glob:base.Ns mainGlobals mg
  blt:∃ mb,base.Ns builtinsNs mb∧∀ x:Str,x≠ "__name__" →mb x=bootBuiltins x
  nolimit:base.NoLimit
structure Cx where
  prog:Program
  w:World
  K:PySem.W.Frag
  mg:Str→Option Value
  base:Heap
  A:Around
  N:List Str
  s₀:Shared
  H₀:Hp
  env:Env
  outer:List Env
  stack:List Env
  ex:List Addr
  fn:Str→Bool
  calm:Bool
  pn:List (Addr×Obj)
  xe:Value→Shared→Prop
def frs (l:List Env):List Addr:=l.filterMap (·.frame)
abbrev Cx.fs (X:Cx):List Addr:=frs X.outer
def Vis (sc:Scope) (x:Str):Prop:=sc.names.lookup x=some .local∨sc.names.lookup x=some .cell∨sc.names.lookup x=some .free
def Loc (sc:Scope) (x:Str):Prop:=sc.names.lookup x=some .local∨sc.names.lookup x=some .cell
def Look (env:Env) (h:Heap) (m:Str→Option Value) (x:Str) (u:Value):Prop:=
  (env.kindOf x=some .local∧m x=some u)∨((env.kindOf x=some .cell∨env.kindOf x=some .free)∧∃ c,env.cells.lookup x=some c∧h.IsCell c (some u))
structure Cx.Ok (X:Cx):Prop where
  mod:Mod X.K X.mg X.base
  kind:X.env.scope.kind = .function
  glob:X.env.globals=mainGlobals
  blt:X.env.builtins=builtinsNs
  above:X.s₀.heap.objs.size≤X.env.locals
  inj:∀ x y c,X.env.cells.lookup x=some c→X.env.cells.lookup y=some c→x=y
  has:∀ x,(X.env.kindOf x=some .cell∨X.env.kindOf x=some .free)→∃ c,X.env.cells.lookup x=some c
  cab:∀ x c,X.fn x=true→X.env.cells.lookup x=some c→X.s₀.heap.objs.size≤c
  hd:X.calm=true→X.A.handled=none
  frames:X.A.frames=some X.stack
  stk:X.stack=X.outer∨(X.stack=X.env::X.outer∧X.env.frame=some X.env.locals)
  exf:∀ b∈X.ex,b≠X.env.locals∧∀ x c,X.env.cells.lookup x=some c→c≠b
  bs:∀ b o,X.base.get? b=some o→X.s₀.heap.get? b=some o∧X.H₀ b=none
  bsz:X.base.objs.size≤X.s₀.heap.objs.size
  noex:∀ b o,X.base.get? b=some o→b∉X.ex
  exfs:∀ b∈X.ex,b∉X.fs
  funs:X.s₀.heap.FunFrames X.base X.outer
  frf:∀ b∈X.fs,X.H₀ b=none
structure Inv (X:Cx) (pins:List (Addr×Obj)) (σ:List (Option V)) (H:Hp) (s:Shared):Prop where
  ok:X.Ok
  os:s.os=X.s₀.os
  bare:AllBare s.gens
  base:Un X.fs X.ex X.H₀ H X.s₀.heap s.heap
  loc:∃ m,s.heap.Ns X.env.locals m∧∀ (i:Nat) (x:Str) (v:V),X.N[i]? = some x→σ[i]? = some (some v)→Vis X.env.scope x→∃ u,RelV v u∧Look X.env s.heap m x u
  cell:∀ x c,X.env.cells.lookup x=some c→∃ v,s.heap.IsCell c v
  free:H X.env.locals=none
  freeC:∀ x c,X.env.cells.lookup x=some c→H c=none
  pin:∀ p∈X.pn++pins,s.heap.get? p.1=some p.2∧H p.1=none∧p.1≠X.env.locals∧p.1∉X.fs∧∀ v,p.2.data≠.cell v
  hok:HOk X.prog X.w H s.heap
  len:σ.length=X.N.length
section
variable {X:Cx} {pins:List (Addr×Obj)} {σ:List (Option V)} {H H':Hp} {s:Shared} {h':Heap}
theorem Cx.Ok.nofr (ok:X.Ok) {b:Addr} {o:Obj} (e:X.base.get? b=some o):b∉X.fs:=fun hb=>by
  have:=(ok.funs.mem hb).1
  rw [e] at this;cases this
theorem Inv.bs (I:Inv X pins σ H s):∀ b o,X.base.get? b=some o→s.heap.get? b=some o∧H b=none:=fun b o e=>
  ⟨I.base.keep b o (I.ok.bs b o e).1 (I.ok.bs b o e).2 (I.ok.nofr e) (I.ok.noex b o e),I.base.free b o (I.ok.bs b o e).1 (I.ok.bs b o e).2 (I.ok.noex b o e)⟩
theorem Inv.bk (I:Inv X pins σ H s):∀ b o,X.base.get? b=some o→s.heap.get? b=some o:=fun b o e=>(I.bs b o e).1
theorem Inv.mod (I:Inv X pins σ H s):Mod X.K X.mg X.base:=I.ok.mod
theorem Inv.kIn (I:Inv X pins σ H s):X.K.In s.heap:=I.ok.mod.kin.keeps I.bk
theorem Inv.fr (I:Inv X pins σ H s):∃ m,Fr X.base X.env.locals s.heap m:=
  let ⟨m,hn,_⟩:=I.loc
  ⟨m,hn,I.bk,Nat.le_trans I.ok.bsz I.ok.above⟩
theorem Inv.lt (I:Inv X pins σ H s):X.env.locals < s.heap.objs.size:=let ⟨_,hn,_⟩:=I.loc;hn.lt
theorem Inv.sz (I:Inv X pins σ H s):X.s₀.heap.objs.size≤s.heap.objs.size:=Nat.le_trans I.ok.above (Nat.le_of_lt I.lt)
theorem Inv.nofs (I:Inv X pins σ H s) {a:Addr} (h:s.heap.objs.size≤a):a∉X.fs:=fun hb=>by
  obtain ⟨_,o,ho,_⟩:=I.ok.funs.mem hb
  exact absurd (Nat.lt_of_lt_of_le (Heap.lt_size ho) (Nat.le_trans I.sz h)) (Nat.lt_irrefl _)
theorem Inv.cne (I:Inv X pins σ H s):∀ x c,X.env.cells.lookup x=some c→c≠X.env.locals:=fun x c e z=>by
  obtain ⟨v,o,ho,hd⟩:=I.cell x c e
  obtain ⟨m,⟨o',es,ep,ho',hd',_⟩,_⟩:=I.loc
  rw [z,ho'] at ho;cases ho;rw [hd'] at hd;cases hd
theorem Inv.funs (I:Inv X pins σ H s):s.heap.FunFrames X.base X.outer:=by
  have all:∀ (l:List Env),(∀ b∈frs l,b∈X.fs)→X.s₀.heap.FunFrames X.base l→s.heap.FunFrames X.base l:=by
    intro l
    induction l with
    | nil=>intro _ _;trivial
    | cons env r ih=>
      intro hs hl
      obtain ⟨hk,⟨L,o,hf,hn,ho,hd⟩,hr⟩:=hl
      have hL:L∈X.fs:=hs L (by unfold frs;rw [List.filterMap_cons,hf];exact List.mem_cons_self)
      obtain ⟨sl,e⟩:=I.base.slot L o ho (I.ok.frf L hL) hL fun z=>I.ok.exfs L z hL
      exact ⟨hk,⟨L,_,hf,hn,e,hd⟩,ih (fun b hb=>hs b (by unfold frs;rw [List.filterMap_cons,hf];exact List.mem_cons_of_mem _ hb)) hr⟩
  exact all X.outer (fun _ hb=>hb) I.ok.funs
theorem Inv.stack (I:Inv X pins σ H s):s.heap.FunFrames X.base X.stack:=by
  rcases I.ok.stk with e | ⟨e,hf⟩
  · rw [e];exact I.funs
  · rw [e]
    obtain ⟨m,hn,_⟩:=I.loc
    refine .cons (by rw [I.ok.kind];decide) hf hn ?_ I.funs
    exact Heap.get?_none_of_le (Nat.le_trans I.ok.bsz I.ok.above)
theorem Inv.stkSub (I:Inv X pins σ H s):∀ b∈frs X.stack,b∈X.env.locals::X.fs:=fun b hb=>by
  rcases I.ok.stk with e | ⟨e,hf⟩
  · rw [e] at hb;exact List.mem_cons_of_mem _ hb
  · rw [e] at hb
    unfold frs at hb
    rw [List.filterMap_cons,hf] at hb
    exact hb
theorem Inv.stkFree (I:Inv X pins σ H s):∀ b∈frs X.stack,H b=none:=fun b hb=>by
  rcases List.mem_cons.mp (I.stkSub b hb) with e | hb
  · rw [e];exact I.free
  · obtain ⟨_,o,ho,_⟩:=I.ok.funs.mem hb
    exact I.base.free b o ho (I.ok.frf b hb) fun z=>I.ok.exfs b z hb
theorem Inv.step {g':Array GenState} {t':Nat} {d':Drawn} {ch:List Addr} (I:Inv X pins σ H s)
    (hch:∀ b∈ch,(b∈X.ex∨X.s₀.heap.objs.size≤b)∧b≠X.env.locals∧(∀ x c,X.env.cells.lookup x=some c→c≠b)∧∀ p∈X.pn++pins,p.1≠b)
    (keep:∀ b o,b≠X.env.locals→b∉X.fs→b∉ch→s.heap.get? b=some o→H b=none→h'.get? b=some o)
    (slot:∀ b o,b≠X.env.locals→b∈X.fs→b∉ch→s.heap.get? b=some o→H b=none→∃ sl,h'.get? b=some { o with slots:=sl }) (free:∀ b o,b∉ch→s.heap.get? b=some o→H b=none→H' b=none)
    (there:∀ b o,b∉ch→s.heap.get? b=some o→∃ o',h'.get? b=some o')
    (tups:∀ b xs,H b=some (.tup xs)→H' b=some (.tup xs)) (frzs:∀ b o u,H b=some (.frz o u)→H' b=some (.frz o u)) (tbls:∀ b ps,H b=some (.tbl ps)→∃ more,H' b=some (.tbl (ps++more)))
    (ns:∀ m,s.heap.Ns X.env.locals m→h'.Ns X.env.locals m) (hok:HOk X.prog X.w H' h') (hg:AllBare g') :
    Inv X pins σ H' { s with heap:=h',gens:=g',drawn:=d',toks:=t' }:=by
  have neL:∀ b o,X.s₀.heap.get? b=some o→b≠X.env.locals:=fun b o e=>Nat.ne_of_lt (Nat.lt_of_lt_of_le (Heap.lt_size e) I.ok.above)
  have neC:∀ b o,X.s₀.heap.get? b=some o→b∉X.ex→b∉ch:=fun b o e hx hb=>by
    rcases (hch b hb).1 with z | z
    · exact hx z
    · exact absurd (Nat.lt_of_lt_of_le (Heap.lt_size e) z) (Nat.lt_irrefl _)
  have cellK:∀ x c,X.env.cells.lookup x=some c→∀ v,s.heap.IsCell c v→h'.IsCell c v:=fun x c e v ⟨o,ho,hd⟩=>by
    have nch:c∉ch:=fun z=>(hch c z).2.2.1 x c e rfl
    by_cases hc:c∈X.fs
    · obtain ⟨sl,q⟩:=slot c o (I.cne x c e) hc nch ho (I.freeC x c e)
      exact ⟨_,q,hd⟩
    · exact ⟨o,keep c o (I.cne x c e) hc nch ho (I.freeC x c e),hd⟩
  refine ⟨I.ok,I.os,hg,⟨fun b o e n hb hx=>?_,fun b o e n hb hx=>?_,fun b o e n hx=>?_,fun b o e hx=>?_,fun b xs e=>tups b xs (I.base.tups b xs e),fun b o xs e=>frzs b o xs (I.base.frzs b o xs e),fun b ps e=>?_⟩,?_,fun x c e=>?_,?_,fun x c e=>?_,fun p hp=>?_,hok,I.len⟩
  · exact keep b o (neL b o e) hb (neC b o e hx) (I.base.keep b o e n hb hx) (I.base.free b o e n hx)
  · obtain ⟨sl,e1⟩:=I.base.slot b o e n hb hx
    obtain ⟨sl',e2⟩:=slot b _ (neL b o e) hb (neC b o e hx) e1 (I.base.free b o e n hx)
    exact ⟨sl',e2⟩
  · obtain ⟨o',e1⟩:=I.base.there b o e hx
    exact free b o' (neC b o e hx) e1 (I.base.free b o e n hx)
  · obtain ⟨o',e1⟩:=I.base.there b o e hx
    exact there b o' (neC b o e hx) e1
  · obtain ⟨m1,e1⟩:=I.base.tbls b ps e
    obtain ⟨m2,e2⟩:=tbls b _ e1
    exact ⟨m1++m2,by rw [e2,Array.append_assoc]⟩
  · obtain ⟨m,hn,hl⟩:=I.loc
    refine ⟨m,ns m hn,fun i x v e1 e2 e3=>?_⟩
    obtain ⟨u,r,l⟩:=hl i x v e1 e2 e3
    refine ⟨u,r,?_⟩
    rcases l with l | ⟨k,c,e,z⟩
    · exact .inl l
    · exact .inr ⟨k,c,e,cellK x c e _ z⟩
  · obtain ⟨v,z⟩:=I.cell x c e
    exact ⟨v,cellK x c e v z⟩
  · obtain ⟨m,⟨o,_,_,ho,_⟩,_⟩:=I.loc
    exact free _ o (fun z=>(hch _ z).2.1 rfl) ho I.free
  · obtain ⟨v,o,ho,hd⟩:=I.cell x c e
    exact free c o (fun z=>(hch c z).2.2.1 x c e rfl) ho (I.freeC x c e)
  · obtain ⟨e,n,ne,nf,d⟩:=I.pin p hp
    have nch:p.1∉ch:=fun z=>(hch p.1 z).2.2.2 p hp rfl
    exact ⟨keep p.1 p.2 ne nf nch e n,free p.1 p.2 nch e n,ne,nf,d⟩
theorem Inv.un {t':Nat} (I:Inv X pins σ H s) (u:Un X.fs [] H H' s.heap h') (hok:HOk X.prog X.w H' h'):Inv X pins σ H' { s with heap:=h',toks:=t' }:=by
  obtain ⟨m,⟨o,es,ep,ho,r⟩,_⟩:=id I.loc
  obtain ⟨sl,hL⟩:=u.any ho I.free (by simp)
  exact I.step (g':=s.gens) (d':=s.drawn) (ch:=[]) (fun _ z=>nomatch z) (fun b o _ hb _ e n=>u.keep b o e n hb (by simp)) (fun b o _ hb _ e n=>u.slot b o e n hb (by simp)) (fun b o _ e n=>u.free b o e n (by simp)) (fun b o _ e=>u.there b o e (by simp)) u.tups u.frzs u.tbls (fun m' hm=>by
    obtain ⟨o',es',ep',ho',r'⟩:=hm
    rw [ho] at ho';cases ho'
    exact ⟨_,es',ep',hL,r'⟩) hok I.bare
theorem Inv.call {g':Array GenState} {t':Nat} {d':Drawn} {ch:List Addr} (I:Inv X pins σ H s) (u:Un (frs X.stack) ch H H' s.heap h') (hok:HOk X.prog X.w H' h') (hg:AllBare g')
    (hch:∀ b∈ch,(b∈X.ex∨X.s₀.heap.objs.size≤b)∧b≠X.env.locals∧(∀ x c,X.env.cells.lookup x=some c→c≠b)∧∀ p∈X.pn++pins,p.1≠b) :
    Inv X pins σ H' { s with heap:=h',gens:=g',drawn:=d',toks:=t' }:=by
  obtain ⟨m,⟨o,es,ep,ho,r⟩,_⟩:=id I.loc
  obtain ⟨sl,hL⟩:=u.any ho I.free fun z=>(hch _ z).2.1 rfl
  exact I.step (ch:=ch) hch (fun b o hL hb hc e n=>u.keep b o e n (fun z=>(List.mem_cons.mp (I.stkSub b z)).elim hL hb) hc) (fun b o _ _ hc e n=>u.any e n hc) (fun b o hc e n=>u.free b o e n hc) (fun b o hc e=>u.there b o e hc) u.tups u.frzs u.tbls (fun m' hm=>by
    obtain ⟨o',es',ep',ho',r'⟩:=hm
    rw [ho] at ho';cases ho'
    exact ⟨_,es',ep',hL,r'⟩) hok hg
theorem Inv.turned {t':Nat} {it:Addr} (I:Inv X pins σ H s) (k:∀ b o,b≠it→s.heap.get? b=some o→h'.get? b=some o) (hn:H it=none) (hL:it≠X.env.locals)
    (h1:it∈X.ex∨X.s₀.heap.objs.size≤it) (h2:∀ x c,X.env.cells.lookup x=some c→c≠it) (h3:∀ p∈X.pn++pins,p.1≠it):Inv X pins σ H { s with heap:=h',toks:=t' }:=by
  have nit:∀ b u,H b=some u→b≠it:=fun b u e z=>by rw [z,hn] at e;cases e
  refine I.step (g':=s.gens) (d':=s.drawn) (ch:=[it]) (fun b hb=>?_) (fun b o _ _ hc e _=>k b o (fun z=>hc (by simp [z])) e) (fun b o _ _ hc e _=>⟨o.slots,k b o (fun z=>hc (by simp [z])) e⟩) (fun _ _ _ _ n=>n)
    (fun b o hc e=>⟨o,k b o (fun z=>hc (by simp [z])) e⟩) (fun _ _ e=>e) (fun _ _ _ e=>e) (fun b ps e=>⟨#[],by rw [e];simp⟩) (fun m hm=>?_) (fun b u e=>?_) I.bare
  · have e:b=it:=by simpa using hb
    subst e
    exact ⟨h1,hL,h2,h3⟩
  · obtain ⟨o,es,ep,ho,r⟩:=hm
    exact ⟨o,es,ep,k _ o (Ne.symm hL) ho,r⟩
  · refine (I.hok b u e).stay (fun c v hc q=>k c v ?_ q) (fun _ q=>q) fun _ _ q=>q
    rcases hc with z | z
    · rw [z];exact nit b u e
    · exact nit c _ z
theorem Inv.tok (I:Inv X pins σ H s) (t:Nat):Inv X pins σ H { s with toks:=t }:=I.un (h':=s.heap) (t':=t) Un.refl I.hok
theorem Inv.kept {t':Nat} (I:Inv X pins σ H s) (k:∀ b u,s.heap.get? b=some u→h'.get? b=some u):Inv X pins σ H { s with heap:=h',toks:=t' }:=I.un (Un.kept k) (I.hok.kept k)
theorem Inv.laid {a:Addr} {o:HO} {t':Nat} (I:Inv X pins σ H s) (k:∀ b u,s.heap.get? b=some u→h'.get? b=some u) (hp:s.heap.objs.size≤a) (new:ObjOk X.prog X.w (upd H a o) h' a o) :
    Inv X pins σ (upd H a o) { s with heap:=h',toks:=t' }:=I.un (Un.laid k hp (I.hok.fresh hp)) (I.hok.laid k hp new)
theorem Inv.write {x e:Addr} {o:HO} {t':Nat} (I:Inv X pins σ H s) (mu:Mut (H x)) (he:e=x∨H e=some (.own x)) (k:∀ b u,b≠e→s.heap.get? b=some u→h'.get? b=some u) (heo:∃ u,h'.get? e=some u)
    (new:ObjOk X.prog X.w (upd H x o) h' x o):Inv X pins σ (upd H x o) { s with heap:=h',toks:=t' }:=I.un (Un.write mu he k heo) (I.hok.write mu he k heo new)
theorem Inv.pins_of {pins':List (Addr×Obj)} (I:Inv X pins σ H s) (h:∀ p∈pins',s.heap.get? p.1=some p.2∧H p.1=none∧p.1≠X.env.locals∧p.1∉X.fs∧∀ v,p.2.data≠.cell v):Inv X pins' σ H s:=
  ⟨I.ok,I.os,I.bare,I.base,I.loc,I.cell,I.free,I.freeC,fun p hp=>(List.mem_append.mp hp).elim (fun z=>I.pin p (List.mem_append_left _ z)) (h p),I.hok,I.len⟩
theorem nodup_ix {N:List Str} (hN:N.Nodup) {i j:Nat} {x:Str} (a:N[i]? = some x) (b:N[j]? = some x):i=j:=by
  obtain ⟨h1,e1⟩:=List.getElem?_eq_some_iff.mp a
  obtain ⟨h2,e2⟩:=List.getElem?_eq_some_iff.mp b
  exact (List.getElem_inj hN).mp (e1.trans e2.symm)
theorem store_ok2 {M:Model} {A:Around} {E:Value→Shared→Prop} {i:Nat} {x:Str} {v:V} {u:Value} {Q:Unit→Shared→Prop} (I:Inv X pins σ H s) (hN:X.N.Nodup) (hi:X.N[i]? = some x) (hx:Loc X.env.scope x) (r:RelV v u)
    (h:∀ s',Inv X pins (σ.set i (some v)) H s'→(∃ a,Heap.SameBut a s.heap s'.heap∧(a=X.env.locals∨X.env.cells.lookup x=some a))→Q () s') (hf:X.fn x=true∨X.env.scope.names.lookup x=some .local:=by first | exact .inl rfl | exact .inr rfl | assumption):wpAny M A (storeName X.env x u) Q E s:=by
  obtain ⟨m,hn,hl⟩:=id I.loc
  have hcls:(X.env.scope.kind == .class || (X.env.scope.kind == .module && X.env.locals != X.env.globals))=false:=by rw [I.ok.kind];rfl
  have hiσ:i < σ.length:=by rw [I.len];exact (List.getElem?_eq_some_iff.mp hi).1
  have cne:=I.cne
  have tracked:∀ {a:Addr} {h':Heap},(∃ o,s.heap.get? a=some o∧H a=none)→Heap.SameBut a s.heap h'→HOk X.prog X.w H h':=fun {a h'} ha hs b ob e=>by
    obtain ⟨_,_,hfree⟩:=ha
    refine (I.hok b ob e).stay (fun c w' hc q=>(hs.2 c ?_).trans q) (fun _ q=>q) fun _ _ q=>q
    rintro rfl
    rcases hc with rfl | hc
    · rw [hfree] at e;cases e
    · rw [hfree] at hc;cases hc
  rcases hx with hk | hk
  · refine wpAny_storeName_local hk hn (fun h' hn' hs=>?_) hcls
    obtain ⟨oL,_,_,hoL,_⟩:=id hn
    refine h _ ⟨I.ok,I.os,I.bare,⟨fun b o e n hb hx=>?_,fun b o e n hb hx=>?_,I.base.free,fun b o e hx=>?_,I.base.tups,I.base.frzs,I.base.tbls⟩,⟨_,hn',fun j y v' e1 e2 e3=>?_⟩,fun y c e=>?_,I.free,I.freeC,fun p hp=>?_,tracked ⟨oL,hoL,I.free⟩ hs,by simpa using I.len⟩ ⟨_,hs,.inl rfl⟩
    · exact (hs.2 b (Nat.ne_of_lt (Nat.lt_of_lt_of_le (Heap.lt_size e) I.ok.above))).trans (I.base.keep b o e n hb hx)
    · obtain ⟨sl,e1⟩:=I.base.slot b o e n hb hx
      exact ⟨sl,(hs.2 b (Nat.ne_of_lt (Nat.lt_of_lt_of_le (Heap.lt_size e) I.ok.above))).trans e1⟩
    · obtain ⟨o',e1⟩:=I.base.there b o e hx
      exact ⟨o',(hs.2 b (Nat.ne_of_lt (Nat.lt_of_lt_of_le (Heap.lt_size e) I.ok.above))).trans e1⟩
    · by_cases hj:j=i
      · subst hj
        rw [hi] at e1;cases e1
        rw [List.getElem?_set_self hiσ] at e2
        cases e2
        exact ⟨u,r,.inl ⟨hk,by simp⟩⟩
      · rw [List.getElem?_set_ne (Ne.symm hj)] at e2
        obtain ⟨u',r',q⟩:=hl j y v' e1 e2 e3
        refine ⟨u',r',?_⟩
        rcases q with ⟨k,e⟩ | ⟨k,c,e,z⟩
        · refine .inl ⟨k,?_⟩
          have:y≠x:=fun e=>hj (nodup_ix hN e1 (e ▸ hi))
          simp [this,e]
        · exact .inr ⟨k,c,e,z.sameBut hs (cne y c e)⟩
    · obtain ⟨w',z⟩:=I.cell y c e
      exact ⟨w',z.sameBut hs (cne y c e)⟩
    · obtain ⟨e,n,ne,nf,d⟩:=I.pin p hp
      exact ⟨(hs.2 p.1 ne).trans e,n,ne,nf,d⟩
  · have hfn:X.fn x=true:=by
      rcases hf with z | z
      · exact z
      · rw [z] at hk;cases hk
    obtain ⟨c,hc⟩:=I.ok.has x (.inl hk)
    obtain ⟨w',z⟩:=I.cell x c hc
    refine wpAny_storeName_cell I.ok.kind hk hc z (fun h' hc' hs=>?_)
    obtain ⟨oc,hoc,hocd⟩:=id z
    refine h { s with heap:=h' } ⟨I.ok,I.os,I.bare,⟨fun b o e n hb hx=>?_,fun b o e n hb hx=>?_,I.base.free,fun b o e hx=>?_,I.base.tups,I.base.frzs,I.base.tbls⟩,⟨m,hn.sameBut hs (Ne.symm (cne x c hc)),fun j y v' e1 e2 e3=>?_⟩,fun y c' e=>?_,I.free,I.freeC,fun p hp=>?_,tracked ⟨oc,hoc,I.freeC x c hc⟩ hs,by simpa using I.len⟩ ⟨c,hs,.inr hc⟩
    · exact (hs.2 b (Nat.ne_of_lt (Nat.lt_of_lt_of_le (Heap.lt_size e) (I.ok.cab x c hfn hc)))).trans (I.base.keep b o e n hb hx)
    · obtain ⟨sl,e1⟩:=I.base.slot b o e n hb hx
      exact ⟨sl,(hs.2 b (Nat.ne_of_lt (Nat.lt_of_lt_of_le (Heap.lt_size e) (I.ok.cab x c hfn hc)))).trans e1⟩
    · obtain ⟨o',e1⟩:=I.base.there b o e hx
      exact ⟨o',(hs.2 b (Nat.ne_of_lt (Nat.lt_of_lt_of_le (Heap.lt_size e) (I.ok.cab x c hfn hc)))).trans e1⟩
    · by_cases hj:j=i
      · subst hj
        rw [hi] at e1;cases e1
        rw [List.getElem?_set_self hiσ] at e2
        cases e2
        exact ⟨u,r,.inr ⟨.inl hk,c,hc,hc'⟩⟩
      · rw [List.getElem?_set_ne (Ne.symm hj)] at e2
        obtain ⟨u',r',q⟩:=hl j y v' e1 e2 e3
        refine ⟨u',r',?_⟩
        rcases q with q | ⟨k,c',e,z'⟩
        · exact .inl q
        · refine .inr ⟨k,c',e,z'.sameBut hs ?_⟩
          rintro rfl
          exact hj (nodup_ix hN e1 (I.ok.inj _ _ _ e hc ▸ hi))
    · by_cases hcc:c'=c
      · subst hcc;exact ⟨_,hc'⟩
      · obtain ⟨w2,z2⟩:=I.cell y c' e
        exact ⟨w2,z2.sameBut hs hcc⟩
    · obtain ⟨e,n,ne,nf,d⟩:=I.pin p hp
      refine ⟨(hs.2 p.1 ?_).trans e,n,ne,nf,d⟩
      intro q
      rw [q,hoc] at e
      have q':oc=p.2:=Option.some.inj e
      exact d w' (by rw [← q'];exact hocd)
theorem store_ok {M:Model} {A:Around} {E:Value→Shared→Prop} {i:Nat} {x:Str} {v:V} {u:Value} {Q:Unit→Shared→Prop} (I:Inv X pins σ H s) (hN:X.N.Nodup) (hi:X.N[i]? = some x) (hx:Loc X.env.scope x) (r:RelV v u)
    (h:∀ s',Inv X pins (σ.set i (some v)) H s'→Q () s') (hf:X.fn x=true∨X.env.scope.names.lookup x=some .local:=by first | exact .inl rfl | exact .inr rfl | assumption):wpAny M A (storeName X.env x u) Q E s:=
  store_ok2 I hN hi hx r (fun s' I' _=>h s' I') hf
theorem Inv.call' {s':Shared} {ch:List Addr} (I:Inv X pins σ H s) (ho:s'.os=s.os) (u:Un (frs X.stack) ch H H' s.heap s'.heap) (hok:HOk X.prog X.w H' s'.heap) (hg:AllBare s'.gens)
    (hch:∀ b∈ch,(b∈X.ex∨X.s₀.heap.objs.size≤b)∧b≠X.env.locals∧(∀ x c,X.env.cells.lookup x=some c→c≠b)∧∀ p∈X.pn++pins,p.1≠b):Inv X pins σ H' s':=by
  obtain ⟨h',g',d',t',o'⟩:=s'
  have e:o'=s.os:=ho
  subst e
  exact I.call (g':=g') (t':=t') (d':=d') u hok hg hch
end
abbrev XK:=Value→Option Addr→Hp→Prop
abbrev St:=List (Option V)
abbrev VK:=V→Hp→Prop
abbrev TE:=St→Hp→VK→Prop
abbrev TT:=St→Hp→(Bool→Hp→Prop)→Prop
abbrev TA:=St→Hp→(List V→Hp→Prop)→Prop
structure Ends where
  nx:St→Hp→Prop
  rt:VK
  bk:St→Hp→Prop:=fun _ _=>False
  ct:St→Hp→Prop:=fun _ _=>False
abbrev TS:=Ends→St→Hp→Prop
def EP (X:Cx) (pins:List (Addr×Obj)) (σ:St) (Q:VK) (u:Value) (s':Shared):Prop:=∃ v H',Inv X pins σ H' s'∧RelV v u∧Q v H'
def TP (X:Cx) (pins:List (Addr×Obj)) (σ:St) (Q:Bool→Hp→Prop) (b:Bool) (s':Shared):Prop:=∃ H',Inv X pins σ H' s'∧Q b H'
def AP (X:Cx) (pins:List (Addr×Obj)) (σ:St) (Q:List V→Hp→Prop) (us:List Value) (s':Shared):Prop:=∃ vs H',Inv X pins σ H' s'∧Vals vs us∧Q vs H'
def SP (X:Cx) (pins:List (Addr×Obj)) (D:Ends) (f:Flow) (s':Shared):Prop:=
  match f with
  | .next=>∃ σ' H',Inv X pins σ' H' s'∧D.nx σ' H'
  | .brk=>∃ σ' H',Inv X pins σ' H' s'∧D.bk σ' H'
  | .cont=>∃ σ' H',Inv X pins σ' H' s'∧D.ct σ' H'
  | .ret u=>∃ v σ' H',Inv X pins σ' H' s'∧RelV v u∧D.rt v H'
def PE (X:Cx) (e:Expr) (t:TE):Prop:=
  ∀ (pins:List (Addr×Obj)) (s:Shared) (σ:St) (H:Hp) (Q:VK),Inv X pins σ H s→t σ H Q→wpAny (model X.prog X.w) X.A (eval e X.env) (EP X pins σ Q) X.xe s
def PT (X:Cx) (e:Expr) (t:TT):Prop:=
  ∀ (pins:List (Addr×Obj)) (s:Shared) (σ:St) (H:Hp) (Q:Bool→Hp→Prop),Inv X pins σ H s→t σ H Q→wpAny (model X.prog X.w) X.A (isTrue e X.env (eval e X.env)) (TP X pins σ Q) X.xe s
def PW (X:Cx) (e:Expr) (t:TT):Prop:=
  ∀ (whole:Sem Value) (pins:List (Addr×Obj)) (s:Shared) (σ:St) (H:Hp) (Q:Bool→Hp→Prop),Inv X pins σ H s→t σ H Q→wpAny (model X.prog X.w) X.A (isTrue e X.env whole) (TP X pins σ Q) X.xe s
theorem PW.pt {X:Cx} {e:Expr} {t:TT} (h:PW X e t):PT X e t:=h _
def PA (X:Cx) (es:List Expr) (t:TA):Prop:=
  ∀ (pos:Pos) (pins:List (Addr×Obj)) (s:Shared) (σ:St) (H:Hp) (Q:List V→Hp→Prop),Inv X pins σ H s→t σ H Q→wpAny (model X.prog X.w) X.A (spliced (backTo pos (starEach es X.env))) (AP X pins σ Q) X.xe s
def PS (X:Cx) (st:Stmt) (t:TS):Prop:=
  ∀ (pins:List (Addr×Obj)) (s:Shared) (σ:St) (H:Hp) (D:Ends),Inv X pins σ H s→t D σ H→wpAny (model X.prog X.w) X.A (exec st X.env) (SP X pins D) X.xe s
def PSs (X:Cx) (st:List Stmt) (t:TS):Prop:=
  ∀ (pins:List (Addr×Obj)) (s:Shared) (σ:St) (H:Hp) (D:Ends),Inv X pins σ H s→t D σ H→wpAny (model X.prog X.w) X.A (execs st X.env) (SP X pins D) X.xe s
theorem thn {α:Type} {t:Sem α} {Q Q':α→Shared→Prop} {M:Model} {A:Around} {E:Value→Shared→Prop} {s:Shared} (h:wpAny M A t Q E s) (hQ:∀ a s,Q a s→Q' a s):wpAny M A t Q' E s:=wpAny_mono h hQ fun _ _ x=>x
section
variable {X:Cx}
theorem bin {a b:Expr} {ta tb:TE} (ha:PE X a ta) (hb:PE X b tb) {pins:List (Addr×Obj)} {s:Shared} {σ:St} {H:Hp} {R:V→V→Hp→Prop} (I:Inv X pins σ H s) (h:ta σ H fun x H1=>tb σ H1 fun y H2=>R x y H2)
    {α:Type} {Q:α→Shared→Prop} {f:Value→Value→Sem α}
    (hf:∀ v u s2 x y H2,Inv X pins σ H2 s2→RelV x v→RelV y u→R x y H2→wpAny (model X.prog X.w) X.A (f v u) Q X.xe s2) :
    wpAny (model X.prog X.w) X.A (eval a X.env) (fun v s₁=>wpAny (model X.prog X.w) X.A (eval b X.env) (fun u s₂=>wpAny (model X.prog X.w) X.A (f v u) Q X.xe s₂) X.xe s₁) X.xe s:=by
  refine thn (ha pins s σ H _ I h) fun v s1 ⟨x,H1,I1,r1,q1⟩=>?_
  refine thn (hb pins s1 σ H1 _ I1 q1) fun u s2 ⟨y,H2,I2,r2,q2⟩=>?_
  exact hf v u s2 x y H2 I2 r1 r2 q2
def tVar (i:Nat):TE:=fun σ H Q=>∃ v,σ[i]? = some (some v)∧Q v H
def tC (v:V):TE:=fun _ H Q=>Q v H
theorem pe_var {i:Nat} {x:Str} {pos:Pos} (hN:X.N[i]? = some x) (hv:Vis X.env.scope x) (hd:(x == ("__debug__" : Str))=false:=by decide) (hcd:(x == ("__classdict__" : Str))=false:=by decide):PE X (.Name x pos) (tVar i):=by
  intro pins s σ H Q I h
  obtain ⟨v,e,h⟩:=h
  obtain ⟨m,hn,hl⟩:=I.loc
  obtain ⟨u,r,l⟩:=hl i x v hN e hv
  have fin:EP X pins σ Q u s:=⟨v,H,I,r,h⟩
  rcases l with ⟨hk,hm⟩ | ⟨hk,c,hc,hcell⟩
  · exact wpAny_Name (wpAny_loadName_local I.ok.kind hk hn hm fin) hd
  · rcases hk with hk | hk
    · exact wpAny_Name (wpAny_loadName_cell I.ok.kind hk hc hcell fin) hd
    · exact wpAny_Name (wpAny_loadName_free I.ok.kind hk hc hcell fin hcd) hd
theorem pe_int {i j pos}:PE X (.Constant (.int i) j pos) (tC (.int i)):=fun _ _ _ H _ I h=>wpAny_Constant_int ⟨.int i,H,I.tok _,⟨_,rfl⟩,h⟩
theorem pe_bl {b j pos}:PE X (.Constant (.bool b) j pos) (tC (.bl b)):=fun _ _ _ H _ I h=>Constant_bool ⟨.bl b,H,I,rfl,h⟩
theorem pe_non {j pos}:PE X (.Constant .none j pos) (tC .non):=fun _ _ _ H _ I h=>Constant_none ⟨.non,H,I,rfl,h⟩
def Gl (X:Cx) (x:Str):Prop:=X.env.kindOf x=some .globalImplicit
theorem ld_glob {E:Value→Shared→Prop} {pins:List (Addr×Obj)} {s:Shared} {σ:St} {H:Hp} {x:Str} {u:Value} {pos:Pos} {Q:Value→Shared→Prop} (I:Inv X pins σ H s) (hg:Gl X x) (hm:X.mg x=some u) (h:Q u s)
    (hd:(x == ("__debug__" : Str))=false:=by decide):wpAny (model X.prog X.w) X.A (eval (.Name x pos) X.env) Q E s:=
  Calls.Name_function_global I.ok.kind hg (Calls.loadGlobal_global (by rw [I.ok.glob];exact I.mod.glob.keeps I.bk) hm h) hd
theorem ld_blt {E:Value→Shared→Prop} {pins:List (Addr×Obj)} {s:Shared} {σ:St} {H:Hp} {x:Str} {u:Value} {pos:Pos} {Q:Value→Shared→Prop} (I:Inv X pins σ H s) (hg:Gl X x) (hm:X.mg x=none) (hv:bootBuiltins x=some u) (h:Q u s)
    (hn:x≠ "__name__" :=by decide) (hd:(x == ("__debug__" : Str))=false:=by decide):wpAny (model X.prog X.w) X.A (eval (.Name x pos) X.env) Q E s:=by
  obtain ⟨mb,h1,h2⟩:=I.mod.blt
  exact Calls.Name_function_global I.ok.kind hg (Calls.loadGlobal_builtin (by rw [I.ok.glob];exact I.mod.glob.keeps I.bk) hm (by rw [I.ok.blt];exact h1.keeps I.bk) ((h2 x hn).trans hv) h) hd
theorem pe_glob {x:Str} {v:V} {u:Value} {pos:Pos} (hg:Gl X x) (hm:X.mg x=some u) (r:RelV v u) (hd:(x == ("__debug__" : Str))=false:=by decide):PE X (.Name x pos) (tC v):=
  fun _ _ _ H _ I h=>ld_glob I hg hm ⟨v,H,I,r,h⟩ hd
theorem pe_bltn {x:Str} {v:V} {u:Value} {pos:Pos} (hg:Gl X x) (hm:X.mg x=none) (hv:bootBuiltins x=some u) (r:RelV v u) (hn:x≠ "__name__" :=by decide) (hd:(x == ("__debug__" : Str))=false:=by decide):PE X (.Name x pos) (tC v):=
  fun _ _ _ H _ I h=>ld_blt I hg hm hv ⟨v,H,I,r,h⟩ hn hd
variable {a b:Expr} {ta tb:TE} {pos:Pos}
variable {tA tB':TT} {rest:List Expr}
def tAnd (t u:TT):TT:=fun σ H Q=>t σ H fun c H1=>if c=true then u σ H1 Q else Q false H1
def tOr (t u:TT):TT:=fun σ H Q=>t σ H fun c H1=>if c=true then Q true H1 else u σ H1 Q
def tNot (t:TT):TT:=fun σ H Q=>t σ H fun c H1=>Q (!c) H1
theorem pw_and1 (ha:PT X a tA):PW X (.BoolOp .And [a] pos) tA:=by
  intro wh pins s σ H Q I h
  refine isTrue_and (thn (ha pins s σ H Q I h) fun c s1 e=>?_)
  cases c with
  | true=>exact isTrue_and_nil e
  | false=>exact e
theorem pw_or1 (ha:PT X a tA):PW X (.BoolOp .Or [a] pos) tA:=by
  intro wh pins s σ H Q I h
  refine isTrue_or (thn (ha pins s σ H Q I h) fun c s1 e=>?_)
  cases c with
  | false=>exact isTrue_or_nil e
  | true=>exact e
theorem pw_and (ha:PT X a tA) (hb:PW X (.BoolOp .And (b::rest) pos) tB'):PW X (.BoolOp .And (a::b::rest) pos) (tAnd tA tB'):=by
  intro wh pins s σ H Q I h
  refine isTrue_and (thn (ha pins s σ H _ I h) fun c s1 ⟨H1,I1,q1⟩=>?_)
  cases c with
  | true=>exact hb wh pins s1 σ H1 Q I1 q1
  | false=>exact ⟨H1,I1,q1⟩
theorem pw_or (ha:PT X a tA) (hb:PW X (.BoolOp .Or (b::rest) pos) tB'):PW X (.BoolOp .Or (a::b::rest) pos) (tOr tA tB'):=by
  intro wh pins s σ H Q I h
  refine isTrue_or (thn (ha pins s σ H _ I h) fun c s1 ⟨H1,I1,q1⟩=>?_)
  cases c with
  | true=>exact ⟨H1,I1,q1⟩
  | false=>exact hb wh pins s1 σ H1 Q I1 q1
theorem pt_not (ha:PT X a tA):PT X (.UnaryOp .Not a pos) (tNot tA):=by
  intro pins s σ H Q I h
  exact isTrue_not (ha pins s σ H (fun c H1=>Q (!c) H1) I h)
def tAndV (ta tb:TE):TE:=fun σ H Q=>ta σ H fun x H1=>∃ c,x = .bl c∧if c=true then tb σ H1 Q else Q (.bl false) H1
def tNotV (ta:TE):TE:=fun σ H Q=>ta σ H fun x H1=>∃ c,x = .bl c∧Q (.bl (!c)) H1
theorem pe_one {op} {t:TE} (h:PE X a t):PE X (.BoolOp op [a] pos) t:=fun pins s σ H Q I hw=>BoolOp_one (h pins s σ H Q I hw)
theorem pe_and (ha:PE X a ta) (hb:PE X (.BoolOp .And (b::rest) pos) tb):PE X (.BoolOp .And (a::b::rest) pos) (tAndV ta tb):=by
  intro pins s σ H Q I h
  refine BoolOp_and (thn (ha pins s σ H _ I h) fun v s1 ⟨x,H1,I1,r1,q1⟩=>?_)
  obtain ⟨c,rfl,q1⟩:=q1
  cases r1
  refine wpAny_truthy_bool ?_
  cases c with
  | true=>exact hb pins s1 σ H1 Q I1 q1
  | false=>exact ⟨.bl false,H1,I1,rfl,q1⟩
theorem pe_not (ha:PE X a ta):PE X (.UnaryOp .Not a pos) (tNotV ta):=by
  intro pins s σ H Q I h
  refine UnaryOp_ (thn (ha pins s σ H _ I h) fun v s1 ⟨x,H1,I1,r1,q1⟩=>?_)
  obtain ⟨c,rfl,q1⟩:=q1
  cases r1
  exact not_of (wpAny_truthy_bool ⟨.bl (!c),H1,I1,rfl,q1⟩)
end
def SqL (K:PySem.W.Frag) (H:Hp) (a:Addr) (xs:List V):Prop:=
  Rd H a (.lst xs)∨
    ∃ (o:Obj) (its:Array Value) (n:Nat),K.lookup a=some o∧o.cls = .type "list" ∧o.dict=none∧o.data = .seq its n∧its.size≤sizeLine∧Vals xs its.toList
def SqT (K:PySem.W.Frag) (H:Hp) (a:Addr) (xs:List V):Prop:=
  Rd H a (.tup xs)∨
    ∃ (o:Obj) (its:Array Value) (n:Nat),K.lookup a=some o∧o.cls = .type "tuple" ∧o.data = .seq its n∧its.size≤sizeLine∧Vals xs its.toList
def absV:Value→Option V
  | .none=>some .non
  | .bool b=>some (.bl b)
  | .int i _=>some (.int i)
  | .str x _=>some (.str x)
  | .bytes b _=>some (.byt b)
  | .float b _=>some (.flt b)
  | .ref a=>some (.ref a)
  | .type n=>some (.ty n)
  | _=>none
theorem RelV.abs {x:V} {u:Value} (r:RelV x u):absV u=some x:=by
  cases x with
  | non=>cases r;rfl
  | bl _=>cases r;rfl
  | int _=>obtain ⟨t,rfl⟩:=r;rfl
  | str _=>obtain ⟨t,rfl⟩:=r;rfl
  | byt _=>obtain ⟨t,rfl⟩:=r;rfl
  | flt _=>obtain ⟨t,rfl⟩:=r;rfl
  | ref _=>cases r;rfl
  | ty _=>cases r;rfl
theorem RelV.inj {x y:V} {u:Value} (r:RelV x u) (q:RelV y u):x=y:=Option.some.inj (r.abs.symm.trans q.abs)
theorem Vals.inj:∀ {xs ys:List V} {us:List Value},Vals xs us→Vals ys us→xs=ys
  | _,_,_,.nil,.nil=>rfl
  | _,_,_,.cons r t,.cons r' t'=>by rw [r.inj r',Vals.inj t t']
section
variable {X:Cx} {pins:List (Addr×Obj)} {σ:St} {H:Hp} {s:Shared} {a:Addr} {xs ys:List V}
theorem SqL.of {K:PySem.W.Frag} (h:H a=some (.lst xs)):SqL K H a xs:=.inl (.inl h)
theorem SqT.of {K:PySem.W.Frag} (h:H a=some (.tup xs)):SqT K H a xs:=.inl (.inl h)
theorem Inv.list (I:Inv X pins σ H s) (h:SqL X.K H a xs):∃ its:List Value,Vals xs its∧PlainL s.heap a its.toArray∧xs.length≤sizeLine:=by
  rcases h with h | ⟨o,its,n,hk,hc,hd,hs,hz,r⟩
  · obtain ⟨z,its,n,r,e⟩:=h.ok I.hok
    exact ⟨its,r,⟨_,n,e,rfl,rfl,rfl⟩,z⟩
  · refine ⟨its.toList,r,⟨o,n,I.kIn a o hk,hc,hd,by simpa using hs⟩,?_⟩
    have e:=r.length
    simp only [Array.length_toList] at e
    omega
theorem Inv.tuple (I:Inv X pins σ H s) (h:SqT X.K H a xs):∃ its:List Value,Vals xs its∧IsTup s.heap a its.toArray∧xs.length≤sizeLine:=by
  rcases h with h | ⟨o,its,n,hk,hc,hs,hz,r⟩
  · obtain ⟨z,its,r,p⟩:=h.ok I.hok
    exact ⟨its,r,p,z⟩
  · refine ⟨its.toList,r,⟨o,I.kIn a o hk,hc,n,by simpa using hs⟩,?_⟩
    have e:=r.length
    simp only [Array.length_toList] at e
    omega
theorem Inv.list_inj (I:Inv X pins σ H s) (h:SqL X.K H a xs) (h':SqL X.K H a ys):xs=ys:=by
  obtain ⟨its,r,⟨o,n,e,_,_,d⟩,_⟩:=I.list h
  obtain ⟨its',r',⟨o',n',e',_,_,d'⟩,_⟩:=I.list h'
  rw [e] at e';cases e'
  rw [d] at d'
  injection d' with d1 _
  have:its=its':=by simpa using congrArg Array.toList d1
  subst this
  exact r.inj r'
theorem Inv.tuple_inj (I:Inv X pins σ H s) (h:SqT X.K H a xs) (h':SqT X.K H a ys):xs=ys:=by
  obtain ⟨its,r,⟨o,e,_,n,d⟩,_⟩:=I.tuple h
  obtain ⟨its',r',⟨o',e',_,n',d'⟩,_⟩:=I.tuple h'
  rw [e] at e';cases e'
  rw [d] at d'
  injection d' with d1 _
  have:its=its':=by simpa using congrArg Array.toList d1
  subst this
  exact r.inj r'
end
abbrev Cx.wish (X:Cx) (E:Value→Shared→Prop):Cx:={ X with xe:=E }
abbrev Cx.nox (X:Cx):Cx:=X.wish fun _ _=>False
theorem Cx.Ok.wish {X:Cx} (ok:X.Ok) (E:Value→Shared→Prop):(X.wish E).Ok:=
  ⟨ok.mod,ok.kind,ok.glob,ok.blt,ok.above,ok.inj,ok.has,ok.cab,ok.hd,ok.frames,ok.stk,ok.exf,ok.bs,ok.bsz,ok.noex,ok.exfs,ok.funs,ok.frf⟩
theorem Cx.Ok.unwish {X:Cx} {E:Value→Shared→Prop} (ok:(X.wish E).Ok):X.Ok:=
  ⟨ok.mod,ok.kind,ok.glob,ok.blt,ok.above,ok.inj,ok.has,ok.cab,ok.hd,ok.frames,ok.stk,ok.exf,ok.bs,ok.bsz,ok.noex,ok.exfs,ok.funs,ok.frf⟩
section
variable {X:Cx} {pins:List (Addr×Obj)} {σ:St} {H:Hp} {s:Shared} {E:Value→Shared→Prop}
theorem Inv.wish (I:Inv X pins σ H s) (E:Value→Shared→Prop):Inv (X.wish E) pins σ H s:=⟨I.ok.wish E,I.os,I.bare,I.base,I.loc,I.cell,I.free,I.freeC,I.pin,I.hok,I.len⟩
theorem Inv.unwish (I:Inv (X.wish E) pins σ H s):Inv X pins σ H s:=⟨I.ok.unwish,I.os,I.bare,I.base,I.loc,I.cell,I.free,I.freeC,I.pin,I.hok,I.len⟩
theorem SP.unwish {D:Ends} {f:Flow} {s':Shared} (h:SP (X.wish E) pins D f s'):SP X pins D f s':=by
  cases f with
  | next=>obtain ⟨σ',H',I,q⟩:=h;exact ⟨σ',H',I.unwish,q⟩
  | brk=>obtain ⟨σ',H',I,q⟩:=h;exact ⟨σ',H',I.unwish,q⟩
  | cont=>obtain ⟨σ',H',I,q⟩:=h;exact ⟨σ',H',I.unwish,q⟩
  | ret u=>obtain ⟨v,σ',H',I,r,q⟩:=h;exact ⟨v,σ',H',I.unwish,r,q⟩
theorem PE.nox {e:Expr} {t:TE} (h:PE X.nox e t):PE X e t:=fun pins s σ H Q I hw=>
  wpAny_mono (h pins s σ H Q (I.wish _) hw) (fun _ _ ⟨v,H',I',r,q⟩=>⟨v,H',I'.unwish,r,q⟩) fun _ _ z=>False.elim z
theorem PT.nox {e:Expr} {t:TT} (h:PT X.nox e t):PT X e t:=fun pins s σ H Q I hw=>
  wpAny_mono (h pins s σ H Q (I.wish _) hw) (fun _ _ ⟨H',I',q⟩=>⟨H',I'.unwish,q⟩) fun _ _ z=>False.elim z
theorem PSs.nox {st:List Stmt} {t:TS} (h:PSs X.nox st t):PSs X st t:=fun pins s σ H D I hw=>
  wpAny_mono (h pins s σ H D (I.wish _) hw) (fun _ _ q=>q.unwish) fun _ _ z=>False.elim z
end
section
variable {X:Cx} {st:Stmt} {rest:List Stmt} {t u:TS} {e:Expr} {te:TE} {pos:Pos}
def tNext:TS:=fun D σ H=>D.nx σ H
def tSeq (t u:TS):TS:=fun D σ H=>t { D with nx:=u D } σ H
theorem pss_nil:PSs X [] tNext:=fun _ _ σ H _ I h=>wpAny_execs_nil ⟨σ,H,I,h⟩
theorem pss_cons (h1:PS X st t) (h2:PSs X rest u):PSs X (st::rest) (tSeq t u):=by
  intro pins s σ H D I h
  refine wpAny_execs_cons (thn (h1 pins s σ H { D with nx:=u D } I h) fun f s1 q=>?_)
  cases f with
  | next=>
    obtain ⟨σ',H',I',q⟩:=q
    exact h2 pins s1 σ' H' D I' q
  | ret v=>exact q
  | brk=>exact q
  | cont=>exact q
theorem pss_one (h1:PS X st t):PSs X [st] t:=by
  intro pins s σ H D I h
  refine wpAny_execs_cons (thn (h1 pins s σ H D I h) fun f s1 q=>?_)
  cases f with
  | next=>exact wpAny_execs_nil q
  | ret v=>exact q
  | brk=>exact q
  | cont=>exact q
theorem Inv.quiet {pins:List (Addr×Obj)} {σ:St} {H:Hp} {s:Shared} (I:Inv X pins σ H s):interactive X.env=false:=by simp [interactive,I.ok.kind]
def tDrop (te:TE):TS:=fun D σ H=>te σ H fun _ H1=>D.nx σ H1
theorem ps_expr (he:PE X e te) (hs:swapsWith e none pos.line X.env=pure false:=by rfl):PS X (.Expr e pos) (tDrop te):=by
  intro pins s σ H D I h
  exact wpAny_Expr_any (thn (he pins s σ H _ I h) fun v s1 ⟨x,H1,I1,r1,q1⟩=>⟨σ,H1,I1,q1⟩) I.quiet hs
def tRet (te:TE):TS:=fun D σ H=>te σ H D.rt
theorem ps_ret (he:PE X e te):PS X (.Return (some e) pos) (tRet te):=by
  intro pins s σ H D I h
  exact wpAny_Return_some (thn (he pins s σ H _ I h) fun v s1 ⟨x,H1,I1,r1,q1⟩=>⟨x,σ,H1,I1,r1,q1⟩)
def tIfS (c:TT) (t u:TS):TS:=fun D σ H=>c σ H fun b H1=>if b=true then t D σ H1 else u D σ H1
theorem ps_if {c:Expr} {a b:List Stmt} {tc:TT} (hc:PT X c tc) (ha:PSs X a t) (hb:PSs X b u):PS X (.If c a b pos) (tIfS tc t u):=by
  intro pins s σ H D I h
  refine wpAny_If (thn (hc pins s σ H _ I h) fun d s1 ⟨H1,I1,q1⟩=>?_)
  cases d with
  | true=>exact ha pins s1 σ H1 D I1 q1
  | false=>exact hb pins s1 σ H1 D I1 q1
end
abbrev TG:=V→St→Hp→(St→Hp→Prop)→Prop
abbrev TGs:=List V→St→Hp→(St→Hp→Prop)→Prop
def PG (X:Cx) (target:Expr) (t:TG):Prop:=
  ∀ (pins:List (Addr×Obj)) (s:Shared) (σ:St) (H:Hp) (v:V) (u:Value) (Q:St→Hp→Prop),Inv X pins σ H s→RelV v u→t v σ H Q→
    wpAny (model X.prog X.w) X.A (assign target X.env u) (fun _ s'=>∃ σ' H',Inv X pins σ' H' s'∧Q σ' H') X.xe s
def PGs (X:Cx) (ts:List Expr) (t:TGs):Prop:=
  ∀ (pins:List (Addr×Obj)) (s:Shared) (σ:St) (H:Hp) (vs:List V) (us:List Value) (Q:St→Hp→Prop),Inv X pins σ H s→Vals vs us→t vs σ H Q→
    wpAny (model X.prog X.w) X.A (assignInOrder ((assignEach ts X.env).map (·.2)) us) (fun _ s'=>∃ σ' H',Inv X pins σ' H' s'∧Q σ' H') X.xe s
abbrev TSet:=V→V→V→Hp→(Hp→Prop)→Prop
def PSet (X:Cx) (t:TSet):Prop:=
  ∀ (pins:List (Addr×Obj)) (s:Shared) (σ:St) (H:Hp) (o i v:V) (ov iv u:Value) (Q:Hp→Prop),Inv X pins σ H s→RelV o ov→RelV i iv→RelV v u→t o i v H Q→
    wpAny (model X.prog X.w) X.A (setItem ov iv u) (fun _ s'=>∃ H',Inv X pins σ H' s'∧Q H') X.xe s
abbrev TIp:=V→V→Hp→VK→Prop
def PIp (X:Cx) (op:Operator) (t:TIp):Prop:=
  ∀ (pins:List (Addr×Obj)) (s:Shared) (σ:St) (H:Hp) (x y:V) (v u:Value) (Q:VK),Inv X pins σ H s→RelV x v→RelV y u→t x y H Q→
    wpAny (model X.prog X.w) X.A (inplaceOp op v u) (EP X pins σ Q) X.xe s
section
variable {X:Cx} {pos:Pos}
def gName (i:Nat):TG:=fun v σ H Q=>Q (σ.set i (some v)) H
theorem pg_name {i:Nat} {x:Str} (hN:X.N.Nodup) (hi:X.N[i]? = some x) (hx:Loc X.env.scope x) (hf:X.fn x=true∨X.env.scope.names.lookup x=some .local:=by first | exact .inl rfl | exact .inr rfl | assumption):PG X (.Name x pos) (gName i):=by
  intro pins s σ H v u Q I r h
  exact wpAny_assign_Name (store_ok I hN hi hx r (fun s' I'=>⟨_,H,I',h⟩) hf)
def gNil:TGs:=fun vs σ H Q=>vs=[]∧Q σ H
def gCons (t:TG) (u:TGs):TGs:=fun vs σ H Q=>∃ v r,vs=v::r∧t v σ H fun σ' H'=>u r σ' H' Q
theorem pgs_nil:PGs X [] gNil:=by
  intro pins s σ H vs us Q I r h
  obtain ⟨e,h⟩:=h
  subst e
  cases r
  exact assignInOrder_nil ⟨σ,H,I,h⟩
theorem pgs_cons {e:Expr} {es:List Expr} {t:TG} {u:TGs} (h1:PG X e t) (h2:PGs X es u)
    (hs:(assignEach (e::es) X.env).map (·.2)=assign e X.env::(assignEach es X.env).map (·.2):=by rfl):PGs X (e::es) (gCons t u):=by
  intro pins s σ H vs us Q I r h
  obtain ⟨v,vr,e1,h⟩:=h
  subst e1
  cases r with
  | cons r rr=>
    rw [hs]
    refine assignInOrder_cons (thn (h1 pins s σ H _ _ _ I r h) fun _ s1 ⟨σ1,H1,I1,q1⟩=>?_)
    exact h2 pins s1 σ1 H1 _ _ Q I1 rr q1
def gTup (K:PySem.W.Frag) (n:Nat) (t:TGs):TG:=fun v σ H Q=>∃ a xs,v = .ref a∧SqT K H a xs∧xs.length=n∧t xs σ H Q
theorem pg_tup {es:List Expr} {k:Nat} {t:TGs} {n:Nat} (hc:X.calm=true) (h:PGs X es t)
    (hn:(assignEach es X.env).length=n:=by rfl) (hst:(assignEach es X.env).findIdx? (·.1)=none:=by rfl):PG X (.Tuple es k pos) (gTup X.K n t):=by
  intro pins s σ H v u Q I r hw
  obtain ⟨a,xs,e1,hq,hl,hw⟩:=hw
  subst e1
  cases r
  obtain ⟨its,rv,ht,hz⟩:=I.tuple hq
  refine assign_Tuple_tuple (I.ok.hd hc) ht (by simp [hn,← hl,rv.length]) hst fun h' hx=>?_
  have I1:Inv X pins σ H { s with heap:=h' }:=I.kept (t':=s.toks) fun b o e=>hx b o (Nat.ne_of_lt (Heap.lt_size e)) e
  exact h pins _ σ H xs _ Q I1 (by simpa using rv) hw
def gSub (to ti:TE) (t:TSet):TG:=fun v σ H Q=>to σ H fun o H1=>ti σ H1 fun i H2=>t o i v H2 fun H3=>Q σ H3
theorem pg_sub {o i:Expr} {to ti:TE} {t:TSet} (ho:PE X o to) (hi:PE X i ti) (hs:PSet X t)
    (ha:∀ v,assign (.Subscript o i pos) X.env v=(do
      let ov ← holding [v] (eval o X.env)
      let iv ← holding [v,ov] (eval i X.env)
      standAt pos
      holding [v,ov,iv] (setItem ov iv v)
      release [v,ov,iv] []):=by intro _;rfl):PG X (.Subscript o i pos) (gSub to ti t):=by
  intro pins s σ H v u Q I r h
  rw [ha]
  refine wpAny_bind (wpAny_holding (thn (ho pins s σ H _ I h) fun ov s1 ⟨x,H1,I1,r1,q1⟩=>?_))
  refine wpAny_bind (wpAny_holding (thn (hi pins s1 σ H1 _ I1 q1) fun iv s2 ⟨y,H2,I2,r2,q2⟩=>?_))
  refine wpAny_bind (wpAny_standAt (wpAny_bind (wpAny_holding (thn (hs pins s2 σ H2 x y v ov iv u _ I2 r1 r2 r q2) fun _ s3 ⟨H3,I3,q3⟩=>?_))))
  exact wpAny_release ⟨σ,H3,I3,q3⟩
def tAsg (te:TE) (g:TG):TS:=fun D σ H=>te σ H fun x H1=>g x σ H1 D.nx
theorem ps_asg {tg e:Expr} {te:TE} {g:TG} (he:PE X e te) (hg:PG X tg g) (hs:swapsWithSole [tg] e pos.line X.env=pure false:=by rfl) (hw:swappedStores [tg] e X.env=pure none:=by rfl)
    (h1:(assignEach [tg] X.env).map (·.2)=[assign tg X.env]:=by rfl):PS X (.Assign [tg] e pos) (tAsg te g):=by
  intro pins s σ H D I h
  refine wpAny_Assign_stores (thn (he pins s σ H _ I h) fun v s1 ⟨x,H1,I1,r1,q1⟩=>?_) hs hw
  rw [h1]
  exact thn (hg pins s1 σ H1 x v _ I1 r1 q1) fun _ s2 q=>q
theorem ps_set {i:Nat} {x:Str} {e:Expr} {te:TE} {pos':Pos} (hN:X.N.Nodup) (hi:X.N[i]? = some x) (hx:Loc X.env.scope x) (he:PE X e te) (hs:swapsWith e (some (.Name x pos')) pos.line X.env=pure false:=by rfl) (hf:X.fn x=true∨X.env.scope.names.lookup x=some .local:=by first | exact .inl rfl | exact .inr rfl | assumption) :
    PS X (.Assign [.Name x pos'] e pos) (tAsg te (gName i)):=by
  intro pins s σ H D I h
  refine wpAny_Assign_Name (thn (he pins s σ H _ I h) fun v s1 ⟨y,H1,I1,r1,q1⟩=>?_) hs
  exact store_ok I1 hN hi hx r1 (fun s2 I2=>⟨_,H1,I2,q1⟩) hf
def tPar (i j:Nat) (ta:TA):TS:=fun D σ H=>ta σ H fun vs H1=>∃ v w,vs=[v,w]∧D.nx ((σ.set i (some v)).set j (some w)) H1
theorem ps_par {i j:Nat} {x y:Str} {a b:Expr} {ta:TA} {px py pt:Pos} {kt k2 pt2} (hc:X.calm=true) (hN:X.N.Nodup) (hi:X.N[i]? = some x) (hj:X.N[j]? = some y) (hij:i≠j)
    (hx:X.env.scope.names.lookup x=some .local) (hy:X.env.scope.names.lookup y=some .local) (ha:PA X [a,b] ta)
    (hw:swappedStores [.Tuple [.Name x px,.Name y py] kt pt] (.Tuple [a,b] k2 pt2) X.env=pure (some [x,y]))
    (hs:swapsWithSole [.Tuple [.Name x px,.Name y py] kt pt] (.Tuple [a,b] k2 pt2) pos.line X.env=pure false:=by rfl) :
    PS X (.Assign [.Tuple [.Name x px,.Name y py] kt pt] (.Tuple [a,b] k2 pt2) pos) (tPar i j ta):=by
  intro pins s σ H D I h
  rw [exec_Assign_arm]
  refine wpAny_bind (wpAny_standAt ?_)
  rw [hs]
  refine wpAny_bind (wpAny_pure ?_)
  rw [if_neg (by decide)]
  refine wpAny_bind (Tuple_ (thn (ha _ pins s σ H _ I h) fun us s1 ⟨vs,H1,I1,r1,q1⟩=>?_))
  obtain ⟨v,w,e1,q1⟩:=q1
  subst e1
  obtain ⟨u1,u2,rfl,rv,rw'⟩:∃ u1 u2,us=[u1,u2]∧RelV v u1∧RelV w u2:=by
    cases r1 with
    | cons p q=>
      cases q with
      | cons p' q'=>
        cases q'
        exact ⟨_,_,rfl,p,p'⟩
  refine wpAny_newObj_type ?_ (by show 2≤sizeLine;decide)
  have I2:Inv X pins σ H1 { s1 with heap:=s1.heap.push { cls:=.type "tuple",data:=.seq [u1,u2].toArray } }:=I1.kept (t':=s1.toks) fun b o e=>Heap.get?_push_of_some _ e
  rw [hw]
  refine wpAny_bind (wpAny_pure ?_)
  show wpAny (model X.prog X.w) X.A (do rule "assign.swapped-stores";let items ← unpackItems (.ref s1.heap.objs.size) 2 none;assignInOrder [fun v=>bindName X.env y v,fun v=>bindName X.env x v] items.reverse;pure Flow.next) _ _ _
  refine wpAny_bind (wpAny_rule (wpAny_bind (unpackItems_tuple (items:=#[u1,u2]) (I.ok.hd hc) (IsTup.new s1.heap _) fun h' hx'=>?_)))
  have I3:=I2.kept (h':=h') (t':=s1.toks) fun b o e=>hx' b o (Nat.ne_of_lt (Heap.lt_size e)) e
  show wpAny _ _ (assignInOrder [fun v=>bindName X.env y v,fun v=>bindName X.env x v] [u2,u1] >>= fun _=>pure Flow.next) _ _ _
  refine wpAny_bind (assignInOrder_cons (wpAny_bindName (store_ok I3 hN hj (.inl hy) rw' (fun s2 I4=>?_) (.inr hy))))
  refine assignInOrder_cons (wpAny_bindName (store_ok I4 hN hi (.inl hx) rv (fun s3 I5=>assignInOrder_nil (wpAny_pure ?_)) (.inr hx)))
  rw [List.set_comm _ _ (Ne.symm hij)] at I5
  exact ⟨_,H1,I5,q1⟩
def tAug (i:Nat) (te:TE) (ti:TIp):TS:=fun D σ H=>∃ x,σ[i]? = some (some x)∧te σ H fun y H1=>ti x y H1 fun z H2=>D.nx (σ.set i (some z)) H2
theorem ps_aug {i:Nat} {x:Str} {e:Expr} {te:TE} {op:Operator} {ti:TIp} {pos':Pos} (hN:X.N.Nodup) (hi:X.N[i]? = some x) (hx:Loc X.env.scope x) (he:PE X e te) (ho:PIp X op ti) (hf:X.fn x=true∨X.env.scope.names.lookup x=some .local:=by first | exact .inl rfl | exact .inr rfl | assumption) :
    PS X (.AugAssign (.Name x pos') op e pos) (tAug i te ti):=by
  intro pins s σ H D I h
  obtain ⟨v,e1,h⟩:=h
  obtain ⟨m,hn,hl⟩:=I.loc
  have vis:Vis X.env.scope x:=by rcases hx with k | k;exact .inl k;exact .inr (.inl k)
  obtain ⟨u,r,l⟩:=hl i x v hi e1 vis
  refine wpAny_AugAssign_Name ?_
  have go:wpAny (model X.prog X.w) X.A (eval e X.env) (fun w s₂=>wpAny (model X.prog X.w) X.A (inplaceOp op u w) (fun r s₃=>wpAny (model X.prog X.w) X.A (storeName X.env x r) (fun _=>SP X pins D .next) X.xe s₃) X.xe s₂) X.xe s:=by
    refine thn (he pins s σ H _ I h) fun w s1 ⟨y,H1,I1,r1,q1⟩=>?_
    refine thn (ho pins s1 σ H1 v y u w _ I1 r r1 q1) fun z s2 ⟨zv,H2,I2,r2,q2⟩=>?_
    exact store_ok I2 hN hi hx r2 (fun s3 I3=>⟨_,H2,I3,q2⟩) hf
  rcases l with ⟨hk,hm⟩ | ⟨hk,c,hc,hcell⟩
  · exact wpAny_loadName_local I.ok.kind hk hn hm go
  · rcases hk with hk | hk
    · exact wpAny_loadName_cell I.ok.kind hk hc hcell go
    · rcases hx with k | k
      · have:X.env.scope.names.lookup x=some .free:=hk
        rw [k] at this;cases this
      · have:X.env.scope.names.lookup x=some .free:=hk
        rw [k] at this;cases this
def ipI (f:Int→Int→Int):TIp:=fun x y H Q=>∃ i j,x = .int i∧y = .int j∧Q (.int (f i j)) H
theorem ip_add:PIp X .Add (ipI fun i j=>i+j):=by
  intro pins s σ H x y v u Q I r1 r2 h
  obtain ⟨i,j,e1,e2,q⟩:=h
  subst e1;subst e2
  obtain ⟨t,rfl⟩:=r1
  obtain ⟨t',rfl⟩:=r2
  exact iadd_int ⟨.int _,H,I.tok _,⟨_,rfl⟩,q⟩
end
section
variable {X:Cx} {pos:Pos}
def tWhile (c:TT) (tb:TS):TS:=fun D σ H=>∃ W:Nat→St→Hp→Prop,(∃ m,W m σ H)∧∀ m σ H,W m σ H→
  c σ H fun b H1=>if b=true then ∃ N:St→Hp→Prop,(∀ σ' H',N σ' H'→∃ m',m' < m∧W m' σ' H')∧tb { D with nx:=N,ct:=N,bk:=D.nx } σ H1 else D.nx σ H1
theorem ps_while {c:Expr} {body:List Stmt} {tc:TT} {tb:TS} (hp:PassesOwn (model X.prog X.w) X.A X.env X.xe) (hc:PT X c tc) (hb:PSs X body tb):PS X (.While c body [] pos) (tWhile tc tb):=by
  intro pins s σ H D I h
  obtain ⟨W,⟨m0,w0⟩,turn⟩:=h
  refine wpAny_While (codeAny_whileLoop (fun n s'=>∃ σ' H',Inv X pins σ' H' s'∧W n σ' H') ?_ m0 ⟨σ,H,I,w0⟩)
  rintro n s1 ⟨σ1,H1,I1,w1⟩
  refine wpAny_passesOwn hp (thn (hc pins s1 σ1 H1 _ I1 (turn n σ1 H1 w1)) fun b s2 ⟨H2,I2,q2⟩=>?_)
  cases b with
  | true=>
    obtain ⟨N,hN,q2⟩:=q2
    rw [if_pos rfl]
    refine wpAny_passesOwn hp (thn (hb pins s2 σ1 H2 _ I2 q2) fun f s3 q3=>?_)
    cases f with
    | next=>
      obtain ⟨σ3,H3,I3,n3⟩:=q3
      obtain ⟨m',hm,w3⟩:=hN σ3 H3 n3
      exact ⟨m',hm,σ3,H3,I3,w3⟩
    | cont=>
      obtain ⟨σ3,H3,I3,n3⟩:=q3
      obtain ⟨m',hm,w3⟩:=hN σ3 H3 n3
      exact ⟨m',hm,σ3,H3,I3,w3⟩
    | brk=>exact q3
    | ret v=>exact q3
  | false=>
    rw [if_neg Bool.false_ne_true]
    exact wpAny_execs_nil ⟨σ1,H2,I2,q2⟩
end
structure It where
  go:Nat→Hp→Prop
  yld:Nat→Hp→V→Hp→Prop
  stop:Nat→Hp→Prop
def FpOk (X:Cx) (pins:List (Addr×Obj)) (H:Hp) (b:Addr):Prop:=
  H b=none∧b≠X.env.locals∧b∉X.fs∧(b∈X.ex∨X.s₀.heap.objs.size≤b)∧(∀ x c,X.env.cells.lookup x=some c→c≠b)∧∀ p∈X.pn++pins,p.1≠b
theorem Inv.fpOk {X:Cx} {pins:List (Addr×Obj)} {σ:St} {H H':Hp} {s:Shared} {b:Addr} (I:Inv X pins σ H s) (hb:s.heap.objs.size≤b) (hn:H' b=none):FpOk X pins H' b:=by
  refine ⟨hn,Nat.ne_of_gt (Nat.lt_of_lt_of_le I.lt hb),I.nofs hb,.inr (Nat.le_trans I.sz hb),fun x c e z=>?_,fun p hp z=>?_⟩
  · obtain ⟨v,q⟩:=I.cell x c e
    exact absurd (Nat.lt_of_lt_of_le q.lt (by rw [z];exact hb)) (Nat.lt_irrefl _)
  · exact absurd (Nat.lt_of_lt_of_le (Heap.lt_size (I.pin p hp).1) (by rw [z];exact hb)) (Nat.lt_irrefl _)
structure Turn (P:Program) (w:World) (K:PySem.W.Frag) (tg:Expr) (J:It) (fp:List Addr) (it:Addr) (tn:Nat→Heap→Prop):Prop where
  mem:it∈fp
  obj:∀ i h,tn i h→∀ b∈fp,∃ o,h.get? b=some o∧∀ v,o.data≠.cell v
  keep:∀ i h h',tn i h→(∀ b∈fp,∀ o,h.get? b=some o→h'.get? b=some o)→tn i h'
  item:∀ (X:Cx),X.prog=P→X.w=w→X.K=K→X.calm=true→∀ (i:Nat) (pins:List (Addr×Obj)) (s:Shared) (σ:St) (H:Hp) (E:Value→Shared→Prop),Inv X pins σ H s→(∀ b∈fp,FpOk X pins H b)→tn i s.heap→J.go i H→
    wpAny (model P w) X.A (pyNext (.ref it)) (fun r s1=>∃ u,r=some u∧
      wpAny (model P w) X.A (letOwnedTupleGo tg (.ref it) u) (fun _ s2=>∃ x H',Inv X pins σ H' s2∧RelV x u∧J.yld i H x H'∧tn (i+1) s2.heap∧∀ b∈fp,H' b=none) E s1) E s
  done:∀ (X:Cx),X.prog=P→X.w=w→X.K=K→X.calm=true→∀ (i:Nat) (pins:List (Addr×Obj)) (s:Shared) (σ:St) (H:Hp) (E:Value→Shared→Prop),Inv X pins σ H s→(∀ b∈fp,FpOk X pins H b)→tn i s.heap→J.stop i H→
    wpAny (model P w) X.A (pyNext (.ref it)) (fun r s1=>r=none∧Inv X pins σ H s1) E s
  self:∀ (A:Around) (i:Nat) (s:Shared) (Q:Value→Shared→Prop) (E:Value→Shared→Prop),tn i s.heap→Q (.ref it) s→wpAny (model P w) A (pyIter (.ref it)) Q E s
abbrev TI:=St→Hp→(It→Hp→Prop)→Prop
def PIE (X:Cx) (pins:List (Addr×Obj)) (σ:St) (tg:Expr) (R:It→Hp→Prop) (itv:Value) (s2:Shared):Prop:=
  ∃ (it:Addr) (fp:List Addr) (tn:Nat→Heap→Prop) (J:It) (H':Hp),itv = .ref it∧Inv X pins σ H' s2∧Turn X.prog X.w X.K tg J fp it tn∧tn 0 s2.heap∧(∀ b∈fp,FpOk X pins H' b)∧R J H'
def PI (X:Cx) (tg iter:Expr) (wi:TI):Prop:=
  ∀ (pins:List (Addr×Obj)) (s:Shared) (σ:St) (H:Hp) (R:It→Hp→Prop),Inv X pins σ H s→wi σ H R→
    wpAny (model X.prog X.w) X.A (eval iter X.env) (fun v s1=>wpAny (model X.prog X.w) X.A (pyIter v) (PIE X pins σ tg R) X.xe s1) X.xe s
theorem go_of {M:Model} {A:Around} {E:Value→Shared→Prop} {s:Shared} {tg:Expr} {it:Addr} {u:Value} {o:Obj} {n:String} {vs:Array Value} {Q:Unit→Shared→Prop} (ho:s.heap.get? it=some o) (hc:o.cls = .type n) (hd:o.data = .fields vs)
    (hn:["enumerate", "zip", "dict_itemiterator", "dict_reverseitemiterator", "odict_iterator", "itertools.zip_longest", "itertools.pairwise"].contains n=false) (hQ:Q () s):wpAny M A (letOwnedTupleGo tg (.ref it) u) Q E s:=by
  unfold letOwnedTupleGo
  cases tg<;>first
    | exact wpAny_pure hQ
    | (cases u<;>first
        | exact wpAny_pure hQ
        | (refine wpAny_bind (wpAny_load ho ?_)
           rw [hc,hd]
           show wpAny M A (if (["enumerate", "zip", "dict_itemiterator", "dict_reverseitemiterator", "odict_iterator", "itertools.zip_longest", "itertools.pairwise"].contains n && vs[0]? == some (rawInt _))=true then _ else _) Q E s
           rw [if_neg (by intro h;rw [hn,Bool.false_and] at h;cases h)]
           exact wpAny_pure hQ))
def Itl (K:PySem.W.Frag) (a:Addr):It:=
  ⟨fun i H=>∃ xs x,SqL K H a xs∧xs[i]? = some x,fun i H x H'=>H'=H∧∀ xs,SqL K H a xs→xs[i]? = some x,fun i H=>∃ xs,SqL K H a xs∧xs.length≤i⟩
def Itt (K:PySem.W.Frag) (a:Addr):It:=
  ⟨fun i H=>∃ xs x,SqT K H a xs∧xs[i]? = some x,fun i H x H'=>H'=H∧∀ xs,SqT K H a xs→xs[i]? = some x,fun i H=>∃ xs,SqT K H a xs∧xs.length≤i⟩
def Itr (lo:Int) (n:Nat):It:=⟨fun i _=>i < n,fun i H x H'=>H'=H∧x = .int (lo+i),fun i _=>n≤i⟩
theorem turn_list {P:Program} {w:World} {K:PySem.W.Frag} {tg:Expr} (a it:Addr):Turn P w K tg (Itl K a) [it] it (fun i h=>h.IsListIter it a i) where
  mem:=by simp
  obj:=fun i h st b hb=>by
    have e:b=it:=by simpa using hb
    subst e
    obtain ⟨o,e,c,d⟩:=st
    exact ⟨o,e,fun v z=>by rw [d] at z;cases z⟩
  keep:=fun i h h' st k=>st.at fun o e=>k it (by simp) o e
  item:=by
    intro X hP hw hK hc i pins s σ H E I hf st hg
    subst hP hw hK
    obtain ⟨xs,x,hq,hx⟩:=hg
    obtain ⟨its,rv,p,hz⟩:=I.list hq
    obtain ⟨u,hu,ru⟩:=rv.get hx
    obtain ⟨f0,f1,f2,f3,f4,f5⟩:=hf it (by simp)
    refine wpAny_pyNext_list_item st p.isList (x:=u) (by simpa using hu) fun h' st' sb=>?_
    have I1:Inv X pins σ H { s with heap:=h' }:=I.turned (t':=s.toks) (fun b o hb e=>(sb.2 b hb).trans e) f0 f1 f3 f4 f5
    obtain ⟨o,e,c,d⟩:=id st'
    exact ⟨u,rfl,go_of (s:={ s with heap:=h' }) e c d (by decide) ⟨x,H,I1,ru,⟨rfl,fun ys hy=>by rw [I.list_inj hy hq];exact hx⟩,st',fun b hb=>(hf b hb).1⟩⟩
  done:=by
    intro X hP hw hK hc i pins s σ H E I hf st hg
    subst hP hw hK
    obtain ⟨xs,hq,hx⟩:=hg
    obtain ⟨its,rv,p,hz⟩:=I.list hq
    obtain ⟨f0,f1,f2,f3,f4,f5⟩:=hf it (by simp)
    have hl:=rv.length
    exact wpAny_pyNext_list_end (I.ok.hd hc) st p.isList (by simp;omega) fun h' eb=>⟨rfl,I.turned (t':=s.toks) (fun b o hb e=>eb b o hb e) f0 f1 f3 f4 f5⟩
  self:=fun _ _ _ _ _ st h=>wpAny_pyIter_listiter st h
theorem turn_tuple {P:Program} {w:World} {K:PySem.W.Frag} {tg:Expr} (a it:Addr):Turn P w K tg (Itt K a) [it] it (fun i h=>h.IsTupleIter it a i) where
  mem:=by simp
  obj:=fun i h st b hb=>by
    have e:b=it:=by simpa using hb
    subst e
    obtain ⟨o,e,c,d⟩:=st
    exact ⟨o,e,fun v z=>by rw [d] at z;cases z⟩
  keep:=fun i h h' st k=>st.at fun o e=>k it (by simp) o e
  item:=by
    intro X hP hw hK hc i pins s σ H E I hf st hg
    subst hP hw hK
    obtain ⟨xs,x,hq,hx⟩:=hg
    obtain ⟨its,rv,p,hz⟩:=I.tuple hq
    obtain ⟨u,hu,ru⟩:=rv.get hx
    obtain ⟨f0,f1,f2,f3,f4,f5⟩:=hf it (by simp)
    refine wpAny_pyNext_tuple_item st (show s.heap.IsTuple a its.toArray from p) (x:=u) (by simpa using hu) fun h' st' sb=>?_
    have I1:Inv X pins σ H { s with heap:=h' }:=I.turned (t':=s.toks) (fun b o hb e=>(sb.2 b hb).trans e) f0 f1 f3 f4 f5
    obtain ⟨o,e,c,d⟩:=id st'
    exact ⟨u,rfl,go_of (s:={ s with heap:=h' }) e c d (by decide) ⟨x,H,I1,ru,⟨rfl,fun ys hy=>by rw [I.tuple_inj hy hq];exact hx⟩,st',fun b hb=>(hf b hb).1⟩⟩
  done:=by
    intro X hP hw hK hc i pins s σ H E I hf st hg
    subst hP hw hK
    obtain ⟨xs,hq,hx⟩:=hg
    obtain ⟨its,rv,p,hz⟩:=I.tuple hq
    obtain ⟨f0,f1,f2,f3,f4,f5⟩:=hf it (by simp)
    have hl:=rv.length
    exact wpAny_pyNext_tuple_end (I.ok.hd hc) st (show s.heap.IsTuple a its.toArray from p) (by simp;omega) fun h' eb=>⟨rfl,I.turned (t':=s.toks) (fun b o hb e=>eb b o hb e) f0 f1 f3 f4 f5⟩
  self:=fun _ _ _ _ _ st h=>wpAny_pyIter_tupleiter st h
theorem turn_range {P:Program} {w:World} {K:PySem.W.Frag} {tg:Expr} (it:Addr) (lo:Int) (n:Nat):Turn P w K tg (Itr lo n) [it] it (fun i h=>IsRangeIter h it (lo+(i:Nat)*1) ((n:Int) - (i:Nat)) 1) where
  mem:=by simp
  obj:=fun i h st b hb=>by
    have e:b=it:=by simpa using hb
    subst e
    exact ⟨_,st,fun v z=>by
      have z':Data.fields _=Data.cell v:=z
      cases z'⟩
  keep:=fun i h h' st k=>k it (by simp) _ st
  item:=by
    intro X hP hw hK hc i pins s σ H E I hf st hg
    subst hP hw hK
    obtain ⟨f0,f1,f2,f3,f4,f5⟩:=hf it (by simp)
    have W:=Walks.range (prog:=X.prog) (w:=X.w) (I.ok.hd hc) it lo 1 n
    refine W.item i s _ _ hg st fun v h' tk hv st' kk=>?_
    obtain ⟨t,rfl⟩:=hv
    have I1:Inv X pins σ H { s with heap:=h',toks:=tk }:=I.turned (fun b o hb e=>kk b o (by simpa using hb) e) f0 f1 f3 f4 f5
    refine ⟨_,rfl,go_of (s:={ s with heap:=h',toks:=tk }) (n:= "range_iterator") st' rfl rfl (by decide) ⟨.int (lo+i),H,I1,⟨t,?_⟩,⟨rfl,rfl⟩,st',fun b hb=>(hf b hb).1⟩⟩
    rw [Int.mul_one]
  done:=by
    intro X hP hw hK hc i pins s σ H E I hf st hg
    subst hP hw hK
    obtain ⟨f0,f1,f2,f3,f4,f5⟩:=hf it (by simp)
    exact wpAny_pyNext_range_end (I.ok.hd hc) st (by have:n≤i:=hg;omega) fun h' eb=>⟨rfl,I.turned (t':=s.toks) (fun b o hb e=>eb b o hb e) f0 f1 f3 f4 f5⟩
  self:=fun _ _ _ _ _ st h=>wpAny_pyIter_rangeiter st h
section
variable {X:Cx} {tg:Expr}
theorem range_it {pins:List (Addr×Obj)} {σ:St} {H:Hp} {s:Shared} {R:It→Hp→Prop} {E:Value→Shared→Prop} {lo hi:Int} {t u v:Tok} {tk:Nat} (I:Inv X pins σ H s) (h1:-(2 ^ 62)≤lo) (h2:lo < 2 ^ 62) (h3:-(2 ^ 62)≤hi) (h4:hi < 2 ^ 62)
    (q:R (Itr lo (hi - lo).toNat) H):wpAny (model X.prog X.w) X.A (pyIter (.ref s.heap.objs.size)) (PIE X pins σ tg R) E { s with heap:=s.heap.push { cls:=.type "range",data:=.fields #[.int lo t,.int hi u,.int 1 v] },toks:=tk }:=by
  refine wpAny_pyIter_range (IsRange.new ..) (small_one h1 h2 h3 h4) ?_
  have I1:Inv X pins σ H { s with heap:=s.heap.push { cls:=.type "range",data:=.fields #[.int lo t,.int hi u,.int 1 v] },toks:=tk }:=I.kept fun b o e=>Heap.get?_push_of_some _ e
  refine ⟨(s.heap.push { cls:=.type "range",data:=.fields #[.int lo t,.int hi u,.int 1 v] }).objs.size,[(s.heap.push { cls:=.type "range",data:=.fields #[.int lo t,.int hi u,.int 1 v] }).objs.size],_,_,H,rfl,
    I1.kept (t':=tk) fun b o e=>Heap.get?_push_of_some _ e,turn_range _ lo (hi - lo).toNat,?_,fun b hb=>?_,q⟩
  · have e1:lo+((0:Nat):Int)*1=lo:=by simp
    have e2:(((hi - lo).toNat:Nat):Int) - ((0:Nat):Int)=Builtin.Range.rangeSize lo hi 1:=by rw [rangeSize_one];split<;>omega
    show IsRangeIter _ _ (lo+((0:Nat):Int)*1) ((((hi - lo).toNat:Nat):Int) - ((0:Nat):Int)) 1
    rw [e1,e2]
    exact Heap.get?_push_size _ rfl
  · have e:b=(s.heap.push { cls:=.type "range",data:=.fields #[.int lo t,.int hi u,.int 1 v] }).objs.size:=by simpa using hb
    subst e
    exact I1.fpOk (Nat.le_refl _) (I1.hok.fresh (Nat.le_refl _))
def iRng1 (ta:TA):TI:=fun σ H R=>ta σ H fun vs H1=>∃ j:Int,vs=[.int j]∧-(2 ^ 62)≤j∧j < 2 ^ 62∧R (Itr 0 j.toNat) H1
def iRng2 (ta:TA):TI:=fun σ H R=>ta σ H fun vs H1=>∃ i j:Int,vs=[.int i,.int j]∧(-(2 ^ 62)≤i∧i < 2 ^ 62∧-(2 ^ 62)≤j∧j < 2 ^ 62)∧R (Itr i (j - i).toNat) H1
theorem pi_range1 {a:Expr} {ta:TA} {p pos:Pos} (hg:Gl X "range") (hm:X.mg "range" = none) (ha:PA X [a] ta) (hs:starEach [a] X.env=[(false,eval a X.env)]:=by rfl):PI X tg (.Call (.Name "range" p) [a] [] pos) (iRng1 ta):=by
  intro pins s σ H R I h
  refine Call_ (ld_blt I hg hm boot_range (PyProof.Rows.callWith_type1 (thn (ha pos pins s σ H _ I h) fun us s1 ⟨vs,H1,I1,r1,q1⟩=>?_) hs rfl))
  obtain ⟨j,e,q1,q2,q⟩:=q1
  subst e
  cases r1 with
  | cons r rr=>
    cases rr
    obtain ⟨t,rfl⟩:=r
    exact call_range_1 (range_it I1 (by omega) (by omega) q1 q2 (by simpa using q))
theorem pi_range2 {a b:Expr} {ta:TA} {p pos:Pos} (hg:Gl X "range") (hm:X.mg "range" = none) (ha:PA X [a,b] ta) (hs:starEach [a,b] X.env=[(false,eval a X.env),(false,eval b X.env)]:=by rfl) (hs2:starEach [b] X.env=[(false,eval b X.env)]:=by rfl) :
    PI X tg (.Call (.Name "range" p) [a,b] [] pos) (iRng2 ta):=by
  intro pins s σ H R I h
  refine Call_ (ld_blt I hg hm boot_range (PyProof.Rows.callWith_type1 (thn (ha pos pins s σ H _ I h) fun us s1 ⟨vs,H1,I1,r1,q1⟩=>?_) (by rw [hs,hs2]) (by rw [hs2];rfl)))
  obtain ⟨i,j,e,⟨q1,q2,q3,q4⟩,q⟩:=q1
  subst e
  cases r1 with
  | cons r rr=>
    cases rr with
    | cons r' rr=>
      cases rr
      obtain ⟨t,rfl⟩:=r
      obtain ⟨t',rfl⟩:=r'
      exact call_range_2 (range_it I1 q1 q2 q3 q4 q)
def tFor (wi:TI) (g:TG) (tb:TS):TS:=fun D σ H=>wi σ H fun J H1=>∃ W:Nat→Nat→St→Hp→Prop,(∃ m,W 0 m σ H1)∧∀ i m σ H,W i m σ H→
  (J.stop i H∧D.nx σ H)∨(J.go i H∧∃ N:St→Hp→Prop,(∀ σ' H',N σ' H'→∃ m',m' < m∧W (i+1) m' σ' H')∧∀ x H',J.yld i H x H'→g x σ H' fun σ2 H2=>tb { D with nx:=N,ct:=N,bk:=D.nx } σ2 H2)
def pinsAt (fp:List Addr) (h:Heap):List (Addr×Obj):=fp.filterMap fun b=>(h.get? b).map fun o=>(b,o)
theorem mem_pinsAt {fp:List Addr} {h:Heap} {b:Addr} {o:Obj} (hb:b∈fp) (e:h.get? b=some o):(b,o)∈pinsAt fp h:=List.mem_filterMap.mpr ⟨b,hb,by rw [e];rfl⟩
theorem of_pinsAt {fp:List Addr} {h:Heap} {p:Addr×Obj} (hp:p∈pinsAt fp h):p.1∈fp∧h.get? p.1=some p.2:=by
  obtain ⟨b,hb,e⟩:=List.mem_filterMap.mp hp
  cases q:h.get? b with
  | none=>rw [q] at e;cases e
  | some o=>
    rw [q] at e
    have e':(b,o)=p:=Option.some.inj e
    subst e'
    exact ⟨hb,q⟩
theorem Inv.pinned {pins:List (Addr×Obj)} {σ:St} {H:Hp} {s:Shared} {fp:List Addr} (I:Inv X pins σ H s) (hf:∀ b∈fp,FpOk X pins H b) (ho:∀ b∈fp,∃ o,s.heap.get? b=some o∧∀ v,o.data≠.cell v):Inv X (pins++pinsAt fp s.heap) σ H s:=
  I.pins_of fun p hp=>(List.mem_append.mp hp).elim (fun z=>I.pin p (List.mem_append_right _ z)) fun z=>by
    obtain ⟨hb,e⟩:=of_pinsAt z
    obtain ⟨f0,f1,f2,_⟩:=hf p.1 hb
    obtain ⟨o,e',d⟩:=ho p.1 hb
    rw [e] at e';cases e'
    exact ⟨e,f0,f1,f2,d⟩
theorem Inv.unpinned {pins pl:List (Addr×Obj)} {σ:St} {H:Hp} {s:Shared} (I:Inv X (pins++pl) σ H s):Inv X pins σ H s:=I.pins_of fun p hp=>I.pin p (List.mem_append_right _ (List.mem_append_left _ hp))
theorem ps_for {iter:Expr} {body:List Stmt} {wi:TI} {g:TG} {tb:TS} {pos:Pos} (hp:PassesOwn (model X.prog X.w) X.A X.env X.xe) (hc:X.calm=true) (hi:PI X tg iter wi) (hg:PG X tg g) (hb:PSs X body tb)
    (hs:∀ x,foldedSetIterable iter X.env x=pure x:=by intro _;rfl):PS X (.For tg iter body [] pos) (tFor wi g tb):=by
  intro pins s σ H D I h
  refine wpAny_For (thn (hi pins s σ H _ I h) fun v s1 h1=>thn h1 fun itv s2 h2=>?_) hs
  obtain ⟨it,fp,tn,J,H2,e,I2,T,st2,f2,W,⟨m0,w0⟩,turn⟩:=h2
  subst e
  -- what stays true of the iterator's objects through the loop
  have stat:∀ {H':Hp},(∀ b∈fp,H' b=none)→∀ b∈fp,FpOk X pins H' b:=fun hn b hb=>⟨hn b hb,(f2 b hb).2⟩
  refine codeAny_forLoop_any (fun n s'=>∃ i σ' H',Inv X pins σ' H' s'∧tn i s'.heap∧(∀ b∈fp,H' b=none)∧W i n σ' H') ?_ m0 ⟨0,σ,H2,I2,st2,fun b hb=>(f2 b hb).1,w0⟩
  rintro n s3 ⟨i,σ3,H3,I3,st3,fr3,w3⟩
  rcases turn i n σ3 H3 w3 with ⟨stop,qn⟩ | ⟨go,N,hN,step⟩
  · refine wpAny_passesOwn hp (thn (T.done X rfl rfl rfl hc i pins s3 σ3 H3 X.xe I3 (stat fr3) st3 stop) fun r s4 ⟨hr,I4⟩=>?_)
    subst hr
    exact wpAny_execs_nil ⟨σ3,H3,I4,qn⟩
  · refine wpAny_passesOwn hp (thn (T.item X rfl rfl rfl hc i pins s3 σ3 H3 X.xe I3 (stat fr3) st3 go) fun r s4 ⟨u,hr,h4⟩=>?_)
    subst hr
    refine wpAny_passesOwn hp (thn h4 fun _ s5 ⟨x,H5,I5,r5,y5,st5,fr5⟩=>?_)
    have I5':=I5.pinned (stat fr5) (T.obj _ _ st5)
    refine wpAny_passesOwn hp (thn (hg _ s5 σ3 H5 x u _ I5' r5 (step x H5 y5)) fun _ s6 ⟨σ6,H6,I6,q6⟩=>?_)
    refine wpAny_passesOwn hp (thn (hb _ s6 σ6 H6 _ I6 q6) fun f s7 q7=>?_)
    have again:∀ {σ7:St} {H7:Hp},Inv X (pins++pinsAt fp s5.heap) σ7 H7 s7→N σ7 H7→∃ m,m < n∧∃ i σ' H',Inv X pins σ' H' s7∧tn i s7.heap∧(∀ b∈fp,H' b=none)∧W i m σ' H':=fun {σ7 H7} I7 n7=>by
      obtain ⟨m',hm,w7⟩:=hN σ7 H7 n7
      refine ⟨m',hm,i+1,σ7,H7,I7.unpinned,T.keep _ _ _ st5 fun b hb o e=>(I7.pin (b,o) (List.mem_append_right _ (List.mem_append_right _ (mem_pinsAt hb e)))).1,fun b hb=>?_,w7⟩
      obtain ⟨o,e,d⟩:=T.obj _ _ st5 b hb
      exact (I7.pin (b,o) (List.mem_append_right _ (List.mem_append_right _ (mem_pinsAt hb e)))).2.1
    cases f with
    | next=>obtain ⟨σ7,H7,I7,n7⟩:=q7;exact again I7 n7
    | cont=>obtain ⟨σ7,H7,I7,n7⟩:=q7;exact again I7 n7
    | brk=>obtain ⟨σ7,H7,I7,q7⟩:=q7;exact ⟨σ7,H7,I7.unpinned,q7⟩
    | ret v=>obtain ⟨x7,σ7,H7,I7,r7,q7⟩:=q7;exact ⟨x7,σ7,H7,I7.unpinned,r7,q7⟩
end
abbrev R2:=V→V→Hp→VK→Prop
def OpR (X:Cx) (f:Value→Value→Sem Value) (r:R2):Prop:=
  ∀ (pins:List (Addr×Obj)) (s:Shared) (σ:St) (H:Hp) (x y:V) (v u:Value) (Q:VK),Inv X pins σ H s→RelV x v→RelV y u→r x y H Q→
    wpAny (model X.prog X.w) X.A (f v u) (EP X pins σ Q) X.xe s
def UnR (X:Cx) (f:Value→Sem Value) (r:V→Hp→VK→Prop):Prop:=
  ∀ (pins:List (Addr×Obj)) (s:Shared) (σ:St) (H:Hp) (x:V) (v:Value) (Q:VK),Inv X pins σ H s→RelV x v→r x H Q→
    wpAny (model X.prog X.w) X.A (f v) (EP X pins σ Q) X.xe s
def CallR (X:Cx) (f:Value) (r:List V→Hp→VK→Prop):Prop:=
  ∀ (pins:List (Addr×Obj)) (s:Shared) (σ:St) (H:Hp) (xs:List V) (us:List Value) (Q:VK),Inv X pins σ H s→Vals xs us→r xs H Q→
    wpAny (model X.prog X.w) X.A (call f us) (EP X pins σ Q) X.xe s
def TruR (X:Cx) (r:V→Hp→(Bool→Hp→Prop)→Prop):Prop:=
  ∀ (pins:List (Addr×Obj)) (s:Shared) (σ:St) (H:Hp) (x:V) (v:Value) (Q:Bool→Hp→Prop),Inv X pins σ H s→RelV x v→r x H Q→
    wpAny (model X.prog X.w) X.A (truthy v) (TP X pins σ Q) X.xe s
def tOp (r:R2) (ta tb:TE):TE:=fun σ H Q=>ta σ H fun x H1=>tb σ H1 fun y H2=>r x y H2 Q
def tUn (r:V→Hp→VK→Prop) (ta:TE):TE:=fun σ H Q=>ta σ H fun x H1=>r x H1 Q
def rI (C:Int→Int→Prop) (g:Int→Int→V):R2:=fun x y H Q=>∃ i j,x = .int i∧y = .int j∧C i j∧Q (g i j) H
def rI0 (g:Int→Int→V):R2:=fun x y H Q=>∃ i j,x = .int i∧y = .int j∧Q (g i j) H
def rU (g:Int→V):V→Hp→VK→Prop:=fun x H Q=>∃ i,x = .int i∧Q (g i) H
section
variable {X:Cx} {a b c:Expr} {ta tb tc:TE} {pos:Pos}
theorem binT (ha:PE X a ta) (hb:PE X b tb) {pins:List (Addr×Obj)} {s:Shared} {σ:St} {H:Hp} {R:V→V→Hp→Prop} (I:Inv X pins σ H s)
    (h:ta σ H fun x H1=>tb σ H1 fun y H2=>R x y H2) {Q:Value→Shared→Prop} {f:Value→Value→Sem Value}
    (hf:∀ v u s2 x y H2,Inv X pins σ H2 s2→RelV x v→RelV y u→R x y H2→wpAny (model X.prog X.w) X.A (f v u) Q X.xe s2) :
    wpAny (model X.prog X.w) X.A (eval a X.env) (fun v s₁=>wpAny (model X.prog X.w) X.A (eval b X.env) (fun u s₂=>wpAny (model X.prog X.w) X.A (f v u) Q X.xe s₂) X.xe s₁) X.xe s:=by
  refine thn (ha pins s σ H _ I h) fun v s1 ⟨x,H1,I1,r1,q1⟩=>?_
  refine thn (hb pins s1 σ H1 _ I1 q1) fun u s2 ⟨y,H2,I2,r2,q2⟩=>?_
  exact hf v u s2 x y H2 I2 r1 r2 q2
theorem pe_op {op:Operator} {r:R2} (ho:OpR X (binaryOp op) r) (ha:PE X a ta) (hb:PE X b tb):PE X (.BinOp a op b pos) (tOp r ta tb):=by
  intro pins s σ H Q I h
  exact wpAny_BinOp (binT ha hb I h fun v u s2 x y H2 I2 rx ry q=>ho pins s2 σ H2 x y v u Q I2 rx ry q)
theorem pe_un {op:UnaryOp} {r:V→Hp→VK→Prop} (ho:UnR X (unaryOp op) r) (ha:PE X a ta):PE X (.UnaryOp op a pos) (tUn r ta):=by
  intro pins s σ H Q I h
  exact UnaryOp_ (thn (ha pins s σ H _ I h) fun v s1 ⟨x,H1,I1,r1,q1⟩=>ho pins s1 σ H1 x v Q I1 r1 q1)
theorem opI {f:Value→Value→Sem Value} {C:Int→Int→Prop} {g:Int→Int→Int}
    (rule:∀ (i j:Int) (t u:Tok) (s:Shared) (Q:Value→Shared→Prop) (E:Value→Shared→Prop),C i j→Q (.int (g i j) s.toks) { s with toks:=s.toks+1 }→wpAny (model X.prog X.w) X.A (f (.int i t) (.int j u)) Q E s) :
    OpR X f (rI C fun i j=>.int (g i j)):=by
  intro pins s σ H x y v u Q I rx ry h
  obtain ⟨i,j,rfl,rfl,hc,q⟩:=h
  obtain ⟨t,rfl⟩:=rx
  obtain ⟨t',rfl⟩:=ry
  exact rule i j t t' s _ _ hc ⟨.int (g i j),H,I.tok _,⟨_,rfl⟩,q⟩
theorem opI0 {f:Value→Value→Sem Value} {g:Int→Int→Int}
    (rule:∀ (i j:Int) (t u:Tok) (s:Shared) (Q:Value→Shared→Prop) (E:Value→Shared→Prop),Q (.int (g i j) s.toks) { s with toks:=s.toks+1 }→wpAny (model X.prog X.w) X.A (f (.int i t) (.int j u)) Q E s) :
    OpR X f (rI0 fun i j=>.int (g i j)):=by
  intro pins s σ H x y v u Q I rx ry h
  obtain ⟨i,j,rfl,rfl,q⟩:=h
  obtain ⟨t,rfl⟩:=rx
  obtain ⟨t',rfl⟩:=ry
  exact rule i j t t' s _ _ ⟨.int (g i j),H,I.tok _,⟨_,rfl⟩,q⟩
theorem opB0 {f:Value→Value→Sem Value} {g:Int→Int→Bool}
    (rule:∀ (i j:Int) (t u:Tok) (s:Shared) (Q:Value→Shared→Prop) (E:Value→Shared→Prop),Q (.bool (g i j)) s→wpAny (model X.prog X.w) X.A (f (.int i t) (.int j u)) Q E s) :
    OpR X f (rI0 fun i j=>.bl (g i j)):=by
  intro pins s σ H x y v u Q I rx ry h
  obtain ⟨i,j,rfl,rfl,q⟩:=h
  obtain ⟨t,rfl⟩:=rx
  obtain ⟨t',rfl⟩:=ry
  exact rule i j t t' s _ _ ⟨.bl (g i j),H,I,rfl,q⟩
def CPow (i j:Int):Prop:=0≤j∧j≤1000000∧i.natAbs < 2 ^ 64
def CMul (i j:Int):Prop:=(-(2 ^ 64) < i∧i < 2 ^ 64)∨(-(2 ^ 64) < j∧j < 2 ^ 64)
theorem CMul.ok {i j:Int} (h:CMul i j):IntMulOk i j:=by
  rcases h with ⟨h1,h2⟩ | ⟨h1,h2⟩
  · exact .of_left (intBits_le_64 h1 h2)
  · exact .of_right (intBits_le_64 h1 h2)
theorem op_add:OpR X (binaryOp .Add) (rI0 fun i j=>.int (i+j)):=opI0 fun _ _ _ _ _ _ _ q=>add_int q
theorem op_sub:OpR X (binaryOp .Sub) (rI0 fun i j=>.int (i - j)):=opI0 fun _ _ _ _ _ _ _ q=>sub_int q
theorem op_modN:OpR X (binaryOp .Mod) (rI (fun _ j=>j≠0) fun i j=>.int (i.fmod j)):=opI fun _ _ _ _ _ _ _ hc q=>mod_int' hc q
theorem op_pow:OpR X (binaryOp .Pow) (rI CPow fun i j=>.int (i ^ j.toNat)):=opI fun _ _ _ _ _ _ _ hc q=>pow_int_small hc.1 hc.2.1 hc.2.2 q
theorem unI {f:Value→Sem Value} {g:Int→Int}
    (rule:∀ (i:Int) (t:Tok) (s:Shared) (Q:Value→Shared→Prop) (E:Value→Shared→Prop),Q (.int (g i) s.toks) { s with toks:=s.toks+1 }→wpAny (model X.prog X.w) X.A (f (.int i t)) Q E s) :
    UnR X f (rU fun i=>.int (g i)):=by
  intro pins s σ H x v Q I rx h
  obtain ⟨i,rfl,q⟩:=h
  obtain ⟨t,rfl⟩:=rx
  exact rule i t s _ _ ⟨.int (g i),H,I.tok _,⟨_,rfl⟩,q⟩
theorem un_neg:UnR X (unaryOp .USub) (rU fun i=>.int (-i)):=unI fun _ _ _ _ _ q=>neg_int q
end
section
variable {X:Cx} {a b c:Expr} {ta tb tc:TE} {pos:Pos}
theorem fin_bl {pins:List (Addr×Obj)} {σ:St} {H:Hp} {s:Shared} {Q:VK} {k k':Bool} (I:Inv X pins σ H s) (q:Q (.bl k) H) (e:k=k'):EP X pins σ Q (.bool k') s:=by
  subst e
  exact ⟨.bl k,H,I,rfl,q⟩
theorem OpR.or {f:Value→Value→Sem Value} {r r':R2} (h:OpR X f r) (h':OpR X f r'):OpR X f (fun x y H Q=>r x y H Q∨r' x y H Q):=by
  intro pins s σ H x y v u Q I rx ry q
  rcases q with q | q
  · exact h pins s σ H x y v u Q I rx ry q
  · exact h' pins s σ H x y v u Q I rx ry q
theorem nomark (b:Expr) {op:CmpOp} (h:op≠.In:=by decide) (h2:op≠.NotIn:=by decide):behindInMarks op b=false:=by
  have e1:(op == CmpOp.In)=false:=by cases op<;>first | rfl | exact absurd rfl h
  have e2:(op == CmpOp.NotIn)=false:=by cases op<;>first | rfl | exact absurd rfl h2
  cases b<;>simp [behindInMarks,e1,e2]
theorem pe_cmpR {op:CmpOp} {r:R2} (ho:OpR X (compareOp op) r) (ha:PE X a ta) (hb:PE X b tb) (hm:behindInMarks op b=false):PE X (.Compare a [op] [b] pos) (tOp r ta tb):=by
  intro pins s σ H Q I h
  exact wpAny_Compare1 (binT ha hb I h fun v u s2 x y H2 I2 rx ry q=>ho pins s2 σ H2 x y v u Q I2 rx ry q) hm
def tTest (t:TE):TT:=fun σ H Q=>t σ H fun x H'=>∃ k,x = .bl k∧Q k H'
theorem pt_cmpR {op:CmpOp} {r:R2} (ho:OpR X (compareOp op) r) (ha:PE X a ta) (hb:PE X b tb) (hm:behindInMarks op b=false):PT X (.Compare a [op] [b] pos) (tTest (tOp r ta tb)):=by
  intro pins s σ H Q I h
  refine wpAny_isTrue_Compare1 (thn (ha pins s σ H _ I h) fun v s1 ⟨x,H1,I1,r1,q1⟩=>thn (hb pins s1 σ H1 _ I1 q1) fun u s2 ⟨y,H2,I2,r2,q2⟩=>
    thn (ho pins s2 σ H2 x y v u _ I2 r1 r2 q2) fun c s3 ⟨z,H3,I3,r3,k,e,q3⟩=>?_) hm
  subst e
  cases r3
  exact wpAny_truthy_bool ⟨H3,I3,q3⟩
def tChain (r r':R2) (ta tb tc:TE):TE:=fun σ H Q=>ta σ H fun x H1=>tb σ H1 fun y H2=>r x y H2 fun z H3=>∃ k,z = .bl k∧
  (if k=true then tc σ H3 fun w' H4=>r' y w' H4 Q else Q (.bl false) H3)
theorem pe_chain {op op':CmpOp} {r r':R2} (ho:OpR X (compareOp op) r) (ho':OpR X (compareOp op') r') (ha:PE X a ta) (hb:PE X b tb) (hc:PE X c tc)
    (hm:lastMarks [op,op'] [b,c]=false:=by with_unfolding_all rfl):PE X (.Compare a [op,op'] [b,c] pos) (tChain r r' ta tb tc):=by
  intro pins s σ H Q I h
  refine Compare_chain (thn (ha pins s σ H _ I h) fun v s1 ⟨x,H1,I1,r1,q1⟩=>chain_link (thn (hb pins s1 σ H1 _ I1 q1) fun u s2 ⟨y,H2,I2,r2,q2⟩=>
    thn (ho pins s2 σ H2 x y v u _ I2 r1 r2 q2) fun d s3 ⟨z,H3,I3,r3,k,e,q3⟩=>?_)) hm
  subst e
  cases r3
  refine wpAny_truthy_bool ?_
  cases k with
  | false=>exact ite_ff ⟨.bl false,H3,I3,rfl,q3⟩
  | true=>exact ite_tt (chain_last (thn (hc pins s3 σ H3 _ I3 q3) fun w' s4 ⟨z',H4,I4,r4,q4⟩=>ho' pins s4 σ H4 y z' u w' Q I4 r2 r4 q4))
theorem pt_chain {op op':CmpOp} {r r':R2} (ho:OpR X (compareOp op) r) (ho':OpR X (compareOp op') r') (ha:PE X a ta) (hb:PE X b tb) (hc:PE X c tc)
    (hm:lastMarks [op,op'] [b,c]=false:=by with_unfolding_all rfl):PT X (.Compare a [op,op'] [b,c] pos) (tTest (tChain r r' ta tb tc)):=by
  intro pins s σ H Q I h
  refine isTrue_chain (thn (ha pins s σ H _ I h) fun v s1 ⟨x,H1,I1,r1,q1⟩=>test_link (thn (hb pins s1 σ H1 _ I1 q1) fun u s2 ⟨y,H2,I2,r2,q2⟩=>
    thn (ho pins s2 σ H2 x y v u _ I2 r1 r2 q2) fun d s3 ⟨z,H3,I3,r3,k,e,q3⟩=>?_)) hm
  subst e
  cases r3
  refine wpAny_truthy_bool ?_
  cases k with
  | false=>
    obtain ⟨k',e',q'⟩:=q3
    cases e'
    exact ite_ff ⟨H3,I3,q'⟩
  | true=>
    refine ite_tt (test_last (thn (hc pins s3 σ H3 _ I3 q3) fun w' s4 ⟨z',H4,I4,r4,q4⟩=>thn (ho' pins s4 σ H4 y z' u w' _ I4 r2 r4 q4) fun d' s5 ⟨z2,H5,I5,r5,k2,e2,q5⟩=>?_))
    subst e2
    cases r5
    exact wpAny_truthy_bool ⟨H5,I5,q5⟩
def TruV (K:PySem.W.Frag) (x:V) (H:Hp) (k:Bool):Prop:=
  match x with
  | .non=>k=false
  | .bl b=>k=b
  | .int i=>k=(i != 0)
  | .str y=>y.length≤sizeLine∧k=((y.length:Int) != 0)
  | .byt y=>y.size≤sizeLine∧k=((y.size:Int) != 0)
  | .ref p=>(∃ xs,SqL K H p xs∧k = !xs.isEmpty)∨(∃ xs,SqT K H p xs∧k = !xs.isEmpty)∨∃ kvs,H p=some (.dK kvs)∧k = !kvs.isEmpty
  | _=>False
theorem isEmpty_kv {κ:Type} {kvs:List (κ×V)} {vs:List (κ×Value)} (r:KV kvs vs):(!vs.isEmpty) = !kvs.isEmpty:=by
  cases r<;>rfl
theorem isEmpty_of {xs:List V} {its:List Value} (r:Vals xs its):(!its.toArray.isEmpty) = !xs.isEmpty:=by
  cases r<;>simp
theorem line63:(sizeLine:Nat) < 2 ^ 63:=by rw [sizeLine_eq];decide
theorem tru_ok:TruR X (fun x H Q=>∃ k,TruV X.K x H k∧Q k H):=by
  intro pins s σ H x v Q I rx h
  obtain ⟨k,e,q⟩:=h
  have hl:=line63
  have hs:sizeLine=16777216:=sizeLine_eq
  cases x with
  | non=>
    cases rx
    have e':k=false:=e
    subst e'
    exact truthy_none ⟨H,I,q⟩
  | bl b=>
    cases rx
    have e':k=b:=e
    subst e'
    exact wpAny_truthy_bool ⟨H,I,q⟩
  | int i=>
    obtain ⟨t,rfl⟩:=rx
    have e':k=(i != 0):=e
    subst e'
    exact PySem.P.truthy_int ⟨H,I,q⟩
  | str y=>
    obtain ⟨t,rfl⟩:=rx
    obtain ⟨hy,e'⟩:y.length≤sizeLine∧k=((y.length:Int) != 0):=e
    subst e'
    exact PySem.P.truthy_str (by omega) ⟨H,I.tok _,q⟩
  | byt y=>
    obtain ⟨t,rfl⟩:=rx
    obtain ⟨hy,e'⟩:y.size≤sizeLine∧k=((y.size:Int) != 0):=e
    subst e'
    exact PySem.W.truthy_bytes (by omega) ⟨H,I.tok _,q⟩
  | ref p=>
    cases rx
    have e':(∃ xs,SqL X.K H p xs∧k = !xs.isEmpty)∨(∃ xs,SqT X.K H p xs∧k = !xs.isEmpty)∨∃ kvs,H p=some (.dK kvs)∧k = !kvs.isEmpty:=e
    rcases e' with ⟨xs,hx,e'⟩ | ⟨xs,hx,e'⟩ | ⟨kvs,hx,e'⟩
    · subst e'
      obtain ⟨its,r,pl,hz⟩:=I.list hx
      have hlen:=r.length
      exact wpAny_truthy_list pl.isList (by simp only [List.size_toArray];omega) ⟨H,I.tok _,by rw [isEmpty_of r];exact q⟩
    · subst e'
      obtain ⟨its,r,pl,hz⟩:=I.tuple hx
      have hlen:=r.length
      exact truthy_tuple pl (by simp only [List.size_toArray];omega) ⟨H,I.tok _,by rw [isEmpty_of r];exact q⟩
    · subst e'
      obtain ⟨hz,hS,vs,r,m⟩:kvs.length≤sizeLine∧(p == sysModules)=false∧∃ vs,KV kvs vs∧s.heap.DictOf (mixKind X.prog X.w) p vs:=I.hok p _ hx
      have hlen:kvs.length=vs.length:=Paired.length r
      exact wpAny_truthy_dict hS m (by omega) ⟨H,I.tok _,by rw [isEmpty_kv r];exact q⟩
  | _=>exact (show False from e).elim
theorem pt_truth (ha:PE X a ta) (he:∀ whole,isTrue a X.env whole=(do let v ← whole;standAt a.pos;holding [v] (truthy v))) :
    PT X a (fun σ H Q=>ta σ H fun x H'=>∃ k,TruV X.K x H' k∧Q k H'):=by
  intro pins s σ H Q I h
  exact isTrue_plain (thn (ha pins s σ H _ I h) fun v s1 ⟨x,H1,I1,r1,q1⟩=>tru_ok pins s1 σ H1 x v Q I1 r1 q1) (he _)
theorem vals1 {x:V} {us:List Value} (r:Vals [x] us):∃ u,us=[u]∧RelV x u:=by
  cases r with
  | cons r1 r2=>cases r2;exact ⟨_,rfl,r1⟩
theorem vals2 {x y:V} {us:List Value} (r:Vals [x,y] us):∃ u w',us=[u,w']∧RelV x u∧RelV y w':=by
  cases r with
  | cons r1 r2=>
    cases r2 with
    | cons r3 r4=>cases r4;exact ⟨_,_,rfl,r1,r3⟩
theorem call_abs:CallR X (.builtin "abs") (fun xs H Q=>∃ i,xs=[.int i]∧Q (.int (if i < 0 then -i else i)) H):=by
  intro pins s σ H xs us Q I r h
  obtain ⟨i,rfl,q⟩:=h
  obtain ⟨u,rfl,t,rfl⟩:=vals1 r
  exact call_abs_int fun u tk=>⟨.int (if i < 0 then -i else i),H,I.tok _,⟨_,rfl⟩,q⟩
theorem call_max2 (hc:X.calm=true):CallR X (.builtin "max") (fun xs H Q=>∃ i j,xs=[.int i,.int j]∧Q (.int (if j > i then j else i)) H):=by
  intro pins s σ H xs us Q I r h
  obtain ⟨i,j,rfl,q⟩:=h
  obtain ⟨u,w',rfl,⟨t,rfl⟩,⟨t',rfl⟩⟩:=vals2 r
  refine max_two_ints (I.ok.hd hc) fun h' tk k=>⟨_,H,I.kept k,?_,q⟩
  by_cases hj:j > i
  · rw [if_pos hj,if_pos hj];exact ⟨_,rfl⟩
  · rw [if_neg hj,if_neg hj];exact ⟨_,rfl⟩
theorem call_int1:CallR X (.type "int") (fun xs H Q=>(∃ i,xs=[.int i]∧Q (.int i) H)∨∃ k,xs=[.bl k]∧Q (.int (if k then 1 else 0)) H):=by
  intro pins s σ H xs us Q I r h
  rcases h with ⟨i,rfl,q⟩ | ⟨k,rfl,q⟩
  · obtain ⟨u,rfl,t,rfl⟩:=vals1 r
    exact call_int_int ⟨.int i,H,I,⟨_,rfl⟩,q⟩
  · obtain ⟨u,rfl,r1⟩:=vals1 r
    cases r1
    exact call_int_bool ⟨.int (if k then 1 else 0),H,I.tok _,⟨_,rfl⟩,q⟩
end
section
variable {prog:Program} {w:World} {A:Around} {E:Value→Shared→Prop} {s:Shared} {K:PySem.W.Frag} {x dx C f:Addr} {mA:Str→Option Value} {name:Str} {v:Value}
end
section
variable {P:Program} {w:World} {H H':Hp} {h h':Heap} {a C dx:Addr} {fs fs':List (Str×V)}
end
structure Cls (K:PySem.W.Frag) (C:Addr):Prop where
  pg:PySem.W.plainGet K C Str.empty=true
  hd:PySem.W.hasDictIn K C=true
  po:PySem.W.plainOver K C=true
  sa:PySem.W.findIn K (.ref C) "__setattr__" = some (some (.builtin "object.__setattr__"))
theorem Cls.get {K:PySem.W.Frag} {C:Addr} (c:Cls K C) (f:Str):PySem.W.plainGet K C f=true:=c.pg
section
variable {X:Cx} {pins:List (Addr×Obj)} {σ:St} {H:Hp} {s:Shared} {a C dx:Addr} {fs:List (Str×V)} {f:Str} {v:V} {A:Around} {E:Value→Shared→Prop}
end
section
variable {X:Cx} {o e value:Expr} {f:Str} {pos pos' tpos:Pos} {ta tv:TE}
end
section
variable {X:Cx} {pins:List (Addr×Obj)} {σ:St} {H:Hp} {s:Shared} {A:Around} {E:Value→Shared→Prop} {Q:Value→Shared→Prop} {c:Value} {b:Bool}
end
structure Room (k:Nat) (A:Around):Prop where
  hd:A.handled=none
  gd:A.guards=some []
  dp:A.depth+3*k+5 < recursionLimit
  un:A.units+16*k+200 < cLine
theorem Room.mono {j k:Nat} {A:Around} (r:Room k A) (h:j≤k):Room j A:=⟨r.hd,r.gd,by have:=r.dp;omega,by have:=r.un;omega⟩
theorem Room.deeper {k:Nat} {A:Around} (r:Room (k+1) A) (env:Env):Room k (A.deeper env):=
  ⟨r.hd,r.gd,by have:=r.dp;show A.depth+1+3*k+5 < _;omega,by have:=r.un;show A.units+3+16*k+200 < _;omega⟩
theorem make_depth {A:Around} {C:Addr} {us:List Value} {kw:List (Str×Value)}:(A.under (.builtin "type.__call__" ⟨.ref C::us,kw⟩)).depth=A.depth+1:=by
  first | rfl | simp [Around.under,Code.weight,Code.isCreation,Code.isGuard,Code.isCaller,Code.frames,Code.isFrame,guardIds]
theorem make_units {A:Around} {C:Addr} {us:List Value} {kw:List (Str×Value)}:(A.under (.builtin "type.__call__" ⟨.ref C::us,kw⟩)).units=A.units+1:=by
  first | rfl | simp [Around.under,Code.cUnits,Code.frames,Code.isFrame]
theorem Room.make {k:Nat} {A:Around} (r:Room (k+1) A) (C:Addr) (us:List Value) (kw:List (Str×Value)):Room k (A.under (.builtin "type.__call__" ⟨.ref C::us,kw⟩)):=
  ⟨r.hd,by first | exact r.gd | simp [Around.under,Code.weight,Code.isCreation,Code.isGuard,Code.isCaller,Code.frames,Code.isFrame,guardIds,r.gd],by have:=r.dp;rw [make_depth];omega,by have:=r.un;rw [make_units];omega⟩
theorem Room.depth {k:Nat} {A:Around} (r:Room k A):A.depth < recursionLimit:=by have:=r.dp;omega
theorem Room.units {k:Nat} {A:Around} (r:Room k A):A.units+64 < cLine:=by have:=r.un;omega
def tNil:TA:=fun _ H Q=>Q [] H
def tCons (ta:TE) (tr:TA):TA:=fun σ H Q=>ta σ H fun x H1=>tr σ H1 fun xs H2=>Q (x::xs) H2
section
variable {X:Cx} {e:Expr} {es:List Expr} {te:TE} {t:TA} {pos:Pos}
theorem pa_nil:PA X [] tNil:=fun _ _ _ _ H Q I h=>Calls.spliced_nil ⟨[],H,I,.nil,h⟩
theorem pa_cons (ha:PE X e te) (hr:PA X es t) (hs:starEach (e::es) X.env=(false,eval e X.env)::starEach es X.env:=by rfl):PA X (e::es) (tCons te t):=by
  intro pos pins s σ H Q I h
  rw [hs]
  show wpAny _ _ (spliced ((false,eval e X.env)::backTo pos (starEach es X.env))) _ _ s
  refine Calls.spliced_cons (thn (ha pins s σ H _ I h) fun u s1 ⟨x,H1,I1,r1,q1⟩=>?_)
  exact thn (hr pos pins s1 σ H1 _ I1 q1) fun us s2 ⟨xs,H2,I2,r2,q2⟩=>⟨x::xs,H2,I2,.cons r1 r2,q2⟩
def tTup (t:TA):TE:=fun σ H Q=>t σ H fun xs H1=>xs.length≤sizeLine∧∀ p,H1 p=none→Q (.ref p) (upd H1 p (.tup xs))
def tLst (t:TA):TE:=fun σ H Q=>t σ H fun xs H1=>xs.length≤sizeLine∧∀ p,H1 p=none→Q (.ref p) (upd H1 p (.lst xs))
theorem pe_tup {x1} (h:PA X es t):PE X (.Tuple es x1 pos) (tTup t):=by
  intro pins s σ H Q I hq
  refine wpAny_Tuple_spliced (thn (h pos pins s σ H _ I hq) fun us s1 ⟨xs,H1,I1,r,z,q⟩=>⟨by rw [← r.length];exact z,?_⟩)
  have hf:H1 s1.heap.objs.size=none:=I1.hok.fresh (Nat.le_refl _)
  refine ⟨.ref s1.heap.objs.size,upd H1 s1.heap.objs.size (.tup xs),I1.laid (t':=s1.toks) (fun b u e=>Heap.get?_push_of_some _ e) (Nat.le_refl _) ?_,rfl,q _ hf⟩
  exact ⟨z,us,r,⟨_,Heap.get?_push_size _ rfl,rfl,_,rfl⟩⟩
theorem pe_lst (h:PA X es t):PE X (.List es pos) (tLst t):=by
  intro pins s σ H Q I hq
  refine wpAny_List_spliced (thn (h pos pins s σ H _ I hq) fun us s1 ⟨xs,H1,I1,r,z,q⟩=>⟨by rw [← r.length];exact z,?_⟩)
  have hf:H1 s1.heap.objs.size=none:=I1.hok.fresh (Nat.le_refl _)
  refine ⟨.ref s1.heap.objs.size,upd H1 s1.heap.objs.size (.lst xs),I1.laid (t':=s1.toks) (fun b u e=>Heap.get?_push_of_some _ e) (Nat.le_refl _) ?_,rfl,q _ hf⟩
  exact ⟨z,us,0,r,Heap.get?_push_size _ rfl⟩
end
abbrev Sp:=List V→Hp→VK→XK→Prop
abbrev CXT:=List Env→Hp→Shared→XK→Value→Shared→Prop
structure Env0 (P:Program) (w:World) (K:PySem.W.Frag) (mg:Str→Option Value) (base:Heap) (A:Around) (outer:List Env) (s:Shared) (H:Hp):Prop where
  frames:A.frames=some outer
  mod:Mod K mg base
  bs:∀ b o,base.get? b=some o→s.heap.get? b=some o∧H b=none
  bsz:base.objs.size≤s.heap.objs.size
  funs:s.heap.FunFrames base outer
  frf:∀ b∈frs outer,H b=none
  hok:HOk P w H s.heap
  bare:AllBare s.gens
def CE (outer:List Env) (P:Program) (w:World) (H:Hp) (s:Shared) (Q:VK) (u:Value) (s':Shared):Prop:=
  ∃ v H',s'.os=s.os∧AllBare s'.gens∧Un (frs outer) [] H H' s.heap s'.heap∧HOk P w H' s'.heap∧RelV v u∧Q v H'
def CR (CX:CXT) (outer:List Env) (P:Program) (w:World) (H:Hp) (s:Shared) (Q:VK) (E:XK) (r:Result) (s':Shared):Prop:=
  match r with
  | .ok (.ret u)=>CE outer P w H s Q u s'
  | .ok _=>False
  | .error e=>CX outer H s E e s'
structure FnOk (P:Program) (w:World) (K:PySem.W.Frag) (mg:Str→Option Value) (base:Heap) (CX:CXT) (k:Nat) (f:Addr) (fd:FuncData) (ps:List Str) (sp:Sp):Prop where
  len:∀ vs H Q E,sp vs H Q E→vs.length=ps.length
  run:∀ (A:Around) (outer:List Env) (s:Shared) (H:Hp) (args:Args) (us:List Value) (vs:List V) (Q:VK) (E:XK),Room k A→Env0 P w K mg base A outer s H→BindsTo s fd args (ps.zip us)→Vals vs us→sp vs H Q E→
    codeAny (model P w) A (.call (.ref f) args) (CR CX outer P w H s Q E) s
theorem FnOk.mono {P:Program} {w:World} {K:PySem.W.Frag} {mg:Str→Option Value} {base:Heap} {CX:CXT} {j k:Nat} {f:Addr} {fd:FuncData} {ps:List Str} {sp:Sp} (F:FnOk P w K mg base CX j f fd ps sp) (h:j≤k) :
    FnOk P w K mg base CX k f fd ps sp:=⟨F.len,fun A outer s H args us vs Q E hr=>F.run A outer s H args us vs Q E (hr.mono h)⟩
theorem Env0.make {P:Program} {w:World} {K:PySem.W.Frag} {mg:Str→Option Value} {base:Heap} {A:Around} {outer:List Env} {s:Shared} {H:Hp} (e:Env0 P w K mg base A outer s H) (C:Addr) (us:List Value) (kw:List (Str×Value)) :
    Env0 P w K mg base (A.under (.builtin "type.__call__" ⟨.ref C::us,kw⟩)) outer s H:=⟨by first | exact e.frames | (simpa [Around.under,Code.envs,Code.isFrame,pushEnvs] using e.frames),e.mod,e.bs,e.bsz,e.funs,e.frf,e.hok,e.bare⟩
section
variable {X:Cx} {pins:List (Addr×Obj)} {σ:St} {H:Hp} {s s':Shared}
theorem Inv.env0 (I:Inv X pins σ H s):Env0 X.prog X.w X.K X.mg X.base X.A X.stack s H:=
  ⟨I.ok.frames,I.ok.mod,I.bs,Nat.le_trans I.ok.bsz I.sz,I.stack,I.stkFree,I.hok,I.bare⟩
theorem Inv.after {Q:VK} {u:Value} (I:Inv X pins σ H s) (h:CE X.stack X.prog X.w H s Q u s'):EP X pins σ Q u s':=by
  obtain ⟨v,H',os,bare,un,hok,r,q⟩:=h
  obtain ⟨hh,g,d,t,os'⟩:=s'
  obtain rfl:os'=s.os:=os
  exact ⟨v,H',I.call (h':=hh) (g':=g) (d':=d) (t':=t) (ch:=[]) un hok bare (fun b z=>absurd z (by simp)),r,q⟩
end
def tCall (sp:Sp) (dvs:List V) (E:XK) (t:TA):TE:=fun σ H Q=>t σ H fun vs H1=>sp (vs++dvs) H1 Q E
def Binds (K:PySem.W.Frag) (fd:FuncData) (ps:List Str) (ds:List Value):Prop:=
  ∀ (s:Shared) (us:List Value),K.In s.heap→(us++ds).length=ps.length→BindsTo s fd ⟨us,[]⟩ (ps.zip (us++ds))
theorem Binds.all {K:PySem.W.Frag} {fd:FuncData} {ps:List Str} (h:∀ us:List Value,us.length=ps.length→bindArgs fd ⟨us,[]⟩=pure (ps.zip us)):Binds K fd ps []:=fun s us _ hl=>by
  rw [List.append_nil] at hl ⊢
  exact .of_eq (h us hl)
def Passes (CX:CXT) (X:Cx) (E:XK):Prop:=∀ (pins:List (Addr×Obj)) (σ:St) (H:Hp) (s:Shared) (e:Value) (s':Shared),Inv X pins σ H s→CX X.stack H s E e s'→X.xe e s'
section
variable {X:Cx} {CX:CXT} {k:Nat} {f C:Addr} {fd:FuncData} {ps:List Str} {sp:Sp} {dvs:List V} {ds:List Value} {E:XK} {x m:Str} {p pos apos:Pos} {e o:Expr} {es:List Expr} {ta:TE} {t:TA}
theorem run_fn {pins:List (Addr×Obj)} {σ:St} {H:Hp} {s:Shared} {Q:VK} {us:List Value} {vs:List V} (F:FnOk X.prog X.w X.K X.mg X.base CX k f fd ps sp) (hr:Room k X.A) (hb:Binds X.K fd ps ds) (hd:Vals dvs ds) (hx:Passes CX X E)
    (I:Inv X pins σ H s) (r:Vals vs us) (h:sp (vs++dvs) H Q E):wpAny (model X.prog X.w) X.A (call (.ref f) us) (EP X pins σ Q) X.xe s:=by
  have r2:Vals (vs++dvs) (us++ds):=r.append hd
  have hl:(us++ds).length=ps.length:=by rw [← r2.length];exact F.len _ _ _ _ h
  refine wpAny_call (codeAny_mono (F.run X.A X.stack s H ⟨us,[]⟩ (us++ds) (vs++dvs) Q E hr I.env0 (hb s us I.kIn hl) r2 h) fun r s' hq=>?_)
  cases r with
  | error e=>exact hx pins σ H s e s' I hq
  | ok fl=>
    cases fl with
    | ret u=>exact I.after hq
    | next=>exact False.elim hq
    | brk=>exact False.elim hq
    | cont=>exact False.elim hq
theorem pe_call (F:FnOk X.prog X.w X.K X.mg X.base CX k f fd ps sp) (hr:Room k X.A) (hg:Gl X x) (hm:X.mg x=some (.ref f)) (hk:PySem.W.keepIn X.K (.ref f)=true) (hb:Binds X.K fd ps ds) (hd:Vals dvs ds) (hx:Passes CX X E)
    (ha:PA X (e::es) t) (hdb:(x == ("__debug__" : Str))=false:=by decide) (he:starEach (e::es) X.env=(false,eval e X.env)::starEach es X.env:=by rfl) (hpl:(backTo pos (starEach es X.env)).any (·.1)=false:=by rfl) :
    PE X (.Call (.Name x p) (e::es) [] pos) (tCall sp dvs E t):=by
  intro pins s σ H Q I h
  refine wpAny_Call_Name_kw (ld_glob I hg hm ?_ hdb)
  refine PySem.W.callWith_K (h₀:=X.base) I.ok.mod.kin hk (thn (ha pos pins s σ H _ I h) fun us s1 ⟨vs,H1,I1,r,q⟩=>⟨I1.kIn,?_⟩) he hpl
  exact run_fn F hr hb hd hx I1 r q
end
section
variable {X:Cx} {CX:CXT} {k:Nat} {f C:Addr} {fd:FuncData} {ps ks:List Str} {sp:Sp} {E:XK} {x m:Str} {p pos apos kpos:Pos} {e o:Expr} {es:List Expr} {kws:List Keyword} {te ta:TE} {t tk:TA} {nm:Option Str}
variable {g:List Value→List Value→List Value} {gV:List V→List V→List V}
end
structure FnScope (N P:List Str) (sc:Scope):Prop where
  kind:sc.kind = .function
  co:sc.isCoroutine=false
  gen:sc.isGenerator=false
  nd:N.Nodup
  pre:N.take P.length=P
  par:∀ x∈P,sc.names.lookup x=some .local∨sc.names.lookup x=some .cell
  nofree:∀ y∈sc.names,y.2≠.free
theorem bindL_out {kindOf:Str→Option NameKind} {x:Str}:∀ {binds:List (Str×Value)} {m:Str→Option Value},(∀ v,(x,v)∉binds)→bindL kindOf binds m x=m x
  | [],_,_=>rfl
  | (n,v)::r,m,h=>by
    unfold bindL
    rw [bindL_out fun w hw=>h w (List.mem_cons_of_mem _ hw)]
    split
    · have:x≠n:=by rintro rfl;exact h v List.mem_cons_self
      simp [this]
    · rfl
theorem bindC_out {kindOf:Str→Option NameKind} {x:Str}:∀ {binds:List (Str×Value)} {m:Str→Option Value},(∀ v,(x,v)∉binds)→bindC kindOf binds m x=m x
  | [],_,_=>rfl
  | (n,v)::r,m,h=>by
    unfold bindC
    rw [bindC_out fun w hw=>h w (List.mem_cons_of_mem _ hw)]
    split
    · rfl
    · have:x≠n:=by rintro rfl;exact h v List.mem_cons_self
      simp [this]
theorem bindL_get {kindOf:Str→Option NameKind} {x:Str} {v:Value}:∀ {P:List Str} {vs:List Value} {i:Nat} {m:Str→Option Value},P.Nodup→P[i]? = some x→vs[i]? = some v→kindOf x=some .local→
    bindL kindOf (P.zip vs) m x=some v
  | [],_,_,_,_,h,_,_=>by simp at h
  | _::_,[],_,_,_,_,h,_=>by simp at h
  | p::P,w::vs,0,m,nd,h1,h2,hk=>by
    simp at h1 h2;subst h1;subst h2
    show bindL kindOf ((p,w)::P.zip vs) m p=_
    unfold bindL
    rw [bindL_out fun v hv=>(List.nodup_cons.mp nd).1 (List.of_mem_zip hv).1,if_pos hk]
    simp
  | p::P,w::vs,i+1,m,nd,h1,h2,hk=>by
    show bindL kindOf ((p,w)::P.zip vs) m x=_
    unfold bindL
    exact bindL_get (i:=i) (List.nodup_cons.mp nd).2 (by simpa using h1) (by simpa using h2) hk
theorem bindC_get {kindOf:Str→Option NameKind} {x:Str} {v:Value}:∀ {P:List Str} {vs:List Value} {i:Nat} {m:Str→Option Value},P.Nodup→P[i]? = some x→vs[i]? = some v→kindOf x≠some .local→
    bindC kindOf (P.zip vs) m x=some v
  | [],_,_,_,_,h,_,_=>by simp at h
  | _::_,[],_,_,_,_,h,_=>by simp at h
  | p::P,w::vs,0,m,nd,h1,h2,hk=>by
    simp at h1 h2;subst h1;subst h2
    show bindC kindOf ((p,w)::P.zip vs) m p=_
    unfold bindC
    rw [bindC_out fun v hv=>(List.nodup_cons.mp nd).1 (List.of_mem_zip hv).1,if_neg hk]
    simp
  | p::P,w::vs,i+1,m,nd,h1,h2,hk=>by
    show bindC kindOf ((p,w)::P.zip vs) m x=_
    unfold bindC
    exact bindC_get (i:=i) (List.nodup_cons.mp nd).2 (by simpa using h1) (by simpa using h2) hk
def start (N:List Str) (vs:List V):St:=vs.map some++List.replicate (N.length - vs.length) none
def cxOf (CX:CXT) (P:Program) (w:World) (K:PySem.W.Frag) (mg:Str→Option Value) (base:Heap) (N:List Str) (qual:Str) (scope:Scope) (f:Addr) (cd:Value) (A:Around) (outer:List Env) (s:Shared) (H:Hp) (E:XK):Cx where
  prog:=P
  w:=w
  K:=K
  mg:=mg
  base:=base
  A:=A.deeper (envOfC qual scope s.heap.objs.size f cd)
  N:=N
  s₀:=s
  H₀:=H
  env:=envOfC qual scope s.heap.objs.size f cd
  outer:=outer
  stack:=envOfC qual scope s.heap.objs.size f cd::outer
  ex:=[]
  calm:=true
  fn:=fun _=>true
  pn:=[]
  xe:=fun e s'=>wpAny (model P w) (A.deeper (envOfC qual scope s.heap.objs.size f cd)) (leaving (envOfC qual scope s.heap.objs.size f cd) e) (fun _ s''=>CX outer H s E e s'') (fun e' s''=>CX outer H s E e' s'') s'
theorem cell_has {sc:Scope} {n:Nat} {x:Str} (h:sc.names.lookup x=some .cell):∃ c,(cellsFrom n sc.names []).lookup x=some c:=by
  have q:=PySem.W.cellsFrom_some sc.names n [] (.inl h)
  exact Option.isSome_iff_exists.mp q
theorem inv_start {CX:CXT} {P:Program} {w:World} {K:PySem.W.Frag} {mg:Str→Option Value} {base:Heap} {N ps:List Str} {qual:Str} {scope:Scope} {f:Addr} {cd:Value} {A:Around} {outer:List Env} {s s1:Shared} {H:Hp} {E:XK} {us:List Value} {vs:List V}
    (S:FnScope N ps scope) (hd:A.handled=none) (e0:Env0 P w K mg base A outer s H) (hl:vs.length=ps.length) (r:Vals vs us)
    (x:InCallC s s.heap.objs.size (bindL (envOfC qual scope s.heap.objs.size f cd).kindOf (ps.zip us) fun _=>none) (cellsFrom (s.heap.objs.size+1) scope.names []) (bindC (envOfC qual scope s.heap.objs.size f cd).kindOf (ps.zip us) fun _=>none) s1) :
    Inv (cxOf CX P w K mg base N qual scope f cd A outer s H E) [] (start N vs) H s1:=by
  have hpl:ps.length≤N.length:=by have:=congrArg List.length S.pre;rw [List.length_take] at this;omega
  obtain ⟨h1,tk,rfl,hk⟩:=x.done
  have noA:∀ b:Addr,b∉(cxOf CX P w K mg base N qual scope f cd A outer s H E).ex:=fun b z=>absurd (show b∈([]:List Addr) from z) (by simp)
  refine ⟨⟨e0.mod,S.kind,rfl,rfl,Nat.le_refl _,fun y z c h1 h2=>?_,fun y hy=>?_,fun y c _ h=>?_,fun _=>hd,Around.frames_deeper e0.frames,.inr ⟨rfl,rfl⟩,fun b z=>absurd z (noA b),e0.bs,e0.bsz,fun b _ _=>noA b,fun b z=>absurd z (noA b),e0.funs,e0.frf⟩,
    rfl,e0.bare,Un.kept hk,⟨_,x.toInCall.ns,fun i y v h1 h2 h3=>?_⟩,fun y c h=>⟨_,x.cell y c h⟩,e0.hok.fresh (Nat.le_refl _),fun y c h=>?_,fun p hp=>absurd (show p∈([]:List (Addr×Obj)) from hp) (by simp),e0.hok.kept hk,?_⟩
  · exact name_of_addr x.apart (PySem.mem_of_lookup h1) (PySem.mem_of_lookup h2)
  · have hy:scope.names.lookup y=some .cell∨scope.names.lookup y=some .free:=hy
    rcases hy with hy | hy
    · exact cell_has hy
    · exact absurd rfl (S.nofree _ (PySem.mem_of_lookup hy))
  · exact Nat.le_of_lt (x.above y c (PySem.mem_of_lookup h))
  · have hi:i < vs.length:=by
      unfold start at h2
      by_cases hi:i < vs.length
      · exact hi
      · rw [List.getElem?_append_right (by simpa using hi)] at h2
        rw [List.getElem?_replicate] at h2
        split at h2<;>cases h2
    have ha:vs[i]? = some v:=by
      unfold start at h2
      rw [List.getElem?_append_left (by simpa using hi),List.getElem?_map] at h2
      cases e:vs[i]? with
      | none=>rw [e] at h2;cases h2
      | some a=>rw [e] at h2;cases h2;rfl
    obtain ⟨u,hu,rv⟩:=r.get ha
    have hp:ps[i]? = some y:=by
      rw [← S.pre,List.getElem?_take_of_lt (by omega)];exact h1
    have ndP:ps.Nodup:=by rw [← S.pre];exact S.nd.sublist (List.take_sublist _ _)
    refine ⟨u,rv,?_⟩
    rcases S.par y (List.mem_of_getElem? hp) with k | k
    · exact .inl ⟨k,bindL_get ndP hp hu k⟩
    · obtain ⟨c,e⟩:=cell_has (n:=s.heap.objs.size+1) k
      refine .inr ⟨.inl k,c,e,?_⟩
      have q:=x.cell y c e
      rw [bindC_get ndP hp hu (by show scope.names.lookup y≠_;rw [k];decide)] at q
      exact q
  · exact e0.hok.fresh (Nat.le_of_lt (x.above y c (PySem.mem_of_lookup h)))
  · unfold start
    show _=N.length
    rw [List.length_append,List.length_map,List.length_replicate]
    omega
theorem fn_of {CX:CXT} {P:Program} {w:World} {K:PySem.W.Frag} {mg:Str→Option Value} {base:Heap} {k:Nat} {f:Addr} {name qual:Str} {params:Arguments} {body:List Stmt} {scope:Scope} {dV kV doc pm cdv ct oc:Value} {an od:Option Addr}
    {osl:Array (Option Value)} {N ps:List Str} {sp:Sp} (lk:K.lookup f=some ⟨oc,od,.func (PySem.W.fnOf name qual params body scope dV kV doc pm an cdv ct),osl⟩) (hcd:PySem.W.codeIn K cdv qual=true) (S:FnScope N ps scope)
    (len:∀ vs H Q E,sp vs H Q E→vs.length=ps.length)
    (hbody:∀ (A:Around) (outer:List Env) (s:Shared) (H:Hp) (vs:List V) (Q:VK) (E:XK),Room k (A.deeper (envOfC qual scope s.heap.objs.size f cdv))→sp vs H Q E→
      ∃ t,PSs (cxOf CX P w K mg base N qual scope f cdv A outer s H E) body t∧t { nx:=fun _ H'=>Q .non H',rt:=Q } (start N vs) H) :
    FnOk P w K mg base CX (k+1) f (PySem.W.fnOf name qual params body scope dV kV doc pm an cdv ct) ps sp:=by
  refine ⟨len,fun A outer s H args us vs Q E hr e0 hb r hsp=>?_⟩
  have hl:=len _ _ _ _ hsp
  have KX:K.In s.heap:=e0.mod.kin.keeps fun b o e=>(e0.bs b o e).1
  have lim:s.heap.NoLimit:=e0.mod.nolimit.keeps fun b o e=>(e0.bs b o e).1
  have hkind:∀ y∈ps.zip us,scope.names.lookup y.1=some .local∨(scope.names.lookup y.1=some .cell∧((cellsFrom (s.heap.objs.size+1) scope.names []).lookup y.1).isSome=true):=fun ⟨n,v⟩ hy=>by
    rcases S.par n (List.of_mem_zip hy).1 with q | q
    · exact .inl q
    · exact .inr ⟨q,PySem.W.cellsFrom_some _ _ _ (.inl q)⟩
  refine codeAny_call_function hr.depth (KX _ _ lk) rfl S.co S.gen rfl (PySem.W.codeRec_of KX hcd) (hb _ _ _ _ ?_)
  refine wpAny_newFunctionEnv_cells S.kind hkind fun env he s1 x=>?_
  subst he
  refine ⟨lim.keeps x.toInCall.keep,codeAny_func ?_⟩
  obtain ⟨t,ht,hq⟩:=hbody A outer s H vs Q E (hr.deeper _) hsp
  have I:Inv (cxOf CX P w K mg base N qual scope f cdv A outer s H E) [] (start N vs) H s1:=inv_start S hr.hd e0 hl r x
  refine wpAny_mono (ht [] s1 (start N vs) H _ I hq) (fun fl s' hs=>?_) fun e s' hs=>hs
  have fin:∀ {σ':St} {H':Hp} {v:V} {u:Value},Inv (cxOf CX P w K mg base N qual scope f cdv A outer s H E) [] σ' H' s'→RelV v u→Q v H'→CE outer P w H s Q u s':=
    fun {σ' H' v u} J rv q=>⟨v,H',J.os,J.bare,J.base,J.hok,rv,q⟩
  cases fl with
  | ret u=>
    obtain ⟨v,σ',H',J,rv,q⟩:=hs
    exact fin J rv q
  | next=>
    obtain ⟨σ',H',J,q⟩:=hs
    exact fin (v:=V.non) (u:=Value.none) J rfl q
  | brk=>
    obtain ⟨_,_,_,q⟩:=hs
    exact False.elim q
  | cont=>
    obtain ⟨_,_,_,q⟩:=hs
    exact False.elim q
section
variable {X:Cx} {x:Str} {p pos:Pos} {e:Expr} {es:List Expr} {t:TA} {id T:String} {r:List V→Hp→VK→Prop}
def tCB (r:List V→Hp→VK→Prop) (t:TA):TE:=fun σ H Q=>t σ H fun vs H1=>r vs H1 Q
theorem pe_callB (hc:CallR X (.builtin id) r) (hg:Gl X x) (hm:X.mg x=none) (hv:bootBuiltins x=some (.builtin id)) (ha:PA X (e::es) t) (hn:x≠ "__name__" :=by decide) (hdb:(x == ("__debug__" : Str))=false:=by decide)
    (he:starEach (e::es) X.env=(false,eval e X.env)::starEach es X.env:=by rfl) (hpl:(backTo pos (starEach es X.env)).any (·.1)=false:=by rfl):PE X (.Call (.Name x p) (e::es) [] pos) (tCB r t):=by
  intro pins s σ H Q I h
  refine wpAny_Call_Name_kw (ld_blt I hg hm hv ?_ hn hdb)
  exact PyProof.Rows.callWith_builtin1 (thn (ha pos pins s σ H _ I h) fun us s1 ⟨vs,H1,I1,r1,q1⟩=>hc pins s1 σ H1 vs us Q I1 r1 q1) he hpl
theorem pe_callTy (hc:CallR X (.type T) r) (hg:Gl X x) (hm:X.mg x=none) (hv:bootBuiltins x=some (.type T)) (ha:PA X (e::es) t) (hn:x≠ "__name__" :=by decide) (hdb:(x == ("__debug__" : Str))=false:=by decide)
    (he:starEach (e::es) X.env=(false,eval e X.env)::starEach es X.env:=by rfl) (hpl:(backTo pos (starEach es X.env)).any (·.1)=false:=by rfl):PE X (.Call (.Name x p) (e::es) [] pos) (tCB r t):=by
  intro pins s σ H Q I h
  refine wpAny_Call_Name_kw (ld_blt I hg hm hv ?_ hn hdb)
  exact PyProof.Rows.callWith_type1 (thn (ha pos pins s σ H _ I h) fun us s1 ⟨vs,H1,I1,r1,q1⟩=>hc pins s1 σ H1 vs us Q I1 r1 q1) he hpl
end
end L2
namespace HT
open PySem PyProof.Rows
section
open PySem.SeqAt
open PySem.AutoSeq1 (wpAny_loadPart')
open PySem.MeetsSeq PySem.MeetsSeq2 PySem.MeetsSeq3
end
section
variable {prog:Program} {w:World} {A:Around} {E:Value→Shared→Prop} {s:Shared}
theorem cat_tup {t b:Addr} {vs ws:List Value} {Q:Value→Shared→Prop} (ht:IsTup s.heap t vs.toArray) (hb:IsTup s.heap b ws.toArray) (hv:vs≠[])
    (h1:ws=[]→Q (.ref t) s) (h2:ws≠[]→Q (.ref s.heap.objs.size) { s with heap:=s.heap.push { cls:=.type "tuple",data:=.seq (vs++ws).toArray } })
    (hsz:vs.length+ws.length≤sizeLine):wpAny (model prog w) A (binaryOp .Add (.ref t) (.ref b)) Q E s:=by
  obtain ⟨⟨cls,dd,data,sl⟩,ho,hc,n,hd⟩:=id ht
  obtain ⟨⟨cls2,dd2,data2,sl2⟩,ho2,hc2,n2,hd2⟩:=id hb
  simp only at hc hd hc2 hd2
  subst hc hd hc2 hd2
  have e:vs.toArray++ws.toArray=(vs++ws).toArray:=by simp
  by_cases hw:ws=[]
  · exact concat_meets ⟨_,ho,rfl⟩ ⟨_,ho2,rfl⟩ noFill_tuple_add seq_tuple_add PySem.F.slot_tuple_add PySem.F.entry_tuple_add (PySem.F.args_tuple_add_2 _ _)
      (tuple_addW1 t b vs.toArray ws.toArray n n2 dd dd2 sl sl2 (by simpa using hv) (by simp [hw])) ⟨ho,ho2,h1 hw⟩
  · refine concat_meets ⟨_,ho,rfl⟩ ⟨_,ho2,rfl⟩ noFill_tuple_add seq_tuple_add PySem.F.slot_tuple_add PySem.F.entry_tuple_add (PySem.F.args_tuple_add_2 _ _)
      (tuple_addW2 t b vs.toArray ws.toArray n n2 dd dd2 sl sl2 (by simpa using hv) (by simpa using hw) (by rw [List.size_toArray,List.size_toArray];exact hsz)) ⟨ho,ho2,?_⟩
    rw [e]
    exact h2 hw
def sIx (n d:Nat):Option Int→Nat
  | none=>d
  | some v=>if v < 0 then (v+(n:Int)).toNat else min v.toNat n
theorem sIx_none (n d:Nat):sIx n d none=d:=rfl
theorem sIx_nat (n d k:Nat):sIx n d (some (k:Int))=min k n:=by
  show (if (k:Int) < 0 then ((k:Int)+(n:Int)).toNat else min (k:Int).toNat n)=min k n
  rw [if_neg (by omega),Int.toNat_natCast]
theorem sIx_le (n d:Nat) (hd:d≤n) (o:Option Int):sIx n d o≤n:=by
  cases o with
  | none=>exact hd
  | some v=>
    show (if v < 0 then (v+(n:Int)).toNat else min v.toNat n)≤n
    by_cases hv:v < 0
    · rw [if_pos hv];omega
    · rw [if_neg hv];exact Nat.min_le_right _ _
theorem clip_eq (v:Int) (n d:Nat):(if v < 0 then max (v+(n:Int)) 0 else min v (n:Int))=((sIx n d (some v):Nat):Int):=by
  show (if v < 0 then max (v+(n:Int)) 0 else min v (n:Int))=(((if v < 0 then (v+(n:Int)).toNat else min v.toNat n):Nat):Int)
  by_cases hv:v < 0
  · simp only [if_pos hv];omega
  · simp only [if_neg hv];omega
theorem adjust_gen (lo hi:Option Int) (n:Nat):Builtin.Slice.sliceAdjust lo hi 1 (n:Int)=(((sIx n 0 lo:Nat):Int),((sIx n n hi:Nat):Int)):=by
  have h1:¬ ((1:Int) < 0):=by omega
  unfold Builtin.Slice.sliceAdjust
  simp only [h1,if_false]
  refine Prod.ext ?_ ?_
  · cases lo with
    | none=>rfl
    | some v=>exact clip_eq v n 0
  · cases hi with
    | none=>rfl
    | some v=>exact clip_eq v n n
theorem places_gen (i j:Nat):Builtin.Slice.slicePlaces (i:Int) (j:Int) 1=j - i:=by
  unfold Builtin.Slice.slicePlaces
  have h1:(1:Int) > 0:=by omega
  simp only [h1,if_true,Int.ediv_one]
  split<;>omega
theorem slicePart_ {v:Value} {o:Option Int} {Q:Option Int→Shared→Prop} (p:IsPart v o) (h:Q o s):wpAny (model prog w) A (Builtin.Slice.slicePartIndex v) Q E s:=by
  cases p with
  | none=>exact slicePart_none h
  | int i t=>exact slicePart_int h
theorem sliceApplied_gen {sl:Addr} {vl vu:Value} {lo hi:Option Int} {n:Nat} {Q:Int×Int×Nat→Shared→Prop} (hs:s.heap.IsSliceOf sl vl vu .none) (pl:IsPart vl lo) (pu:IsPart vu hi)
    (h:Q (((sIx n 0 lo:Nat):Int),1,sIx n n hi - sIx n 0 lo) s):wpAny (model prog w) A (Builtin.Slice.sliceApplied (.ref sl) (pure (n:Int))) Q E s:=by
  obtain ⟨os,hos,hcs,hds⟩:=id hs
  unfold Builtin.Slice.sliceApplied Builtin.Slice.sliceFields
  refine wpAny_bind (wpAny_bind (wpAny_field hos hds (x:=vl) rfl (wpAny_bind (wpAny_field hos hds (x:=vu) rfl (wpAny_bind (wpAny_field hos hds (x:=.none) rfl (wpAny_pure ?_)))))))
  refine wpAny_bind (slicePart_none ?_)
  show wpAny _ _ (if ((1:Int) == 0)=true then _ else _) _ _ s
  rw [if_neg (by decide)]
  refine wpAny_bind (slicePart_ pl (wpAny_bind (slicePart_ pu (wpAny_bind (wpAny_pure ?_)))))
  show wpAny _ _ (match Builtin.Slice.sliceAdjust lo hi 1 (n:Int) with | (lo,hi)=>pure (lo,(1:Int),Builtin.Slice.slicePlaces lo hi 1)) _ _ s
  rw [adjust_gen lo hi n]
  show wpAny _ _ (pure (((sIx n 0 lo:Nat):Int),(1:Int),Builtin.Slice.slicePlaces ((sIx n 0 lo:Nat):Int) ((sIx n n hi:Nat):Int) 1)) _ _ s
  rw [places_gen]
  exact wpAny_pure h
theorem pick_gen (xs:Array Value) (i k:Nat):((List.range k).filterMap fun (m:Nat)=>xs[((i:Int)+(m:Int)*1).toNat]?).toArray=((xs.toList.drop i).take k).toArray:=by
  have e:(fun (m:Nat)=>xs[((i:Int)+(m:Int)*1).toNat]?)=fun m=>xs[i+m]?:=by
    funext m
    have:((i:Int)+(m:Int)*1).toNat=i+m:=by omega
    rw [this]
  rw [e]
  have:=pick_run xs i k
  rw [List.filterMap_map] at this
  have e2:((fun x=>xs[x]?) ∘ fun x=>i+x)=fun m=>xs[i+m]?:=rfl
  rw [e2] at this
  rw [this]
theorem getItem_tuple_cut {t sl:Addr} {items:Array Value} {vl vu:Value} {lo hi:Option Int} {Q:Value→Shared→Prop} (ht:IsTup s.heap t items) (hs:s.heap.IsSliceOf sl vl vu .none) (pl:IsPart vl lo) (pu:IsPart vu hi)
    (hw:¬ (sIx items.size 0 lo=0∧sIx items.size items.size hi=items.size))
    (h:Q (.ref s.heap.objs.size) { s with heap:=s.heap.push { cls:=.type "tuple",data:=.seq ((items.toList.drop (sIx items.size 0 lo)).take (sIx items.size items.size hi - sIx items.size 0 lo)).toArray } })
    (hsz:items.size≤sizeLine):wpAny (model prog w) A (getItem (.ref t) (.ref sl)) Q E s:=by
  have htake:sizeOk (.seq ((items.toList.drop (sIx items.size 0 lo)).take (sIx items.size items.size hi - sIx items.size 0 lo)).toArray):=by
    show ((items.toList.drop (sIx items.size 0 lo)).take (sIx items.size items.size hi - sIx items.size 0 lo)).toArray.size≤sizeLine
    rw [List.size_toArray,List.length_take,List.length_drop,Array.length_toList]
    omega
  have hj:sIx items.size items.size hi≤items.size:=sIx_le _ _ (Nat.le_refl _) hi
  obtain ⟨os,hos,hcs,hds⟩:=id hs
  have hTs:s.TypeIs (.ref sl) "slice" :=⟨os,hos,hcs⟩
  unfold getItem
  try with_reducible refine wpAny_holding ?_
  first | refine wpAny_bind (wpAny_pure ?_) | skip
  refine wpAny_bind (wpAny_sequenceKey ht.typeIs (by decide) ?_)
  refine wpAny_bind (wpAny_callSpecial?_slot (name:=Str.ofString "__getitem__") ht.typeIs PyProof.Rows.slot_tuple_getitem
    (wpAny_call_entry PyProof.Rows.slot_tuple_getitem ht.typeIs entry_tuple_getitem ?_ (args_tuple_getitem _ _)))
  show wpAny _ _ (Builtin.Tuple.tupleItemsOf (.ref t) >>= _) _ _ s
  refine wpAny_bind (tupleItemsOf_ ht ?_)
  refine wpAny_bind (wpAny_typeOf hTs ?_)
  rw [if_pos (by decide)]
  refine wpAny_bind (sliceApplied_gen hs pl pu ?_)
  have hno:¬ ((((sIx items.size 0 lo:Nat):Int) == 0 && (1:Int) == 1 && (sIx items.size items.size hi - sIx items.size 0 lo) == items.size)=true):=by
    intro q
    rw [Bool.and_eq_true,Bool.and_eq_true] at q
    have q1:((sIx items.size 0 lo:Nat):Int)=0:=eq_of_beq q.1.1
    have q2:sIx items.size items.size hi - sIx items.size 0 lo=items.size:=eq_of_beq q.2
    exact hw ⟨by omega,by omega⟩
  show wpAny _ _ (if (((sIx items.size 0 lo:Nat):Int) == 0 && (1:Int) == 1 && (sIx items.size items.size hi - sIx items.size 0 lo) == items.size)=true then _ else _) _ _ s
  rw [if_neg hno,pick_gen]
  first
    | exact wpAny_bind (m:=Builtin.Tuple.tupleExact _) (wpAny_newObj_type (wpAny_pure ⟨_,rfl,wpAny_pure h⟩) htake)
    | exact wpAny_bind (m:=Builtin.Tuple.tupleExact _) (wpAny_newObj_type (wpAny_bind (wpAny_pure (wpAny_pure ⟨_,rfl,wpAny_pure h⟩))) htake)
    | exact wpAny_bind (wpAny_bind (m:=Builtin.Tuple.tupleExact _) (wpAny_newObj_type (wpAny_pure (wpAny_pure ⟨_,rfl,wpAny_pure h⟩)) htake))
    | exact wpAny_bind (wpAny_bind (m:=Builtin.Tuple.tupleExact _) (wpAny_newObj_type (wpAny_pure ⟨_,rfl,wpAny_pure h⟩) htake))
end
end HT
namespace L2
open PySem PySem.Spec PyProof.Rows
abbrev TO:=St→Hp→(Option Int→Hp→Prop)→Prop
def PO (X:Cx) (e:Option Expr) (t:TO):Prop:=
  ∀ (pins:List (Addr×Obj)) (s:Shared) (σ:St) (H:Hp) (Q:Option Int→Hp→Prop),Inv X pins σ H s→t σ H Q→
    wpAny (model X.prog X.w) X.A (evalPart e X.env) (fun u s'=>∃ o H',Inv X pins σ H' s'∧IsPart u o∧Q o H') X.xe s
def tNoPart:TO:=fun _ H Q=>Q none H
def tPart (t:TE):TO:=fun σ H Q=>t σ H fun x H1=>∃ i,x = .int i∧Q (some i) H1
section
variable {X:Cx} {e:Expr} {te:TE} {lo hi:Option Expr} {tl th:TO} {pos p2:Pos}
theorem po_none:PO X none tNoPart:=by
  intro pins s σ H Q I h
  rw [evalPart_none]
  exact wpAny_pure ⟨none,H,I,.none,h⟩
theorem po_some (h:PE X e te):PO X (some e) (tPart te):=by
  intro pins s σ H Q I hw
  rw [evalPart_some]
  refine thn (h pins s σ H _ I hw) fun u s1 ⟨x,H1,I1,r1,q1⟩=>?_
  obtain ⟨i,rfl,q⟩:=q1
  obtain ⟨t,rfl⟩:=r1
  exact ⟨some i,H1,I1,.int i t,q⟩
def SlR (X:Cx) (r:V→Option Int→Option Int→Hp→VK→Prop):Prop:=
  ∀ (pins:List (Addr×Obj)) (s:Shared) (σ:St) (H:Hp) (x:V) (v vl vu:Value) (lo hi:Option Int) (sl:Addr) (Q:VK),Inv X pins σ H s→RelV x v→s.heap.IsSliceOf sl vl vu .none→IsPart vl lo→IsPart vu hi→r x lo hi H Q→
    ∃ T id,typeLookup (.type T) "__getitem__" = pure (some (.builtin id))∧s.TypeIs v T∧wpAny (model X.prog X.w) X.A (getItem v (.ref sl)) (EP X pins σ Q) X.xe s
theorem SlR.or {r r':V→Option Int→Option Int→Hp→VK→Prop} (h:SlR X r) (h':SlR X r'):SlR X (fun x lo hi H Q=>r x lo hi H Q∨r' x lo hi H Q):=by
  intro pins s σ H x v vl vu lo hi sl Q I rx hs pl pu q
  rcases q with q | q
  · exact h pins s σ H x v vl vu lo hi sl Q I rx hs pl pu q
  · exact h' pins s σ H x v vl vu lo hi sl Q I rx hs pl pu q
def tSl (r:V→Option Int→Option Int→Hp→VK→Prop) (te:TE) (tl th:TO):TE:=fun σ H Q=>te σ H fun x H1=>tl σ H1 fun l H2=>th σ H2 fun u H3=>r x l u H3 Q
theorem pe_slice {r:V→Option Int→Option Int→Hp→VK→Prop} (hr:SlR X r) (he:PE X e te) (hl:PO X lo tl) (hu:PO X hi th):PE X (.Subscript e (.Slice lo hi none p2) pos) (tSl r te tl th):=by
  intro pins s σ H Q I h
  refine Subscript_ (thn (he pins s σ H _ I h) fun v s1 ⟨x,H1,I1,r1,q1⟩=>?_)
  refine wpAny_Slice (thn (hl pins s1 σ H1 _ I1 q1) fun vl s2 ⟨l,H2,I2,pl,q2⟩=>thn (hu pins s2 σ H2 _ I2 q2) fun vu s3 ⟨u,H3,I3,pu,q3⟩=>?_)
  rw [evalPart_none]
  refine wpAny_pure ?_
  have I4:Inv X pins σ H3 { s3 with heap:=s3.heap.push { cls:=.type "slice",data:=.fields #[vl,vu,.none] } }:=I3.kept (t':=s3.toks) fun b ob q=>Heap.get?_push_of_some _ q
  obtain ⟨T,id,hT,ht,hg⟩:=hr pins { s3 with heap:=s3.heap.push { cls:=.type "slice",data:=.fields #[vl,vu,.none] } } σ H3 x v vl vu l u s3.heap.objs.size Q I4 r1 (Heap.IsSliceOf.new ..) pl pu q3
  show wpAny (model X.prog X.w) X.A (subscriptTail e (.Slice lo hi none p2) v (.ref s3.heap.objs.size)) (EP X pins σ Q) X.xe { s3 with heap:=s3.heap.push { cls:=.type "slice",data:=.fields #[vl,vu,.none] } }
  exact tail_any (ops:=[.ref s3.heap.objs.size,v]) ht hT hg (by with_unfolding_all rfl)
def cutV (xs:List V) (lo hi:Option Int):List V:=(xs.drop (HT.sIx xs.length 0 lo)).take (HT.sIx xs.length xs.length hi - HT.sIx xs.length 0 lo)
theorem cutV_length (xs:List V) (lo hi:Option Int):(cutV xs lo hi).length≤xs.length:=by
  unfold cutV
  rw [List.length_take,List.length_drop]
  omega
def rSlT (K:PySem.W.Frag):V→Option Int→Option Int→Hp→VK→Prop:=fun x lo hi H Q=>∃ a xs,x = .ref a∧SqT K H a xs∧
  ¬ (HT.sIx xs.length 0 lo=0∧HT.sIx xs.length xs.length hi=xs.length)∧∀ p,H p=none→Q (.ref p) (upd H p (.tup (cutV xs lo hi)))
theorem sl_tup:SlR X (rSlT X.K):=by
  intro pins s σ H x v vl vu lo hi sl Q I rx hs pl pu h
  obtain ⟨a,xs,rfl,hx,hw,q⟩:=h
  cases rx
  obtain ⟨its,r,ht,hz⟩:=I.tuple hx
  have hlen:its.toArray.size=xs.length:=by rw [List.size_toArray];exact r.length.symm
  refine ⟨"tuple",_,PyProof.Rows.slot_tuple_getitem.lookup,ht.typeIs,?_⟩
  refine HT.getItem_tuple_cut ht hs pl pu (by rw [hlen];exact hw) ?_ (by rw [hlen];exact hz)
  rw [hlen]
  refine ⟨.ref s.heap.objs.size,_,I.laid (t':=s.toks) (o:=.tup (cutV xs lo hi)) (fun b ob q=>Heap.get?_push_of_some _ q) (Nat.le_refl _) ?_,rfl,q _ (I.hok.fresh (Nat.le_refl _))⟩
  exact ⟨Nat.le_trans (cutV_length xs lo hi) hz,_,(r.drop (HT.sIx xs.length 0 lo)).take (HT.sIx xs.length xs.length hi - HT.sIx xs.length 0 lo),IsTup.new _ _⟩
def rCatT (K:PySem.W.Frag):R2:=fun x y H Q=>∃ a b xs ys,x = .ref a∧y = .ref b∧SqT K H a xs∧SqT K H b ys∧xs≠[]∧xs.length+ys.length≤sizeLine∧
  (ys=[]→Q (.ref a) H)∧(ys≠[]→∀ p,H p=none→Q (.ref p) (upd H p (.tup (xs++ys))))
theorem Vals.nil_iff {xs:List V} {us:List Value} (r:Vals xs us):us=[]↔xs=[]:=by
  cases r with
  | nil=>simp
  | cons _ _=>simp
theorem op_catT:OpR X (binaryOp .Add) (rCatT X.K):=by
  intro pins s σ H x y v u Q I rx ry h
  obtain ⟨a,b,xs,ys,rfl,rfl,ha,hb,hx,hz,q1,q2⟩:=h
  cases rx
  cases ry
  obtain ⟨its,r1,p1,_⟩:=I.tuple ha
  obtain ⟨its2,r2,p2,_⟩:=I.tuple hb
  refine HT.cat_tup p1 p2 (fun z=>hx (r1.nil_iff.mp z)) (fun z=>⟨.ref a,H,I,rfl,q1 (r2.nil_iff.mp z)⟩) (fun z=>?_) (by rw [← r1.length,← r2.length];exact hz)
  refine ⟨.ref s.heap.objs.size,_,I.laid (t':=s.toks) (o:=.tup (xs++ys)) (fun b ob q=>Heap.get?_push_of_some _ q) (Nat.le_refl _) ?_,rfl,q2 (fun w=>z (r2.nil_iff.mpr w)) _ (I.hok.fresh (Nat.le_refl _))⟩
  exact ⟨by rw [List.length_append];exact hz,_,r1.append r2,IsTup.new _ _⟩
end
def ixN (n:Nat) (i:Int):Option Nat:=if 0≤i then (if i < n then some i.toNat else none) else if -(n:Int)≤i then some (i+n).toNat else none
def atI {α:Type} (xs:List α) (i:Int):Option α:=(ixN xs.length i).bind fun j=>xs[j]?
theorem ixN_seq {n:Nat} {i:Int} {j:Nat} (h:ixN n i=some j):seqIndex? i n=some j∧j < n∧-(n:Int)≤i∧i < n:=by
  unfold ixN at h
  by_cases h0:0≤i
  · rw [if_pos h0] at h
    by_cases h1:i < n
    · rw [if_pos h1] at h
      have e:i.toNat=j:=Option.some.inj h
      exact ⟨by rw [seqIndex_of h0 h1,e],by omega,by omega,h1⟩
    · rw [if_neg h1] at h;cases h
  · rw [if_neg h0] at h
    by_cases h1:-(n:Int)≤i
    · rw [if_pos h1] at h
      have e:(i+n).toNat=j:=Option.some.inj h
      exact ⟨by rw [seqIndex_neg (by omega) h1,e],by omega,h1,by omega⟩
    · rw [if_neg h1] at h;cases h
theorem atI_get {α:Type} {xs:List α} {i:Int} {v:α} (h:atI xs i=some v):∃ j,seqIndex? i xs.length=some j∧xs[j]? = some v∧j < xs.length∧-(xs.length:Int)≤i∧i < xs.length:=by
  unfold atI at h
  cases e:ixN xs.length i with
  | none=>rw [e] at h;cases h
  | some j=>
    rw [e] at h
    obtain ⟨h1,h2,h3,h4⟩:=ixN_seq e
    exact ⟨j,h1,h,h2,h3,h4⟩
theorem atI_nat {α:Type} {xs:List α} {j:Nat} {v:α} (h:xs[j]? = some v):atI xs (j:Int)=some v:=by
  have hj:j < xs.length:=(List.getElem?_eq_some_iff.mp h).1
  have e:ixN xs.length (j:Int)=some j:=by
    unfold ixN
    rw [if_pos (by omega),if_pos (by omega)];simp
  unfold atI;rw [e];exact h
def PlainIx (b:Expr):Prop:=∀ o i,subscripted b false o i=operate [o,i] (getItem o i)
def IxR (X:Cx) (r:R2):Prop:=
  ∀ (value slice:Expr) (pins:List (Addr×Obj)) (s:Shared) (σ:St) (H:Hp) (x y:V) (v u:Value) (Q:VK),Inv X pins σ H s→RelV x v→RelV y u→r x y H Q→
    subscripted slice false v u=operate [v,u] (getItem v u)→wpAny (model X.prog X.w) X.A (subscriptTail value slice v u) (EP X pins σ Q) X.xe s
def MtR (X:Cx) (id:String) (r:V→List V→Hp→VK→Prop):Prop:=
  ∀ (pins:List (Addr×Obj)) (s:Shared) (σ:St) (H:Hp) (x:V) (xs:List V) (v:Value) (us:List Value) (Q:VK),Inv X pins σ H s→RelV x v→Vals xs us→r x xs H Q→
    wpAny (model X.prog X.w) X.A (call (.builtin id) (v::us)) (EP X pins σ Q) X.xe s
section
variable {X:Cx} {a b:Expr} {ta tb:TE} {pos:Pos}
theorem IxR.or {r r':R2} (h:IxR X r) (h':IxR X r'):IxR X (fun x y H Q=>r x y H Q∨r' x y H Q):=by
  intro value slice pins s σ H x y v u Q I rx ry q hs
  rcases q with q | q
  · exact h value slice pins s σ H x y v u Q I rx ry q hs
  · exact h' value slice pins s σ H x y v u Q I rx ry q hs
theorem MtR.or {id:String} {r r':V→List V→Hp→VK→Prop} (h:MtR X id r) (h':MtR X id r'):MtR X id (fun x xs H Q=>r x xs H Q∨r' x xs H Q):=by
  intro pins s σ H x xs v us Q I rx rs q
  rcases q with q | q
  · exact h pins s σ H x xs v us Q I rx rs q
  · exact h' pins s σ H x xs v us Q I rx rs q
theorem pe_ix {r:R2} (hr:IxR X r) (ha:PE X a ta) (hb:PE X b tb) (hs:PlainIx b):PE X (.Subscript a b pos) (tOp r ta tb):=by
  intro pins s σ H Q I h
  exact Subscript_ (binT ha hb I h fun v u s2 x y H2 I2 rx ry q=>hr a b pins s2 σ H2 x y v u Q I2 rx ry q (hs _ _))
def rIxL (K:PySem.W.Frag):R2:=fun x y H Q=>∃ p xs i v,x = .ref p∧y = .int i∧SqL K H p xs∧atI xs i=some v∧Q v H
def rIxT (K:PySem.W.Frag):R2:=fun x y H Q=>∃ p xs i v,x = .ref p∧y = .int i∧SqT K H p xs∧atI xs i=some v∧Q v H
def rIxS:R2:=fun x y H Q=>∃ z i c,x = .str z∧y = .int i∧z.length≤sizeLine∧atI z.cps.toList i=some c∧Q (.str ⟨#[c]⟩) H
theorem ix_list:IxR X (rIxL X.K):=by
  intro value slice pins s σ H x y v u Q I rx ry h hs
  obtain ⟨p,xs,i,z,rfl,rfl,hq,he,q⟩:=h
  cases rx
  obtain ⟨t,rfl⟩:=ry
  obtain ⟨its,r,pl,hz⟩:=I.list hq
  obtain ⟨j,h1,h2,h3,h4,h5⟩:=atI_get he
  obtain ⟨w,ew,rw'⟩:=r.get h2
  have hl:=r.length
  have hn:=line63
  have fin:EP X pins σ Q w s:=⟨z,H,I,rw',q⟩
  by_cases h0:0≤i
  · have hj:i.toNat=j:=by
      rw [seqIndex_of h0 h5] at h1
      exact Option.some.inj h1
    exact item_listR pl.isList h0 (by omega) (by rw [hj];simpa using ew) fin hs
  · have hj:(i+(its.toArray.size:Int)).toNat=j:=by
      rw [seqIndex_neg (by omega) h4] at h1
      rw [List.size_toArray,← hl]
      exact Option.some.inj h1
    exact subscriptTail_builtinR (x:=w) pl.isList.typeIs slot_list_getitem.lookup
      (wpAny_getItem_list_neg (Q:=fun r s'=>r=w∧EP X pins σ Q r s') pl.isList (by omega) (by rw [List.size_toArray]<;>omega) (by omega) (by rw [hj];simpa using ew) ⟨rfl,fin⟩) hs
theorem ix_tup:IxR X (rIxT X.K):=by
  intro value slice pins s σ H x y v u Q I rx ry h hs
  obtain ⟨p,xs,i,z,rfl,rfl,hq,he,q⟩:=h
  cases rx
  obtain ⟨t,rfl⟩:=ry
  obtain ⟨its,r,pl,hz⟩:=I.tuple hq
  obtain ⟨j,h1,h2,h3,h4,h5⟩:=atI_get he
  obtain ⟨w,ew,rw'⟩:=r.get h2
  have hl:=r.length
  have hn:=line63
  have fin:EP X pins σ Q w s:=⟨z,H,I,rw',q⟩
  exact subscriptTail_builtinR (x:=w) pl.typeIs slot_tuple_getitem.lookup
    (getItem_tuple (j:=j) (Q:=fun r s'=>r=w∧EP X pins σ Q r s') pl (by omega) (by omega) (by rw [List.size_toArray,← hl];exact h1) (by simpa using ew) ⟨rfl,fin⟩) hs
theorem ix_str:IxR X rIxS:=by
  intro value slice pins s σ H x y v u Q I rx ry h hs
  obtain ⟨z,i,c,rfl,rfl,hz,he,q⟩:=h
  obtain ⟨t,rfl⟩:=rx
  obtain ⟨t',rfl⟩:=ry
  obtain ⟨j,h1,h2,h3,h4,h5⟩:=atI_get he
  have hl:z.cps.toList.length=z.length:=by simp [Str.length]
  rw [hl] at h1 h4 h5
  have hn:=line63
  exact tail_any (typeIs_str s z t) slot_str_getitem.lookup (getItem_str (c:=c) (by
    have e1:decide (i < -(2 ^ 63:Int))=false:=decide_eq_false (by omega)
    have e2:decide (i ≥ 2 ^ 63)=false:=decide_eq_false (by omega)
    rw [e1,e2,Bool.or_false]) (by rw [h1];simpa using h2) ⟨.str ⟨#[c]⟩,H,I.tok _,⟨_,rfl⟩,q⟩) hs
def rIx (K:PySem.W.Frag):R2:=fun x y H Q=>rIxL K x y H Q∨rIxT K x y H Q∨rIxS x y H Q
theorem ix_seq:IxR X (rIx X.K):=ix_list.or (ix_tup.or ix_str)
theorem mapSeq_set (its:List Value) (n j:Nat) (u:Value):Obj.mapSeq (·.setIfInBounds j u) { cls:=.type "list",data:=.seq its.toArray n }={ cls:=.type "list",data:=.seq (its.set j u).toArray n }:=by
  simp [Obj.mapSeq]
theorem Inv.lst {pins:List (Addr×Obj)} {σ:St} {H:Hp} {s:Shared} {p:Addr} {xs:List V} (I:Inv X pins σ H s) (h:H p=some (.lst xs)) :
    ∃ (its:List Value) (n:Nat),Vals xs its∧s.heap.get? p=some { cls:=.type "list",data:=.seq its.toArray n }∧xs.length≤sizeLine:=by
  obtain ⟨z,its,n,r,e⟩:=I.hok p _ h
  exact ⟨its,n,r,e,z⟩
theorem Inv.lstUpd {pins:List (Addr×Obj)} {σ:St} {H:Hp} {s:Shared} {p:Addr} {xs ys:List V} {its its':List Value} {n n':Nat} {f:Obj→Obj} (I:Inv X pins σ H s) (h:H p=some (.lst xs))
    (ho:s.heap.get? p=some { cls:=.type "list",data:=.seq its.toArray n }) (hf:f { cls:=.type "list",data:=.seq its.toArray n }={ cls:=.type "list",data:=.seq its'.toArray n' }) (r:Vals ys its') (hz:ys.length≤sizeLine) (t:Nat) :
    Inv X pins σ (upd H p (.lst ys)) { s with heap:=s.heap.update p f,toks:=t }:=by
  have e:(s.heap.update p f).get? p=some { cls:=.type "list",data:=.seq its'.toArray n' }:=by
    rw [Heap.get?_update_self f ho (by rw [hf]<;>rfl),hf]
  refine I.write (x:=p) (e:=p) (by rw [h];trivial) (.inl rfl) (fun b u hb q=>(Heap.get?_update_other _ _ (Ne.symm hb)).trans q) ⟨_,e⟩ ?_
  exact ⟨hz,its',n',r,e⟩
def rSetL:V→V→V→Hp→(Hp→Prop)→Prop:=fun o i v H Q=>∃ p xs k j,o = .ref p∧i = .int k∧H p=some (.lst xs)∧ixN xs.length k=some j∧Q (upd H p (.lst (xs.set j v)))
theorem set_list:PSet X rSetL:=by
  intro pins s σ H o i v ov iv u Q I ro ri rv h
  obtain ⟨p,xs,k,j,rfl,rfl,hp,hj,q⟩:=h
  cases ro
  obtain ⟨t,rfl⟩:=ri
  obtain ⟨its,n,r,ho,hz⟩:=I.lst hp
  obtain ⟨h1,h2,h3,h4⟩:=ixN_seq hj
  have hl:=r.length
  have hn:=line63
  have I':Inv X pins σ (upd H p (.lst (xs.set j v))) { s with heap:=s.heap.update p (Obj.mapSeq (·.setIfInBounds j u)) }:=
    I.lstUpd hp ho (mapSeq_set its n j u) (r.set rv j) (by rw [List.length_set];exact hz) s.toks
  by_cases h0:0≤k
  · have hk:k.toNat=j:=by
      rw [seqIndex_of h0 h4] at h1
      exact Option.some.inj h1
    exact PySem.W.ki_setAt ho h0 (by omega) (by rw [List.size_toArray,← hl];exact h4) (by rw [hk];exact ⟨_,I',q⟩)
  · have hk:(k+(its.toArray.size:Int)).toNat=j:=by
      rw [seqIndex_neg (by omega) h3] at h1
      rw [List.size_toArray,← hl]
      exact Option.some.inj h1
    exact PySem.W.ki_setBack ho (by omega) (by rw [List.size_toArray,← hl];exact h3) (by omega) (by rw [hk];exact ⟨_,I',q⟩)
theorem slice_bounds (lo hi:Option Int) (n:Nat):(sliceBounds lo hi none n).1=((HT.sIx n 0 lo:Nat):Int)∧(sliceBounds lo hi none n).2.1=((HT.sIx n n hi:Nat):Int)∧(sliceBounds lo hi none n).2.2=1:=by
  refine ⟨?_,?_,rfl⟩
  · cases lo with
    | none=>simp [sliceBounds,HT.sIx]
    | some i=>
      simp only [sliceBounds,HT.sIx,Option.getD_none,show (1:Int) > 0 by decide,if_true]
      by_cases h:i < 0
      · simp only [h,if_true]<;>omega
      · simp only [h,if_false]<;>omega
  · cases hi with
    | none=>simp [sliceBounds,HT.sIx]
    | some i=>
      simp only [sliceBounds,HT.sIx,Option.getD_none,show (1:Int) > 0 by decide,if_true]
      by_cases h:i < 0
      · simp only [h,if_true]<;>omega
      · simp only [h,if_false]<;>omega
theorem slicePick_cut (its:List Value) (lo hi:Option Int):slicePick its.toArray lo hi none=((its.drop (HT.sIx its.length 0 lo)).take (HT.sIx its.length its.length hi - HT.sIx its.length 0 lo)).toArray:=by
  obtain ⟨h1,h2,h3⟩:=slice_bounds lo hi its.toArray.size
  unfold slicePick
  rw [h1,h2,h3]
  simp only [sliceRange_one,pick_run,List.size_toArray]<;>rfl
def rSlL (K:PySem.W.Frag):V→Option Int→Option Int→Hp→VK→Prop:=fun x lo hi H Q=>∃ a xs,x = .ref a∧SqL K H a xs∧∀ p,H p=none→Q (.ref p) (upd H p (.lst (cutV xs lo hi)))
theorem sl_list:SlR X (rSlL X.K):=by
  intro pins s σ H x v vl vu lo hi sl Q I rx hs pl pu h
  obtain ⟨a,xs,rfl,hx,q⟩:=h
  cases rx
  obtain ⟨its,r,ht,hz⟩:=I.list hx
  have hlen:=r.length
  refine ⟨"list",_,slot_list_getitem.lookup,ht.isList.typeIs,?_⟩
  refine wpAny_getItem_list_slice ht.isList hs pl pu .none (by simp) ?_ (by rw [List.size_toArray]<;>omega)
  rw [slicePick_cut,← hlen]
  refine ⟨.ref s.heap.objs.size,_,I.laid (t':=s.toks) (o:=.lst (cutV xs lo hi)) (fun b ob q=>Heap.get?_push_of_some _ q) (Nat.le_refl _) ?_,rfl,q _ (I.hok.fresh (Nat.le_refl _))⟩
  exact ⟨Nat.le_trans (cutV_length xs lo hi) hz,_,0,(r.drop (HT.sIx xs.length 0 lo)).take (HT.sIx xs.length xs.length hi - HT.sIx xs.length 0 lo),Heap.get?_push_size _ rfl⟩
def flatV:V→Bool
  | .non=>true
  | .bl _=>true
  | .int _=>true
  | .str _=>true
  | _=>false
def eqV:V→V→Bool
  | .non,.non=>true
  | .bl a,.bl b=>a == b
  | .bl a,.int b=>(if a then 1 else 0) == b
  | .int a,.bl b=>a == (if b then 1 else 0)
  | .int a,.int b=>a == b
  | .str a,.str b=>a == b
  | _,_=>false
theorem eqAt_V {A:Around} {s:Shared} {y x:V} {u v:Value} (ry:RelV y u) (rx:RelV x v) (fy:flatV y=true) (fx:flatV x=true):SeqAt.EqAt A s u v (eqV y x):=by
  cases y with
  | non=>
    cases ry
    cases x with
    | non=>cases rx;exact SeqAt.EqAt.same _
    | bl b=>cases rx;exact SeqAt.EqAt.none_bool b
    | int b=>obtain ⟨t,rfl⟩:=rx;exact SeqAt.EqAt.none_int b t
    | str b=>obtain ⟨t,rfl⟩:=rx;exact SeqAt.EqAt.none_str b t
    | _=>exact absurd (show false=true from fx) Bool.false_ne_true
  | bl a=>
    cases ry
    cases x with
    | non=>cases rx;exact SeqAt.EqAt.bool_none a
    | bl b=>cases rx;exact SeqAt.EqAt.bool_bool a b
    | int b=>obtain ⟨t,rfl⟩:=rx;exact SeqAt.EqAt.bool_int a b t
    | str b=>obtain ⟨t,rfl⟩:=rx;exact SeqAt.EqAt.bool_str a b t
    | _=>exact absurd (show false=true from fx) Bool.false_ne_true
  | int a=>
    obtain ⟨t',rfl⟩:=ry
    cases x with
    | non=>cases rx;exact SeqAt.EqAt.int_none a t'
    | bl b=>cases rx;exact SeqAt.EqAt.int_bool a t' b
    | int b=>obtain ⟨t,rfl⟩:=rx;exact SeqAt.EqAt.int_int a t' b t
    | str b=>obtain ⟨t,rfl⟩:=rx;exact SeqAt.EqAt.int_str a t' b t
    | _=>exact absurd (show false=true from fx) Bool.false_ne_true
  | str a=>
    obtain ⟨t',rfl⟩:=ry
    cases x with
    | non=>cases rx;exact SeqAt.EqAt.str_none a t'
    | bl b=>cases rx;exact SeqAt.EqAt.str_bool a t' b
    | int b=>obtain ⟨t,rfl⟩:=rx;exact SeqAt.EqAt.str_int a t' b t
    | str b=>obtain ⟨t,rfl⟩:=rx;exact SeqAt.EqAt.str_str a t' b t
    | _=>exact absurd (show false=true from fx) Bool.false_ne_true
  | _=>exact absurd (show false=true from fy) Bool.false_ne_true
def eqU (x:V) (u:Value):Bool:=match u with
  | .none=>eqV .non x
  | .bool b=>eqV (.bl b) x
  | .int i _=>eqV (.int i) x
  | .str z _=>eqV (.str z) x
  | _=>false
theorem eqU_of {x y:V} {u:Value} (r:RelV y u) (f:flatV y=true):eqU x u=eqV y x:=by
  cases y with
  | non=>cases r;rfl
  | bl b=>cases r;rfl
  | int i=>obtain ⟨t,rfl⟩:=r;rfl
  | str z=>obtain ⟨t,rfl⟩:=r;rfl
  | _=>exact absurd (show false=true from f) Bool.false_ne_true
theorem any_eqU {x:V}:∀ {xs:List V} {us:List Value},Vals xs us→xs.all flatV=true→us.any (eqU x)=xs.any fun y=>eqV y x
  | _,_,.nil,_=>rfl
  | y::xs,u::us,.cons r t,f=>by
    rw [List.all_cons,Bool.and_eq_true] at f
    rw [List.any_cons,List.any_cons,eqU_of r f.1,any_eqU t f.2]
theorem mem_eqAt {A:Around} {s:Shared} {x:V} {v:Value} (rx:RelV x v) (fx:flatV x=true):∀ {xs:List V} {us:List Value},Vals xs us→xs.all flatV=true→∀ u∈us,SeqAt.EqAt A s u v (eqU x u)
  | _,_,.nil,_=>fun u hu=>by cases hu
  | y::xs,u::us,.cons r t,f=>fun u' hu=>by
    rw [List.all_cons,Bool.and_eq_true] at f
    rcases List.mem_cons.mp hu with rfl | hu
    · rw [eqU_of r f.1];exact eqAt_V r rx f.1 fx
    · exact mem_eqAt rx fx t f.2 u' hu
def inV (x:V) (xs:List V):Bool:=xs.any fun y=>eqV y x
def rIn (K:PySem.W.Frag) (neg:Bool):R2:=fun x y H Q=>∃ p xs,y = .ref p∧(SqL K H p xs∨SqT K H p xs)∧flatV x=true∧xs.all flatV=true∧Q (.bl (if neg then !inV x xs else inV x xs)) H
theorem op_in_seq:OpR X (compareOp .In) (rIn X.K false):=by
  intro pins s σ H x y v u Q I rx ry h
  obtain ⟨p,xs,rfl,hq,fx,fs,q⟩:=h
  cases ry
  rcases hq with hq | hq
  · obtain ⟨its,r,pl,hz⟩:=I.list hq
    refine SeqAt.in_listAt (eqU x) pl.isList (fun w hw=>mem_eqAt rx fx r fs w (by simpa using hw)) ⟨.bl _,H,I,rfl,?_⟩
    rw [show its.toArray.any (eqU x)=its.any (eqU x) by simp,any_eqU r fs]
    exact q
  · obtain ⟨its,r,pl,hz⟩:=I.tuple hq
    refine SeqAt.in_tupleAt (eqU x) pl (fun w hw=>mem_eqAt rx fx r fs w (by simpa using hw)) ⟨.bl _,H,I,rfl,?_⟩
    rw [show its.toArray.any (eqU x)=its.any (eqU x) by simp,any_eqU r fs]
    exact q
theorem call_len_seq:CallR X (.builtin "len") (fun xs H Q=>∃ p ys,xs=[.ref p]∧(SqL X.K H p ys∨SqT X.K H p ys)∧Q (.int ys.length) H):=by
  intro pins s σ H xs us Q I r h
  obtain ⟨p,ys,rfl,hq,q⟩:=h
  obtain ⟨u,rfl,rx⟩:=vals1 r
  cases rx
  have hn:=line63
  rcases hq with hq | hq
  · obtain ⟨its,r',pl,hz⟩:=I.list hq
    have hlen:=r'.length
    exact Calls.call_len_list pl.isList (by simp only [List.size_toArray]<;>omega) ⟨.int ys.length,H,I.tok _,⟨s.toks+1,by rw [List.size_toArray,hlen]⟩,q⟩
  · obtain ⟨its,r',pl,hz⟩:=I.tuple hq
    have hlen:=r'.length
    exact len_tuple pl (by simp only [List.size_toArray]<;>omega) ⟨.int ys.length,H,I.tok _,⟨s.toks+1,by rw [List.size_toArray,hlen]⟩,q⟩
theorem CallR.or {f:Value} {r r':List V→Hp→VK→Prop} (h:CallR X f r) (h':CallR X f r'):CallR X f (fun xs H Q=>r xs H Q∨r' xs H Q):=by
  intro pins s σ H xs us Q I rs q
  rcases q with q | q
  · exact h pins s σ H xs us Q I rs q
  · exact h' pins s σ H xs us Q I rs q
theorem call_list_of:CallR X (.type "list") (fun xs H Q=>∃ p ys,xs=[.ref p]∧(SqL X.K H p ys∨SqT X.K H p ys)∧∀ l,H l=none→Q (.ref l) (upd H l (.lst ys))):=by
  intro pins s σ H xs us Q I r h
  obtain ⟨p,ys,rfl,hq,q⟩:=h
  obtain ⟨u,rfl,rx⟩:=vals1 r
  cases rx
  have fin:∀ (its:List Value),Vals ys its→ys.length≤sizeLine→∀ (h':Heap) (c':Nat),(∀ b o',s.heap.get? b=some o'→h'.get? b=some o')→
      h'.get? s.heap.objs.size=some { cls:=.type "list",dict:=none,data:=.seq its.toArray c',slots:=#[] }→EP X pins σ Q (.ref s.heap.objs.size) { s with heap:=h' }:=fun its r' hz h' c' kp e=>
    ⟨.ref s.heap.objs.size,_,I.laid (t':=s.toks) kp (Nat.le_refl _) (show ObjOk X.prog X.w _ h' _ (.lst ys) from ⟨hz,its,c',r',e⟩),rfl,q _ (I.hok.fresh (Nat.le_refl _))⟩
  rcases hq with hq | hq
  · obtain ⟨its,r',pl,hz⟩:=I.list hq
    have hlen:=r'.length
    obtain ⟨o,ho,hc,n,hd⟩:=pl.isList
    exact call_list_seq p (.inl rfl) ho hc hd (fun h' c' kp e=>fin its r' hz h' c' kp e) (by simp only [List.size_toArray]<;>omega)
  · obtain ⟨its,r',pl,hz⟩:=I.tuple hq
    have hlen:=r'.length
    obtain ⟨o,ho,hc,n,hd⟩:=pl
    exact call_list_seq p (.inr rfl) ho hc hd (fun h' c' kp e=>fin its r' hz h' c' kp e) (by simp only [List.size_toArray]<;>omega)
theorem call_tuple_of:CallR X (.type "tuple") (fun xs H Q=>∃ p ys,xs=[.ref p]∧((SqL X.K H p ys∧∀ l,H l=none→Q (.ref l) (upd H l (.tup ys)))∨(SqT X.K H p ys∧Q (.ref p) H))):=by
  intro pins s σ H xs us Q I r h
  obtain ⟨p,ys,rfl,h⟩:=h
  obtain ⟨u,rfl,rx⟩:=vals1 r
  cases rx
  rcases h with ⟨hq,q⟩ | ⟨hq,q⟩
  · obtain ⟨its,r',pl,hz⟩:=I.list hq
    have hlen:=r'.length
    refine call_tuple_list pl.isList (fun h' kp=>?_) (by simp only [List.size_toArray]<;>omega)
    have I1:Inv X pins σ H { s with heap:=h' }:=I.kept (t':=s.toks) kp
    have I2:Inv X pins σ (upd H h'.objs.size (.tup ys)) { s with heap:=h'.push { cls:=.type "tuple",data:=.seq its.toArray } }:=
      I1.laid (t':=s.toks) (fun b o e=>Heap.get?_push_of_some _ e) (Nat.le_refl _) (show ObjOk X.prog X.w _ _ _ (.tup ys) from ⟨hz,its,r',IsTup.new _ _⟩)
    exact ⟨.ref h'.objs.size,_,I2,rfl,q _ (I1.hok.fresh (Nat.le_refl _))⟩
  · obtain ⟨its,r',pl,hz⟩:=I.tuple hq
    exact call_tuple_same pl ⟨.ref p,H,I,rfl,q⟩
def tyV (K:PySem.W.Frag) (T:String) (x:V) (H:Hp):Prop:=match x with
  | .str _=>T = "str"
  | .int _=>T = "int"
  | .ref p=>(T = "list" ∧∃ xs,SqL K H p xs)∨(T = "tuple" ∧∃ o,K.lookup p=some o∧o.cls = .type "tuple" ∧o.dict=none)∨
      (T = "dict" ∧((∃ kvs,H p=some (.dK kvs))∨∃ kvs,H p=some (.dT kvs)))∨(T = "set" ∧∃ S n,H p=some (.set S n))
  | _=>False
theorem tyV_is {pins:List (Addr×Obj)} {σ:St} {H:Hp} {s:Shared} {T:String} {x:V} {v:Value} (I:Inv X pins σ H s) (r:RelV x v) (ty:tyV X.K T x H) :
    s.TypeIs v T∧∀ a,v = .ref a→∃ ob,s.heap.get? a=some ob∧ob.dict=none:=by
  cases x with
  | str z=>
    obtain ⟨t,rfl⟩:=r
    cases (show T = "str" from ty)
    exact ⟨typeIs_str s z t,fun _ e=>nomatch e⟩
  | int i=>
    obtain ⟨t,rfl⟩:=r
    cases (show T = "int" from ty)
    exact ⟨typeIs_int s i t,fun _ e=>nomatch e⟩
  | ref p=>
    cases r
    rcases ty with ⟨rfl,xs,hq⟩ | ⟨rfl,o,hk,hc,hd⟩ | ⟨rfl,hk⟩ | ⟨rfl,S,n,hk⟩
    · obtain ⟨its,_,pl,_⟩:=I.list hq
      refine ⟨pl.isList.typeIs,fun a e=>?_⟩
      cases e
      obtain ⟨o,n,e,c,hd,_⟩:=pl
      exact ⟨o,e,hd⟩
    · refine ⟨⟨o,I.kIn p o hk,hc⟩,fun a e=>?_⟩
      cases e
      exact ⟨o,I.kIn _ o hk,hd⟩
    · have z:∃ o,s.heap.get? p=some o∧o.ExactDict:=by
        rcases hk with ⟨kvs,hk⟩ | ⟨kvs,hk⟩
        · obtain ⟨_,_,_,_,o,_,_,e,ex,_⟩:=I.hok p _ hk
          exact ⟨o,e,ex⟩
        · obtain ⟨_,_,_,_,o,_,_,e,ex,_⟩:=I.hok p _ hk
          exact ⟨o,e,ex⟩
      obtain ⟨o,e,ex⟩:=z
      refine ⟨⟨o,e,ex.1⟩,fun a e2=>?_⟩
      cases e2
      exact ⟨o,e,ex.2.1⟩
    · obtain ⟨o,_,_,_,e,ex,_⟩:=I.hok p _ hk
      refine ⟨⟨o,e,ex.1⟩,fun a e2=>?_⟩
      cases e2
      exact ⟨o,e,ex.2.1⟩
  | _=>exact False.elim ty
def tBM (K:PySem.W.Frag) (T:String) (r:V→List V→Hp→VK→Prop) (to:TE) (t:TA):TE:=fun σ H Q=>to σ H fun x H1=>tyV K T x H1∧t σ H1 fun xs H2=>r x xs H2 Q
variable {o e:Expr} {es:List Expr} {to:TE} {t:TA} {name:Str} {apos cpos:Pos} {T id:String} {r:V→List V→Hp→VK→Prop}
theorem pe_bm (pa:PlainAttrs T) (slot:Slot T name id) (hty:typeOf (.builtin id)=pure (.type "method_descriptor")) (hm:MtR X id r) (ho:PE X o to) (ha:PA X (e::es) t)
    (hbase:attributeBase o name X.env (eval o X.env)=eval o X.env:=by rfl)
    (hfew:((backTo cpos (starEach (e::es) X.env)).all (fun x=>!x.1) && (backToKw cpos (keywordEach [] X.env)).all (fun x=>x.1.isSome)
      && decide ((e::es).length+([]:List Keyword).length+(if ([]:List Keyword).isEmpty then 0 else 1) < 30))=true:=by rfl)
    (hline:(apos.endLine == cpos.line)=true:=by rfl) (hs:starEach (e::es) X.env=(false,eval e X.env)::starEach es X.env:=by rfl) (hplain:(backTo cpos (starEach es X.env)).any (·.1)=false:=by rfl) :
    PE X (.Call (.Attribute o name apos) (e::es) [] cpos) (tBM X.K T r to t):=by
  intro pins s σ H Q I h
  refine wpAny_Call_method_late hbase hfew hline rfl (thn (ho pins s σ H _ I h) fun v s1 ⟨x,H1,I1,r1,ty,q1⟩=>?_)
  obtain ⟨h1,h2⟩:=tyV_is I1 r1 ty
  refine ⟨T,id,pa,slot,hty,h1,h2,?_⟩
  have hA:=ha cpos pins s1 σ H1 _ I1 q1
  rw [hs] at hA ⊢
  refine Calls.callWith_builtin (by show (false || (backTo cpos (starEach es X.env)).any (·.1))=false;rw [hplain]<;>rfl) (Calls.evalArgs_plain ?_)
  exact thn hA fun us s2 ⟨vs,H2,I2,r2,q2⟩=>hm pins s2 σ H2 x vs v us Q I2 r1 r2 q2
/- xs.append(e),list.index on a module's tuple .. are MtR facts of 06m -/
end
def MtM (X:Cx) (id:String) (r:V→List V→Hp→VK→Prop):Prop:=
  ∀ (pins:List (Addr×Obj)) (s:Shared) (σ:St) (H:Hp) (x:V) (xs:List V) (v:Value) (us:List Value) (Q:VK),Inv X pins σ H s→RelV x v→Vals xs us→r x xs H Q→
    wpAny (model X.prog X.w) X.A (call (.builtin id) (v::us)) (EP X pins σ Q) X.xe s
theorem Vals.one:∀ {x:V} {us:List Value},Vals [x] us→∃ u,us=[u]∧RelV x u
  | _,_,.cons r .nil=>⟨_,rfl,r⟩
theorem Vals.two:∀ {x y:V} {us:List Value},Vals [x,y] us→∃ u v,us=[u,v]∧RelV x u∧RelV y v
  | _,_,_,.cons r (.cons q .nil)=>⟨_,_,rfl,r,q⟩
theorem Vals.zero:∀ {us:List Value},Vals [] us→us=[]
  | _,.nil=>rfl
theorem Vals.reverse {xs:List V} {us:List Value} (h:Vals xs us):Vals xs.reverse us.reverse:=by
  induction h with
  | nil=>exact .nil
  | cons r t ih=>rw [List.reverse_cons,List.reverse_cons];exact Vals.append ih (.cons r .nil)
theorem Vals.rep {xs:List V} {us:List Value} (h:Vals xs us):∀ k:Nat,Vals (List.replicate k xs).flatten (List.replicate k us).flatten
  | 0=>.nil
  | k+1=>by
    rw [List.replicate_succ,List.replicate_succ,List.flatten_cons,List.flatten_cons]
    exact Vals.append h (Vals.rep h k)
theorem foldl_rep (its:List Value):∀ (k:Nat) (acc:List Value),
    List.foldl (fun x1 x2=>x1++x2) acc.toArray (List.replicate k its.toArray)=(acc++(List.replicate k its).flatten).toArray
  | 0,acc=>by simp
  | k+1,acc=>by
    have e:acc.toArray++its.toArray=(acc++its).toArray:=by simp
    have e2:(acc++its)++(List.replicate k its).flatten=acc++(List.replicate (k+1) its).flatten:=by
      rw [List.replicate_succ,List.flatten_cons,List.append_assoc]
    rw [← e2,← foldl_rep its k (acc++its),← e,List.replicate_succ,List.foldl_cons]
section
variable {X:Cx} {pins:List (Addr×Obj)} {σ:St} {H:Hp} {s:Shared} {l b:Addr} {xs ys zs:List V}
theorem Inv.lset {its its':List Value} {n:Nat} {f:Array Value→Array Value} {t':Nat} (I:Inv X pins σ H s) (hH:H l=some (.lst xs))
    (e:s.heap.get? l=some { cls:=.type "list",data:=.seq its.toArray n }) (hf:f its.toArray=its'.toArray) (hv:Vals ys its') (hz:ys.length≤sizeLine) :
    Inv X pins σ (upd H l (.lst ys)) { s with heap:=s.heap.update l (Obj.mapSeq f),toks:=t' }:=by
  have q:=PySem.IsL.update e f
  rw [hf] at q
  refine I.write (x:=l) (e:=l) (by rw [hH];exact trivial) (.inl rfl) (fun b' u hb hu=>(Heap.get?_update_other s.heap (Obj.mapSeq f) (Ne.symm hb)).trans hu) ⟨_,q⟩ ?_
  exact ⟨hz,its',_,hv,q⟩
theorem Inv.lnew {its:List Value} {t':Nat} (I:Inv X pins σ H s) (hv:Vals ys its) (hz:ys.length≤sizeLine) :
    Inv X pins σ (upd H s.heap.objs.size (.lst ys)) { s with heap:=s.heap.push { cls:=.type "list",data:=.seq its.toArray },toks:=t' }:=
  I.laid (fun _ _ q=>Heap.get?_push_of_some _ q) (Nat.le_refl _) ⟨hz,its,0,hv,Heap.get?_push_size _ rfl⟩
theorem Inv.fresh (I:Inv X pins σ H s):H s.heap.objs.size=none:=I.hok.fresh (Nat.le_refl _)
theorem Inv.lstM (I:Inv X pins σ H s) (hH:H l=some (.lst xs)):xs.length≤sizeLine∧∃ (its:List Value) (n:Nat),Vals xs its∧xs.length=its.length∧s.heap.get? l=some { cls:=.type "list",data:=.seq its.toArray n }:=by
  obtain ⟨z,its,n,r,e⟩:=I.hok l _ hH
  exact ⟨z,its,n,r,r.length,e⟩
theorem notLongL {n:Nat} (h:n≤sizeLine):Builtin.List.listTooLong n=false:=by
  unfold Builtin.List.listTooLong
  exact decide_eq_false (by omega)
end
section
variable {X:Cx}
def rAppend:V→List V→Hp→VK→Prop:=fun x vs H Q=>∃ l xs y,x = .ref l∧vs=[y]∧H l=some (.lst xs)∧xs.length < sizeLine∧Q .non (upd H l (.lst (xs++[y])))
theorem mt_append:MtM X "list.append" rAppend:=by
  intro pins s σ H x vs v us Q I rx rv h
  obtain ⟨l,xs,y,rfl,rfl,hH,hz,q⟩:=h
  cases rx
  obtain ⟨u,rfl,ru⟩:=rv.one
  obtain ⟨z,its,n,r,hl,e⟩:=I.lstM hH
  refine call_meets F.slot_list_append ⟨_,e,rfl⟩ F.entry_list_append (F.args_list_append_2 _ _) (PySem.list_append l its.toArray n u (by rw [List.size_toArray];omega)) ⟨e,?_⟩
  refine ⟨.non,_,I.lset (its':=its++[u]) hH e (by simp) (r.append (.cons ru .nil)) ?_,rfl,q⟩
  rw [List.length_append,List.length_singleton]
  omega
def rRep:R2:=fun x y H Q=>∃ l k xs,x = .ref l∧y = .int k∧H l=some (.lst xs)∧-(2 ^ 63)≤k∧k < 2 ^ 63∧xs.length*k.toNat≤sizeLine∧
  ∀ p,H p=none→Q (.ref p) (upd H p (.lst (List.replicate k.toNat xs).flatten))
theorem len_rep {α:Type} (xs:List α) (k:Nat):(List.replicate k xs).flatten.length=k*xs.length:=by
  induction k with
  | zero=>simp
  | succ k ih=>rw [List.replicate_succ,List.flatten_cons,List.length_append,ih,Nat.succ_mul,Nat.add_comm]
theorem op_rep:OpR X (binaryOp .Mult) rRep:=by
  intro pins s σ H x y v u Q I rx ry h
  obtain ⟨l,k,xs,rfl,rfl,hH,h1,h2,hz,q⟩:=h
  cases rx
  obtain ⟨t,rfl⟩:=ry
  obtain ⟨z,its,n,r,hl,e⟩:=I.lstM hH
  have hlen:its.toArray.size*k.toNat≤sizeLine:=by rw [List.size_toArray,← hl];exact hz
  have hcap:¬ its.toArray.size*k.toNat > (2 ^ 63 - 1) / 8:=by
    have:(sizeLine:Nat)≤(2 ^ 63 - 1) / 8:=by decide
    omega
  have hfit:¬ (!Builtin.List.listFitsIndex k)=true:=by
    rw [fitsIndex_both h1 h2]
    exact Bool.false_ne_true
  have hlong:¬ Builtin.List.listTooLong (its.toArray.size*k.toNat)=true:=by
    rw [notLongL hlen]
    exact Bool.false_ne_true
  have hnew:List.foldl (fun x1 x2=>x1++x2) #[] (List.replicate (if its.toArray.isEmpty=true then 0 else k.toNat) its.toArray)=(List.replicate k.toNat its).flatten.toArray:=by
    have f0:∀ m:Nat,List.foldl (fun x1 x2=>x1++x2) #[] (List.replicate m its.toArray)=(List.replicate m its).flatten.toArray:=fun m=>by
      have:=foldl_rep its m []
      rw [List.nil_append] at this
      exact this
    rw [f0]
    cases its with
    | nil=>simp
    | cons a r'=>rw [if_neg (by simp)]
  refine wpAny_binaryOp_repeat_ref (T:= "list") (U:= "int") (by decide) ⟨_,e,rfl⟩ (fun s'=>typeIs_int s' k t) noFill_list_mul F.fills_int_mul F.slot_int_rmul repeat_list F.slot_int_index.lookup
    (call_meets F.slot_int_rmul (typeIs_int s k t) F.entry_int_rmul (F.args_int_rmul_2 _ _) (int___rmul___int_list k t l its.toArray n)
      ⟨e,rfl,⟨_,e,rfl⟩,call_meets F.slot_list_mul ⟨_,e,rfl⟩ F.entry_list_mul (F.args_list_mul_2 _ _) (AutoListH.list___mul___list_int_3 l its.toArray n k t hfit hcap hlong) ⟨e,?_⟩⟩)
  rw [hnew]
  exact ⟨.ref _,_,I.lnew (t':=s.toks) (r.rep k.toNat) (by rw [len_rep,Nat.mul_comm];exact hz),rfl,q _ I.fresh⟩
end
section
variable {prog:Program} {w:World} {A:Around} {E:Value→Shared→Prop} {s:Shared}
end
section
variable {X:Cx}
end
end L2
namespace Att
open PySem PySem.W PySem.Calls PyProof.Rows
theorem ints_of_wellAll {P:Params} {h:Heap}:∀ (ns:List Int) (vs:List Value),WellAll P h vs (ns.map WData.int)→IntsAre vs ns:=by
  intro ns
  induction ns with
  | nil=>
    intro vs w
    rw [List.map_nil] at w
    cases w
    exact .nil
  | cons n ns ih=>
    intro vs w
    rw [List.map_cons] at w
    cases w with
    | cons a b=>
      cases a
      exact .cons _ _ (ih _ b)
theorem script_of {l:OpenLaw} {n:Nat} (hn:l.most=some n) {P:Params} {h:Heap} {args:List WData} {vals:List Value}
    (hpre:l.row.toRowW.claim.pre args=true) (hwl:WellAll P h vals args) :
    ∃ a vs ns,vals=[Value.ref a]∧args=[WData.list (ns.map WData.int)]∧h.get? a=some { cls:=.type "list",data:=.seq vs.toArray }∧IntsAre vs ns∧ns.length≤n:=by
  have hsh:WShape.hasAll [] args [.list .int]=true:=(pre_splitW hpre).1
  have hc:l.pre.holds [] { args:=args }=true:=(pre_splitW hpre).2
  obtain ⟨d,r,rfl,h1,h2⟩:=hasAllW_cons hsh
  obtain rfl:=hasAllW_nil h2
  obtain ⟨xs,rfl,h3⟩:=hasW_list h1
  obtain ⟨ns,rfl⟩:=items_int h3
  have hlen:ns.length≤n:=by
    unfold OpenLaw.pre at hc
    have h4:(WTm.not (.lt (.lit (.int (n:Int))) (.len (.arg 0)))).holds [] { args:=[.list (ns.map .int)] }=true:=by
      have h4:=(holds_andW hc).1
      rw [hn] at h4
      exact h4
    have h5:=condW_of h4 (w_not (w_lt w_lit (w_len_list (w_arg rfl))))
    rw [List.length_map] at h5
    refine Nat.le_of_not_lt fun q=>?_
    have q':(n:Int) < ((ns.length:Nat):Int):=by omega
    first
      | (rw [decide_eq_true q'] at h5;exact absurd h5 (by decide))
      | (simp at h5;omega)
  cases hwl with
  | cons w1 w2=>
    cases w2
    cases w1 with
    | list ho hall=>exact ⟨_,_,ns,rfl,rfl,ho,ints_of_wellAll ns _ hall,hlen⟩
theorem post_true (l:OpenLaw) (args:List WData):l.row.toRowW.claim.post args (.bool true) args=true:=
  postW_of (r:=l.row.toRowW) (X:=(true == true))
    (show WShape.has [] (.bool true) .bool=true by first | rfl | decide | simp [WShape.has,WShape.arms,WShape.armsAll])
    (show (WTm.eq .res (.lit (.bool true))).value [] { args:=args,res:=some (.bool true),after:=args }=some (.bool (true == true)) from w_eq_bool (w_res rfl) w_lit) rfl
theorem attach_call {l:OpenLaw} {n:Nat} {q:Program} {loose:List Str} {XP:(Str→Option Value)→Heap→Prop} {YP:World→Heap→Prop} {d:DefRec}
    (hn:l.most=some n) (hdf:d.params.defaults=[])
    (call:∀ (w:World) (s₀ s₁:Shared) (mg mb:Str→Option Value) (fa:Addr) (o:Obj) (pm cd doc:Value) (a:Addr) (vs:List Value) (ns:List Int),
      Ground q loose [] XP w s₀ mg mb s₁.heap→YP w s₁.heap→
      s₁.heap.get? fa=some o→o.data = .func (docDef d.name d.params d.body d.scope pm cd doc)→s₁.heap.CodeRec cd d.name→mg d.name=some (.ref fa)→
      s₁.heap.get? a=some { cls:=.type "list",data:=.seq vs.toArray }→IntsAre vs ns→ns.length≤n→s₁.gens = #[]→
      codeAny (model l.prog w) callerA (.call (.ref fa) ⟨[.ref a],[]⟩) (fun r s'=>r = .ok (.ret (.bool true))∧OldK s₁.heap s'.heap∧s'.os=s₁.os∧AllBare s'.gens) s₁) :
    WalkO q loose XP YP l.row.toRowW d [] (fun f vs=>PySem.call f vs):=by
  intro w s₀ s₁ mg mb G Y fa o pm cd doc dV kV ho hd hcd hD hmg hg args vals as hpre hlay hrd hwl hlo
  obtain rfl:dV = .none:=Dflts.none hD hdf
  obtain rfl:kV = .none:=Dflts.noKw hD
  obtain ⟨a,vs,ns,rfl,rfl,hobj,hints,hlen⟩:=script_of hn hpre hwl
  refine enter_call (codeAny_mono (call w s₀ s₁ mg mb fa o pm cd doc a vs ns G Y ho (fd_plain hd) hcd hmg hobj hints hlen hg) fun r s' hq=>?_)
  obtain ⟨rfl,h2,h3,h4⟩:=hq
  exact ⟨.inl ⟨.bool true,.bool true,[],rfl,fun _=>rfl,.bool true,post_true l _,fun _=>⟨List.Pairwise.nil,fun _ hm=>(nomatch hm)⟩⟩,h2,h3,h4⟩
section
variable {prog:Program} {w:World} {A:Around} {E:Value→Shared→Prop} {s:Shared} {K:Frag}
end
end Att
namespace L2
open PySem PySem.Spec PyProof.Rows
theorem vals_ints:∀ {vs:List Value} {ns:List Int},IntsAre vs ns→Vals (ns.map V.int) vs
  | _,_,.nil=>.nil
  | _,_,.cons n t h=>.cons ⟨t,rfl⟩ (vals_ints h)
def Only (H:Hp):Prop:=∀ b,H b=none∨∃ o xs,H b=some (.frz o (.lst xs))
theorem law_call {P:Program} {w:World} {K:PySem.W.Frag} {mg mb:Str→Option Value} {CX:CXT} {k:Nat} {fa a:Addr} {fd:FuncData} {x:Str} {sp:Sp} {s₁:Shared} {vs:List Value} {ns:List Int}
    (KX:K.In s₁.heap) (hns:s₁.heap.Ns mainGlobals mg) (hb:s₁.heap.Ns builtinsNs mb) (hbb:∀ x:Str,x≠ "__name__" →mb x=bootBuiltins x) (hlim:s₁.heap.NoLimit) (hg:s₁.gens = #[])
    (ha:s₁.heap.get? a=some { cls:=.type "list",data:=.seq vs.toArray }) (hi:IntsAre vs ns) (hl:ns.length≤sizeLine) (hr:Room k callerA)
    (F:∀ base:Heap,K.In base→base.Ns mainGlobals mg→FnOk P w K mg base CX k fa fd [x] sp) (hbind:∀ (s:Shared) (u:Value),BindsTo s fd ⟨[u],[]⟩ [(x,u)])
    (hsp:∀ H:Hp,Only H→SqL K H a (ns.map V.int)→sp [.ref a] H (fun v _=>v = .bl true) fun _ _ _=>False)
    (hCX:∀ H e s',CX [] H s₁ (fun _ _ _=>False) e s'→False) :
    codeAny (model P w) callerA (.call (.ref fa) ⟨[.ref a],[]⟩) (fun r s'=>r = .ok (.ret (.bool true))∧OldK s₁.heap s'.heap∧s'.os=s₁.os∧AllBare s'.gens) s₁:=by
  have rv:=vals_ints hi
  have lenV:=hi.length
  -- from an abstract heap in which nothing but the script may be tracked
  have core:∀ H:Hp,Only H→SqL K H a (ns.map V.int)→HOk P w H s₁.heap→(∀ b,H b≠none→b=a)→(H a≠none→K.lookup a=none)→
      codeAny (model P w) callerA (.call (.ref fa) ⟨[.ref a],[]⟩) (fun r s'=>r = .ok (.ret (.bool true))∧OldK s₁.heap s'.heap∧s'.os=s₁.os∧AllBare s'.gens) s₁:=by
    intro H hO hS hok hA hK
    have base_of:∀ {b:Addr} {o:Obj},s₁.heap.get? b=some o→H b=none→(hidT s₁.heap H).get? b=some o:=fun e n=>hidT_get e n
    have noA:∀ {b:Addr} {o:Obj} {es:Array DictEntry} {ep:Nat},s₁.heap.get? b=some o→o.data = .dict es ep→H b=none:=fun {b o es ep} e d=>by
      cases q:H b with
      | none=>rfl
      | some u=>
        have e':b=a:=hA b (by rw [q];simp)
        subst e'
        rw [ha] at e;cases e
        have d':Data.seq vs.toArray _=Data.dict es ep:=d
        cases d'
    have nsK:∀ {b:Addr} {m:Str→Option Value},s₁.heap.Ns b m→(hidT s₁.heap H).Ns b m:=fun {b m} ⟨o,es,ep,e,d,r⟩=>⟨o,es,ep,base_of e (noA e d),d,r⟩
    have hKb:K.In (hidT s₁.heap H):=fun b o e=>base_of (KX b o e) (by
      cases q:H b with
      | none=>rfl
      | some u=>
        have e':b=a:=hA b (by rw [q];simp)
        subst e'
        rw [hK (by rw [q];simp)] at e;cases e)
    have hM:Mod K mg (hidT s₁.heap H):=⟨hKb,nsK hns,⟨mb,nsK hb,hbb⟩,let ⟨mc,h1,h2⟩:=hlim;⟨mc,nsK h1,h2⟩⟩
    have e0:Env0 P w K mg (hidT s₁.heap H) callerA [] s₁ H:=⟨rfl,hM,fun b o e=>of_hidT e,Nat.le_of_eq (hidT_size _ _),trivial,fun b hb=>absurd (show b∈([]:List Addr) from hb) (by simp),hok,.of_eq hg⟩
    refine codeAny_mono ((F _ hKb (nsK hns)).run callerA [] s₁ H ⟨[.ref a],[]⟩ [.ref a] [.ref a] _ _ hr e0 (hbind s₁ (.ref a)) (.cons rfl .nil) (hsp H hO hS)) fun r s' h=>?_
    cases r with
    | error e=>exact (hCX H e s' h).elim
    | ok fl=>
      cases fl with
      | next=>exact False.elim h
      | brk=>exact False.elim h
      | cont=>exact False.elim h
      | ret u=>
        obtain ⟨v,H',os,bare,un,hok',r',q⟩:=h
        have q':v = .bl true:=q
        subst q'
        obtain rfl:u=Value.bool true:=r'
        refine ⟨rfl,OldK.of_keep fun b o e=>?_,os,bare⟩
        cases q:H b with
        | none=>exact un.keep b o e q (by intro z;exact absurd (show b∈([]:List Addr) from z) (by simp)) (by simp)
        | some u=>
          rcases hO b with z | ⟨ob,xs,z⟩
          · rw [q] at z;cases z
          · have z2:=un.frzs b ob _ z
            obtain ⟨e1,_⟩:=hok b _ z
            obtain ⟨e2,_⟩:=hok' b _ z2
            rw [e] at e1;cases e1
            exact e2
  cases hk:K.lookup a with
  | some o=>
    -- the script is one of the module's own objects
    have e:=KX a o hk
    rw [ha] at e
    cases e
    refine core (fun _=>none) (fun _=>.inl rfl) (.inr ⟨_,vs.toArray,_,hk,rfl,rfl,rfl,by rw [List.size_toArray,lenV];exact hl,by simpa using rv⟩) (fun b u z=>by have z':(none:Option HO)=some u:=z;cases z') (fun b z=>absurd rfl z) fun z=>absurd rfl z
  | none=>
    refine core (fun b=>if b=a then some (.frz { cls:=.type "list",data:=.seq vs.toArray } (.lst (ns.map V.int))) else none) (fun b=>?_) (.inl (.inr ⟨{ cls:=.type "list",data:=.seq vs.toArray },if_pos rfl⟩)) (fun b u z=>?_) (fun b z=>?_) fun _=>hk
    · by_cases hb:b=a
      · exact .inr ⟨_,_,if_pos hb⟩
      · exact .inl (if_neg hb)
    · by_cases hb:b=a
      · have z':=(if_pos hb).symm.trans z
        cases z'
        subst hb
        exact ⟨ha,by rw [List.length_map];exact hl,vs,_,rv,ha⟩
      · have z':=(if_neg hb).symm.trans z
        cases z'
    · by_cases hb:b=a
      · exact hb
      · exact absurd (if_neg hb) z
theorem walk_of {l:PySem.W.OpenLaw} {n k:Nat} {q:Program} {loose:List Str} {XP:(Str→Option Value)→Heap→Prop} {YP:World→Heap→Prop} {d:DefRec} {K:Params→PySem.W.Frag} {CX:World→CXT} {sp:World→Sp} {x:Str}
    (hn:l.most=some n) (hn2:n≤sizeLine) (hdf:d.params.defaults=[]) (hr:Room k callerA)
    (hY:∀ (w:World) (h:Heap),YP w h→(K w.params).In h)
    (F:∀ (w:World) (mg:Str→Option Value) (fa:Addr) (h:Heap),(K w.params).In h→h.Ns mainGlobals mg→mg d.name=some (.ref fa)→
      ∃ fd:FuncData,(∀ (s:Shared) (u:Value),BindsTo s fd ⟨[u],[]⟩ [(x,u)])∧
        ∀ base:Heap,(K w.params).In base→base.Ns mainGlobals mg→FnOk l.prog w (K w.params) mg base (CX w) k fa fd [x] (sp w))
    (hsp:∀ (w:World) (H:Hp) (a:Addr) (ns:List Int),ns.length≤n→Only H→SqL (K w.params) H a (ns.map V.int)→sp w [.ref a] H (fun v _=>v = .bl true) fun _ _ _=>False)
    (hCX:∀ (w:World) (H:Hp) (s:Shared) (e:Value) (s':Shared),CX w [] H s (fun _ _ _=>False) e s'→False) :
    PySem.W.WalkO q loose XP YP l.row.toRowW d [] (fun f vs=>PySem.call f vs):=by
  refine Att.attach_call hn hdf fun w s₀ s₁ mg mb fa o pm cd doc a vs ns G Y ho hd hcd hmg hobj hints hlen hg=>?_
  have KX:=hY w _ Y
  obtain ⟨fd,hb,hF⟩:=F w mg fa _ KX G.T.g hmg
  exact law_call KX G.T.g G.T.b G.T.builtins G.T.nolimit hg hobj hints (Nat.le_trans hlen hn2) hr hF hb (fun H hO hS=>hsp w H a ns hlen hO hS) fun H e s'=>hCX w H s₁ e s'
def defArgs (s:Stmt):Arguments:=match s with
  | .FunctionDef _ a _ _ _ _ _ _ _ _=>a
  | _=>{ posonlyargs:=[],args:=[],vararg:=none,kwonlyargs:=[],kw_defaults:=[],kwarg:=none,defaults:=[] }
def defBody (s:Stmt):List Stmt:=match s with
  | .FunctionDef _ _ b _ _ _ _ _ _ _=>b
  | _=>[]
def defScope (s:Stmt):Scope:=match s with
  | .FunctionDef _ _ _ _ _ _ sc _ _ _=>sc
  | _=>{ kind:=.function,names:=[],isGenerator:=false,isCoroutine:=false }
abbrev CX0:CXT:=fun _ _ _ _ _ _=>False
abbrev E0:XK:=fun _ _ _=>False
structure Fun (K:PySem.W.Frag) (x qual:Str) (st:Stmt) (f:Addr) (fd:FuncData):Prop where
  ex:∃ (oc:Value) (od:Option Addr) (kV doc pm:Value) (an:Option Addr) (cdv ct:Value) (osl:Array (Option Value)),
    fd=PySem.W.fnOf x qual (defArgs st) (defBody st) (defScope st) .none kV doc pm an cdv ct∧K.lookup f=some ⟨oc,od,.func fd,osl⟩∧PySem.W.codeIn K cdv qual=true
  kp:PySem.W.keepIn K (.ref f)=true
section
variable {P:Program} {w:World} {K:PySem.W.Frag} {mg:Str→Option Value} {base:Heap}
theorem Fun.ok {x qual:Str} {st:Stmt} {f:Addr} {fd:FuncData} {N ps:List Str} {k:Nat} {sp:Sp} (F:Fun K x qual st f fd) (S:FnScope N ps (defScope st)) (len:∀ vs H Q E,sp vs H Q E→vs.length=ps.length)
    (hbody:∀ (cdv:Value) (A:Around) (outer:List Env) (s:Shared) (H:Hp) (vs:List V) (Q:VK) (E:XK),Room k (A.deeper (envOfC qual (defScope st) s.heap.objs.size f cdv))→sp vs H Q E→
      ∃ t,PSs (cxOf CX0 P w K mg base N qual (defScope st) f cdv A outer s H E).nox (defBody st) t∧t { nx:=fun _ H'=>Q .non H',rt:=Q } (start N vs) H):FnOk P w K mg base CX0 (k+1) f fd ps sp:=by
  obtain ⟨oc,od,kV,doc,pm,an,cdv,ct,osl,rfl,lk,hcd⟩:=F.ex
  refine fn_of lk hcd S len fun A outer s H vs Q E hr hsp=>?_
  obtain ⟨t,h,q⟩:=hbody cdv A outer s H vs Q E hr hsp
  exact ⟨t,h.nox,q⟩
theorem Fun.binds {x qual:Str} {st:Stmt} {f:Addr} {fd:FuncData} {ps:List Str} (F:Fun K x qual st f fd)
    (h:∀ (kV doc pm:Value) (an:Option Addr) (cdv ct:Value) (us:List Value),us.length=ps.length→bindArgs (PySem.W.fnOf x qual (defArgs st) (defBody st) (defScope st) .none kV doc pm an cdv ct) ⟨us,[]⟩=pure (ps.zip us)):Binds K fd ps []:=by
  obtain ⟨oc,od,kV,doc,pm,an,cdv,ct,osl,rfl,lk,hcd⟩:=F.ex
  exact .all (h kV doc pm an cdv ct)
theorem fun_mk {x qual:Str} {st:Stmt} {f:Addr} {oc:Value} {od an:Option Addr} {osl:Array (Option Value)} {kV doc pm cdv ct:Value} (l:K.lookup f=some ⟨oc,od,.func (PySem.W.fnOf x qual (defArgs st) (defBody st) (defScope st) .none kV doc pm an cdv ct),osl⟩)
    (c:PySem.W.codeIn K cdv qual=true) (k:PySem.W.keepIn K (.ref f)=true):Fun K x qual st f (PySem.W.fnOf x qual (defArgs st) (defBody st) (defScope st) .none kV doc pm an cdv ct):=⟨⟨oc,od,kV,doc,pm,an,cdv,ct,osl,rfl,l,c⟩,k⟩
end
section
variable {X:Cx}
end
def Same (H H':Hp):Prop:=∀ b o,H b=some o→H' b=some o
theorem Same.refl (H:Hp):Same H H:=fun _ _ h=>h
theorem Same.trans {H H1 H2:Hp} (a:Same H H1) (b:Same H1 H2):Same H H2:=fun c o h=>b c o (a c o h)
theorem Same.free {H H':Hp} (e:Same H H') {l:Addr} (h:H' l=Option.none):H l=Option.none:=by
  cases q:H l with
  | none=>rfl
  | some o=>
    rw [e l o q] at h
    cases h
theorem Same.seq {K:PySem.W.Frag} {H H':Hp} {a:Addr} {xs:List V} (e:Same H H') (h:SqL K H a xs):SqL K H' a xs:=by
  rcases h with (h | ⟨o,h⟩) | h
  · exact .inl (.inl (e _ _ h))
  · exact .inl (.inr ⟨o,e _ _ h⟩)
  · exact .inr h
def Zdu:List (Str×NameKind)→Bool
  | []=>true
  | (n,_)::r=>!(r.any fun y=>y.1 == n) && Zdu r
def ZdC (sc outer:Scope):Bool:=
  decide (sc.kind = .function) && Zdu sc.names && sc.names.all fun y=>!decide (y.2 = .free) || (decide (outer.names.lookup y.1=some .cell) || decide (outer.names.lookup y.1=some .free))
theorem ZfH {α:Type}:∀ {l:List (Str×α)} {n:Str},(l.any fun y=>y.1 == n)=false→l.lookup n=none
  | [],_,_=>rfl
  | (k,v)::r,n,h=>by
    simp only [List.any_cons,Bool.or_eq_false_iff] at h
    have e:(n == k)=false:=by
      have:=h.1
      simp only [beq_eq_false_iff_ne] at this ⊢
      exact fun z=>this z.symm
    rw [List.lookup_cons,e]
    exact ZfH h.2
theorem Zef:∀ {l:List (Str×NameKind)} {n:Str} {k:NameKind},Zdu l=true→(n,k)∈l→l.lookup n=some k
  | (m,j)::r,n,k,nd,h=>by
    simp only [Zdu,Bool.and_eq_true,Bool.not_eq_true'] at nd
    rcases List.mem_cons.mp h with e | h2
    · cases e;simp
    · have hm:n≠m:=by
        rintro rfl
        have:(r.any fun y=>y.1 == n)=true:=List.any_eq_true.mpr ⟨_,h2,by simp⟩
        rw [nd.1] at this;cases this
      rw [List.lookup_cons,beq_eq_false_iff_ne.mpr hm]
      exact Zef nd.2 h2
def clOf (cells:List (Str×Addr)):List (Str×NameKind)→List (Str×Addr)→List (Str×Addr)
  | [],acc=>acc
  | (n,k)::r,acc=>if k == .free then clOf cells r ((n,(cells.lookup n).getD 0)::acc) else clOf cells r acc
theorem ZdD {cells:List (Str×Addr)} {x:Str}:∀ {names:List (Str×NameKind)} {acc:List (Str×Addr)},Zdu names=true→
    ((names.lookup x=some .free→∃ c,(clOf cells names acc).lookup x=some c∧(cells.lookup x).getD 0=c)∧(names.lookup x≠some .free→(clOf cells names acc).lookup x=acc.lookup x))
  | [],acc,_=>⟨fun h=>by simp at h,fun _=>rfl⟩
  | (m,k)::r,acc,nd=>by
    simp only [Zdu,Bool.and_eq_true,Bool.not_eq_true'] at nd
    by_cases hm:x=m
    · subst hm
      have hr:r.lookup x=none:=ZfH nd.1
      rw [show List.lookup x ((x,k)::r)=some k by simp]
      have ih:=@ZdD cells x r
      by_cases hk:k = .free
      · subst hk
        refine ⟨fun _=>⟨_,?_,rfl⟩,fun h=>absurd rfl h⟩
        show (clOf cells r ((x,_)::acc)).lookup x=_
        rw [(ih nd.2).2 (by rw [hr];simp)]
        simp
      · refine ⟨fun h=>absurd (Option.some.inj h) hk,fun _=>?_⟩
        have:clOf cells ((x,k)::r) acc=clOf cells r acc:=by
          show (if k == .free then _ else _)=_
          rw [if_neg (by simpa using hk)]
        rw [this,(ih nd.2).2 (by rw [hr];simp)]
    · have e:List.lookup x ((m,k)::r)=r.lookup x:=by rw [List.lookup_cons,beq_eq_false_iff_ne.mpr hm]
      rw [e]
      by_cases hk:k = .free
      · subst hk
        have ih:=@ZdD cells x r ((m,(cells.lookup m).getD 0)::acc) nd.2
        have e2:List.lookup x ((m,(cells.lookup m).getD 0)::acc)=acc.lookup x:=by rw [List.lookup_cons,beq_eq_false_iff_ne.mpr hm]
        rw [e2] at ih
        exact ih
      · have:clOf cells ((m,k)::r) acc=clOf cells r acc:=by
          show (if k == .free then _ else _)=_
          rw [if_neg (by simpa using hk)]
        rw [this]
        exact @ZdD cells x r acc nd.2
theorem ZeB {scope:Scope} {env:Env} (h:∀ y∈scope.names,y.2 = .free→∃ c,env.cells.lookup y.1=some c):closureFor scope env=pure (clOf env.cells scope.names []):=by
  have gen:∀ (names:List (Str×NameKind)) (acc:List (Str×Addr)),(∀ y∈names,y.2 = .free→∃ c,env.cells.lookup y.1=some c)→
      (forIn names acc (fun (x:Str×NameKind) (r:List (Str×Addr))=>(if (x.2 == NameKind.free)=true then (do
        let c ← cellOf env x.1
        pure (ForInStep.yield ((x.1,c)::r))) else pure (ForInStep.yield r):Sem (ForInStep (List (Str×Addr))))))=(pure (clOf env.cells names acc):Sem (List (Str×Addr))):=by
    intro names
    induction names with
    | nil=>intro acc _;rfl
    | cons y r ih=>
      intro acc hh
      obtain ⟨n,k⟩:=y
      rw [List.forIn_cons]
      by_cases hk:k = .free
      · subst hk
        obtain ⟨c,hc⟩:=hh (n,.free) List.mem_cons_self rfl
        have hc':env.cells.lookup n=some c:=hc
        have e:cellOf env n=pure c:=by unfold cellOf;rw [hc']
        simp only [beq_self_eq_true,if_true,e]
        have:=ih ((n,c)::acc) fun y hy=>hh y (List.mem_cons_of_mem _ hy)
        have e3:clOf env.cells ((n,.free)::r) acc=clOf env.cells r ((n,c)::acc):=by
          show (if _ then _ else _)=_
          rw [hc'];rfl
        rw [e3,← this]
        rfl
      · have hb:(k == NameKind.free)=false:=by simpa using hk
        simp only [hb,Bool.false_eq_true,if_false]
        have:=ih acc fun y hy=>hh y (List.mem_cons_of_mem _ hy)
        have e3:clOf env.cells ((n,k)::r) acc=clOf env.cells r acc:=by
          show (if _ then _ else _)=_
          rw [if_neg (by simpa using hk)]
        rw [e3,← this]
        rfl
  unfold closureFor
  have:=gen scope.names [] h
  first
    | exact this
    | (show (forIn scope.names [] _ >>= fun cs=>pure cs)=_
       refine Eq.trans (congrArg (· >>= fun cs=>pure cs) this) rfl)
theorem ZaE {x:Str}:∀ (names:List (Str×NameKind)) (n:Nat) (acc acc':List (Str×Addr)),Zdu names=true→
    ((names.lookup x=some .cell→(cellsFrom n names acc).lookup x=(cellsFrom n names acc').lookup x)∧(names.lookup x≠some .cell→(cellsFrom n names acc).lookup x=acc.lookup x))
  | [],_,_,_,_=>⟨fun h=>by simp at h,fun _=>rfl⟩
  | (m,k)::r,n,acc,acc',nd=>by
    simp only [Zdu,Bool.and_eq_true,Bool.not_eq_true'] at nd
    by_cases hm:x=m
    · subst hm
      have hr:r.lookup x=none:=ZfH nd.1
      rw [show List.lookup x ((x,k)::r)=some k by simp]
      by_cases hk:k = .cell
      · subst hk
        refine ⟨fun _=>?_,fun h=>absurd rfl h⟩
        have a:=(@ZaE x r (n+1) ((x,n)::acc) acc' nd.2).2 (by rw [hr];simp)
        have b:=(@ZaE x r (n+1) ((x,n)::acc') acc' nd.2).2 (by rw [hr];simp)
        show (cellsFrom (n+1) r ((x,n)::acc)).lookup x=(cellsFrom (n+1) r ((x,n)::acc')).lookup x
        rw [a,b];simp
      · refine ⟨fun h=>absurd (Option.some.inj h) hk,fun _=>?_⟩
        have e:cellsFrom n ((x,k)::r) acc=cellsFrom n r acc:=by
          show (if k == .cell then _ else _)=_
          rw [if_neg (by simpa using hk)]
        rw [e,(@ZaE x r n acc acc' nd.2).2 (by rw [hr];simp)]
    · have e:List.lookup x ((m,k)::r)=r.lookup x:=by rw [List.lookup_cons,beq_eq_false_iff_ne.mpr hm]
      rw [e]
      by_cases hk:k = .cell
      · subst hk
        have ih:=@ZaE x r (n+1) ((m,n)::acc) ((m,n)::acc') nd.2
        have e2:List.lookup x ((m,n)::acc)=acc.lookup x:=by rw [List.lookup_cons,beq_eq_false_iff_ne.mpr hm]
        rw [e2] at ih
        exact ih
      · have e3:∀ a:List (Str×Addr),cellsFrom n ((m,k)::r) a=cellsFrom n r a:=fun a=>by
          show (if k == .cell then _ else _)=_
          rw [if_neg (by simpa using hk)]
        rw [e3,e3]
        exact @ZaE x r n acc acc' nd.2
theorem ZeY {sc:Scope} {env:Env} {x:Str}:(relabel sc env).names.lookup x=(sc.names.lookup x).map fun k=>if (k == NameKind.free && env.scope.kind == .function && env.kindOf x == some .cell)=true then .cell else k:=by
  show List.lookup x (sc.names.map _)=_
  generalize sc.names=l
  induction l with
  | nil=>rfl
  | cons y r ih=>
    obtain ⟨m,k⟩:=y
    by_cases hx:x=m
    · subst hx
      simp only [List.map_cons]
      by_cases hc:(k == NameKind.free && env.scope.kind == .function && env.kindOf x == some .cell)=true
      · rw [if_pos hc]
        simp only [List.lookup_cons,beq_self_eq_true,Option.map_some]
        rw [if_pos hc]
      · rw [if_neg hc]
        simp only [List.lookup_cons,beq_self_eq_true,Option.map_some]
        rw [if_neg hc]
    · have hb:(x == m)=false:=beq_eq_false_iff_ne.mpr hx
      simp only [List.map_cons]
      by_cases hc:(k == NameKind.free && env.scope.kind == .function && env.kindOf m == some .cell)=true
      · rw [if_pos hc];simp only [List.lookup_cons,hb];exact ih
      · rw [if_neg hc];simp only [List.lookup_cons,hb];exact ih
def ZdY (sc:Scope) (env:Env) (C:Addr):Env:=
  { scope:=relabel sc env,locals:=C,globals:=env.globals,cells:=cellsFrom (C+1) sc.names (clOf env.cells sc.names []),qual:=env.qual,func:=none,code:=env.code,frame:=env.frame,builtins:=env.builtins }
theorem wp_lcEnv {M:Model} {A:Around} {E:Value→Shared→Prop} {s:Shared} {sc:Scope} {env:Env} {Q:Env→Shared→Prop}
    (h:Q { scope:=sc,locals:=s.heap.objs.size,globals:=env.globals,cells:=cellsFrom (s.heap.objs.size+1) sc.names (clOf env.cells sc.names []),qual:=env.qual,func:=none,code:=env.code,frame:=env.frame,builtins:=env.builtins }
      { s with heap:=pushCells (s.heap.push { cls:=.type "dict",data:=.dict #[] }) sc.names }) :
    wpAny M A (newFunctionEnv sc env.globals (clOf env.cells sc.names []) [] env.qual none .none (some env)) Q E s:=by
  simp only [newFunctionEnv,Option.isSome_some,if_true]
  refine wpAny_bind (wpAny_alloc ?_)
  refine wpAny_bind (wpAny_layCells _ (fun name kind cells=>by cases hkc:kind == NameKind.cell<;>simp [hkc]) _ _ _ _ ?_)
  rw [show ({ s with heap:=s.heap.push { cls:=.type "dict",data:=.dict #[] } }:Shared).heap.objs.size=s.heap.objs.size+1 from Heap.size_push ..]
  exact wpAny_bind (wpAny_pure (wpAny_pure h))
def Cx.lc (X:Cx) (sc:Scope) (vars:List Str) (sel:List Nat) (s:Shared) (H:Hp) (fp:List Addr):Cx where
  prog:=X.prog
  w:=X.w
  K:=X.K
  mg:=X.mg
  base:=X.base
  A:=X.A
  N:=vars++sel.map fun j=>X.N.getD j ""
  s₀:=s
  H₀:=H
  env:=ZdY sc X.env s.heap.objs.size
  outer:=X.stack
  stack:=X.stack
  ex:=fp
  fn:=fun x=>decide (sc.names.lookup x=some .cell)
  calm:=X.calm
  pn:=[]
  xe:=fun _ _=>False
def selOk (N:List Str) (sc:Scope) (sel:List Nat):Bool:=sel.all fun j=>match N[j]? with
  | some x=>decide (sc.names.lookup x=some .free)
  | none=>false
def lcSt (nv:Nat) (sel:List Nat) (σ:St):St:=List.replicate nv none++sel.map fun j=>(σ[j]?).getD none
section
variable {X:Cx} {pins:List (Addr×Obj)} {σ:St} {H:Hp} {s:Shared} {sc:Scope} {vars:List Str} {sel:List Nat} {fp:List Addr}
theorem lc_cells (I:Inv X pins σ H s) (ok:ZdC sc X.env.scope=true):∀ y∈sc.names,y.2 = .free→∃ c,X.env.cells.lookup y.1=some c:=fun y hy hk=>by
  simp only [ZdC,Bool.and_eq_true,List.all_eq_true,Bool.or_eq_true,Bool.not_eq_true',decide_eq_true_eq,decide_eq_false_iff_not] at ok
  rcases ok.2 y hy with z | z
  · exact absurd hk z
  · exact I.ok.has y.1 z
theorem inv_lc (I:Inv X pins σ H s) (ok:ZdC sc X.env.scope=true) (so:selOk X.N sc sel=true) (hf:∀ b∈fp,FpOk X pins H b) (ho:∀ b∈fp,∃ o,s.heap.get? b=some o) (ha:X.env.scope.kind = .function:=by rfl) :
    Inv (X.lc sc vars sel s H fp) [] (lcSt vars.length sel σ) H { s with heap:=pushCells (s.heap.push { cls:=.type "dict",data:=.dict #[] }) sc.names }:=by
  have hcl:=lc_cells I ok
  have ok':=ok
  simp only [ZdC,Bool.and_eq_true,List.all_eq_true,Bool.or_eq_true,Bool.not_eq_true',decide_eq_true_eq,decide_eq_false_iff_not] at ok'
  obtain ⟨⟨hk,nd⟩,hfree⟩:=ok'
  have szp:(s.heap.push { cls:=.type "dict",data:=.dict #[] }).objs.size=s.heap.objs.size+1:=Heap.size_push ..
  have keep:∀ b o,s.heap.get? b=some o→(pushCells (s.heap.push { cls:=.type "dict",data:=.dict #[] }) sc.names).get? b=some o:=fun b o e=>pushCells_keeps _ _ _ _ (Heap.get?_push_of_some _ e)
  have okc:=cellsFrom_ok sc.names (s.heap.push { cls:=.type "dict",data:=.dict #[] }) (s.heap.objs.size+1) [] ⟨fun _ _ hm=>(nomatch hm),List.Pairwise.nil⟩ (by rw [szp];exact Nat.le_refl _)
  rw [szp] at okc
  -- the cells of the block
  have own:∀ x,sc.names.lookup x=some .cell→∃ c,(ZdY sc X.env s.heap.objs.size).cells.lookup x=some c∧(x,c)∈cellsFrom (s.heap.objs.size+1) sc.names []:=fun x hx=>by
    have e:=(ZaE sc.names (s.heap.objs.size+1) (clOf X.env.cells sc.names []) [] nd).1 hx
    obtain ⟨c,hc⟩:=cell_has (sc:=sc) (n:=s.heap.objs.size+1) hx
    exact ⟨c,by show (cellsFrom _ _ _).lookup x=_;rw [e];exact hc,PySem.mem_of_lookup hc⟩
  have clo:∀ x,sc.names.lookup x=some .free→∃ c,(ZdY sc X.env s.heap.objs.size).cells.lookup x=some c∧X.env.cells.lookup x=some c:=fun x hx=>by
    have e:=(ZaE sc.names (s.heap.objs.size+1) (clOf X.env.cells sc.names []) [] nd).2 (by rw [hx];decide)
    obtain ⟨c,h1,h2⟩:=(@ZdD X.env.cells x sc.names [] nd).1 hx
    obtain ⟨c',h3⟩:=hcl (x,.free) (PySem.mem_of_lookup hx) rfl
    have h3':X.env.cells.lookup x=some c':=h3
    rw [h3'] at h2
    have h4:c'=c:=h2
    subst h4
    exact ⟨c',by show (cellsFrom _ _ _).lookup x=_;rw [e];exact h1,h3'⟩
  have oth:∀ x c,(ZdY sc X.env s.heap.objs.size).cells.lookup x=some c→sc.names.lookup x=some .cell∨sc.names.lookup x=some .free:=fun x c hc=>by
    by_cases h1:sc.names.lookup x=some .cell
    · exact .inl h1
    · by_cases h2:sc.names.lookup x=some .free
      · exact .inr h2
      · have e:=(ZaE sc.names (s.heap.objs.size+1) (clOf X.env.cells sc.names []) [] nd).2 h1
        have e2:=(@ZdD X.env.cells x sc.names [] nd).2 h2
        have hc':(cellsFrom (s.heap.objs.size+1) sc.names (clOf X.env.cells sc.names [])).lookup x=some c:=hc
        rw [e,e2] at hc'
        simp at hc'
  have ownC:∀ x c,(x,c)∈cellsFrom (s.heap.objs.size+1) sc.names []→(pushCells (s.heap.push { cls:=.type "dict",data:=.dict #[] }) sc.names).IsCell c none∧s.heap.objs.size+1≤c:=fun x c h=>okc.empty x c h
  have cloLt:∀ x c,X.env.cells.lookup x=some c→c < s.heap.objs.size:=fun x c h=>by
    obtain ⟨v,q⟩:=I.cell x c h
    exact q.lt
  have noA:∀ b∈fp,b < s.heap.objs.size:=fun b hb=>by obtain ⟨o,e⟩:=ho b hb;exact Heap.lt_size e
  refine ⟨⟨I.ok.mod,hk,I.ok.glob,I.ok.blt,Nat.le_refl _,fun x y c h1 h2=>?_,fun x hx=>?_,fun x c hx h=>?_,I.ok.hd,I.ok.frames,.inl rfl,fun b hb=>⟨Nat.ne_of_lt (noA b hb),fun x c h=>?_⟩,I.bs,Nat.le_trans I.ok.bsz I.sz,fun b o e hb=>?_,fun b hb hq=>?_,I.stack,I.stkFree⟩,
    rfl,I.bare,Un.kept keep,⟨fun _=>none,?_,fun i x v h1 h2 h3=>?_⟩,fun x c h=>?_,I.hok.fresh (Nat.le_refl _),fun x c h=>?_,fun p hp=>absurd (show p∈([]:List (Addr×Obj)) from hp) (by simp),I.hok.kept keep,?_⟩
  · -- inj
    replace h1:(ZdY sc X.env s.heap.objs.size).cells.lookup x=some c:=h1
    replace h2:(ZdY sc X.env s.heap.objs.size).cells.lookup y=some c:=h2
    rcases oth x c h1 with k1 | k1<;>rcases oth y c h2 with k2 | k2
    · obtain ⟨c1,e1,m1⟩:=own x k1
      obtain ⟨c2,e2,m2⟩:=own y k2
      rw [h1] at e1;rw [h2] at e2
      cases e1;cases e2
      exact name_of_addr okc.apart m1 m2
    · obtain ⟨c1,e1,m1⟩:=own x k1
      obtain ⟨c2,e2,m2⟩:=clo y k2
      rw [h1] at e1;rw [h2] at e2
      cases e1;cases e2
      exact absurd (Nat.lt_of_lt_of_le (cloLt y c m2) (Nat.le_of_succ_le (ownC x c m1).2)) (Nat.lt_irrefl _)
    · obtain ⟨c1,e1,m1⟩:=clo x k1
      obtain ⟨c2,e2,m2⟩:=own y k2
      rw [h1] at e1;rw [h2] at e2
      cases e1;cases e2
      exact absurd (Nat.lt_of_lt_of_le (cloLt x c m1) (Nat.le_of_succ_le (ownC y c m2).2)) (Nat.lt_irrefl _)
    · obtain ⟨c1,e1,m1⟩:=clo x k1
      obtain ⟨c2,e2,m2⟩:=clo y k2
      rw [h1] at e1;rw [h2] at e2
      cases e1;cases e2
      exact I.ok.inj x y c m1 m2
  · -- has
    have hx':(relabel sc X.env).names.lookup x=some .cell∨(relabel sc X.env).names.lookup x=some .free:=hx
    rw [ZeY] at hx'
    cases q:sc.names.lookup x with
    | none=>rw [q] at hx';simp at hx'
    | some k=>
      cases k with
      | cell=>obtain ⟨c,e,_⟩:=own x q;exact ⟨c,e⟩
      | free=>obtain ⟨c,e,_⟩:=clo x q;exact ⟨c,e⟩
      | «local»=>rw [q] at hx';simp at hx'
      | globalExplicit=>rw [q] at hx';simp at hx'
      | globalImplicit=>rw [q] at hx';simp at hx'
  · have hx':sc.names.lookup x=some .cell:=of_decide_eq_true hx
    obtain ⟨c1,e1,m1⟩:=own x hx'
    have h':(ZdY sc X.env s.heap.objs.size).cells.lookup x=some c:=h
    rw [h'] at e1
    cases e1
    have:=(ownC x c m1).2
    show s.heap.objs.size≤c
    omega
  · rcases oth x c h with k | k
    · obtain ⟨c1,e1,m1⟩:=own x k
      rw [show (ZdY sc X.env s.heap.objs.size).cells.lookup x=some c from h] at e1
      cases e1
      exact fun z=>absurd (Nat.lt_of_lt_of_le (noA b hb) (Nat.le_of_succ_le (ownC x c m1).2)) (by rw [z];exact Nat.lt_irrefl _)
    · obtain ⟨c1,e1,m1⟩:=clo x k
      rw [show (ZdY sc X.env s.heap.objs.size).cells.lookup x=some c from h] at e1
      cases e1
      exact (hf b hb).2.2.2.2.1 x c m1
  · have q:=(hf b hb).2.2.2.1
    rcases q with q | q
    · exact I.ok.noex b o e q
    · exact absurd (Nat.lt_of_lt_of_le (Heap.lt_size (I.ok.bs b o e).1) q) (Nat.lt_irrefl _)
  · rcases List.mem_cons.mp (I.stkSub b hq) with z | z
    · exact (hf b hb).2.1 z
    · exact (hf b hb).2.2.1 z
  · -- the names' dict
    refine Heap.Ns.keeps (h:=s.heap.push { cls:=.type "dict",data:=.dict #[] }) ?_ (fun b o e=>pushCells_keeps _ _ _ _ e)
    exact ⟨_,#[],_,Heap.get?_push_size _ rfl,rfl,fun e he=>absurd he (by simp),fun _=>rfl⟩
  · -- what is seen
    have hi:vars.length≤i:=by
      rcases Nat.lt_or_ge i vars.length with z | z
      · exfalso
        unfold lcSt at h2
        rw [List.getElem?_append_left (by simpa using z),List.getElem?_replicate] at h2
        split at h2<;>cases h2
      · exact z
    unfold lcSt at h2
    rw [List.getElem?_append_right (by simpa using hi),List.length_replicate,List.getElem?_map] at h2
    have h1':(vars++sel.map fun j=>X.N.getD j "")[i]? = some x:=h1
    rw [List.getElem?_append_right hi,List.getElem?_map] at h1'
    cases q:sel[i - vars.length]? with
    | none=>rw [q] at h2;cases h2
    | some j=>
      rw [q] at h1' h2
      have e1:X.N.getD j "" = x:=Option.some.inj h1'
      have e2:(σ[j]?).getD none=some v:=Option.some.inj h2
      have hj:∃ y,X.N[j]? = some y∧sc.names.lookup y=some .free:=by
        have:=List.all_eq_true.mp so j (List.mem_of_getElem? q)
        cases z:X.N[j]? with
        | none=>rw [z] at this;cases this
        | some y=>rw [z] at this;exact ⟨y,rfl,of_decide_eq_true this⟩
      obtain ⟨y,hy,hyf⟩:=hj
      have:y=x:=by
        rw [← e1,List.getD_eq_getElem?_getD,hy];rfl
      subst this
      have e3:σ[j]? = some (some v):=by
        cases z:σ[j]? with
        | none=>rw [z] at e2;cases e2
        | some w=>rw [z] at e2;exact congrArg some e2
      obtain ⟨c,k1,k2⟩:=clo y hyf
      have vis:Vis X.env.scope y:=by
        rcases hfree (y,.free) (PySem.mem_of_lookup hyf) with z | z | z
        · exact absurd rfl z
        · exact .inr (.inl z)
        · exact .inr (.inr z)
      obtain ⟨m,hn,hl⟩:=I.loc
      obtain ⟨u,r,l⟩:=hl j y v hy e3 vis
      refine ⟨u,r,?_⟩
      have notloc:X.env.kindOf y≠some .local:=by
        rcases hfree (y,.free) (PySem.mem_of_lookup hyf) with z | z | z
        · exact absurd rfl z
        · show X.env.scope.names.lookup y≠_;rw [z];decide
        · show X.env.scope.names.lookup y≠_;rw [z];decide
      rcases l with ⟨z,_⟩ | ⟨_,c',e',q'⟩
      · exact absurd z notloc
      · rw [k2] at e';cases e'
        have kk:(ZdY sc X.env s.heap.objs.size).kindOf y=some .cell∨(ZdY sc X.env s.heap.objs.size).kindOf y=some .free:=by
          show (relabel sc X.env).names.lookup y=_∨(relabel sc X.env).names.lookup y=_
          rw [ZeY,hyf]
          simp only [Option.map_some]
          split
          · exact .inl rfl
          · exact .inr rfl
        exact .inr ⟨kk,c,k1,q'.keeps keep⟩
  · rcases oth x c h with k | k
    · obtain ⟨c1,e1,m1⟩:=own x k
      rw [show (ZdY sc X.env s.heap.objs.size).cells.lookup x=some c from h] at e1
      cases e1
      exact ⟨none,(ownC x c m1).1⟩
    · obtain ⟨c1,e1,m1⟩:=clo x k
      rw [show (ZdY sc X.env s.heap.objs.size).cells.lookup x=some c from h] at e1
      cases e1
      obtain ⟨v,q⟩:=I.cell x c m1
      exact ⟨v,q.keeps keep⟩
  · rcases oth x c h with k | k
    · obtain ⟨c1,e1,m1⟩:=own x k
      rw [show (ZdY sc X.env s.heap.objs.size).cells.lookup x=some c from h] at e1
      cases e1
      exact I.hok.fresh (by have:=(ownC x c m1).2;omega)
    · obtain ⟨c1,e1,m1⟩:=clo x k
      rw [show (ZdY sc X.env s.heap.objs.size).cells.lookup x=some c from h] at e1
      cases e1
      exact I.freeC x c m1
  · show (lcSt vars.length sel σ).length=(vars++sel.map _).length
    unfold lcSt
    simp
end
def PF (X:Cx) (ifs:List Expr) (t:TT):Prop:=
  ∀ (pins:List (Addr×Obj)) (s:Shared) (σ:St) (H:Hp) (Q:Bool→Hp→Prop),Inv X pins σ H s→t σ H Q→
    wpAny (model X.prog X.w) X.A (forIn ifs true fun c r=>if r=true then do let ok ← isTrue c X.env (eval c X.env);pure (ForInStep.yield ok) else pure (ForInStep.yield r)) (TP X pins σ Q) X.xe s
def tTrue:TT:=fun _ H Q=>Q true H
theorem pf_nil {X:Cx}:PF X [] tTrue:=fun _ _ _ H _ I h=>wpAny_tests_nil ⟨H,I,h⟩
theorem pf_one {X:Cx} {c:Expr} {t:TT} (h:PT X c t):PF X [c] t:=fun pins s σ H Q I q=>wpAny_tests_one (h pins s σ H Q I q)
def lcGo (g:TG) (tf:TT) (te:TE) (J:It) (D:Addr) (Q:Hp→Prop) (W:Nat→Nat→List V→St→Hp→Prop):Prop:=
  ∀ i m ys σ2 H2,W i m ys σ2 H2→H2 D=some (.lst ys)∧((J.stop i H2∧Q H2)∨(J.go i H2∧∀ x H3,J.yld i H2 x H3→g x σ2 H3 fun σ4 H4=>tf σ4 H4 fun b H5=>
    if b=true then te σ4 H5 fun v H6=>H6 D=some (.lst ys)∧ys.length < sizeLine∧∃ m',m' < m∧W (i+1) m' (ys++[v]) σ4 (upd H6 D (.lst (ys++[v]))) else ∃ m',m' < m∧W (i+1) m' ys σ4 H5))
def tLC (wi:TI) (nv:Nat) (sel:List Nat) (g:TG) (tf:TT) (te:TE):TE:=fun σ H Q=>wi σ H fun J H1=>∀ D,H1 D=none→
  ∃ W:Nat→Nat→List V→St→Hp→Prop,(∃ m,W 0 m [] (lcSt nv sel σ) (upd H1 D (.lst [])))∧lcGo g tf te J D (Q (.ref D)) W
section
variable {X:Cx} {pins:List (Addr×Obj)} {σ:St} {H1:Hp} {s2:Shared} {sc:Scope} {vars:List Str} {sel:List Nat} {elt target iter:Expr} {ifs:List Expr} {pos:Pos} {g:TG} {tf:TT} {te:TE}
theorem codeAny_lcLoop {prog:Program} {w:World} {A:Around} {R:Result→Shared→Prop} {s:Shared} {scope:Scope} {it acc:Value} {env:Env} (I:Nat→Shared→Prop)
    (turn:∀ n s,I n s→wpAny (model prog w) A (pyNext it) (fun r s₁=>match r with
      | none=>R (.ok .next) s₁
      | some v=>wpAny (model prog w) A (letOwnedTupleGo target it v) (fun _ s₁'=>wpAny (model prog w) A (assign target env v) (fun _ s₂=>
          wpAny (model prog w) A (forIn ifs true fun c r=>if r=true then do let ok ← isTrue c env (eval c env);pure (ForInStep.yield ok) else pure (ForInStep.yield r)) (fun ok s₃=>
            if ok=true then wpAny (model prog w) A (eval elt env) (fun x s₄=>
              wpAny (model prog w) A (call (.builtin "list.append") [acc,x]) (fun _ s₅=>∃ m,m < n∧I m s₅) (fun _ _=>False) s₄) (fun _ _=>False) s₃
            else ∃ m,m < n∧I m s₃) (fun _ _=>False) s₂) (fun _ _=>False) s₁') (fun _ _=>False) s₁) (fun _ _=>False) s)
    (n:Nat) (h:I n s) :
    codeAny (model prog w) A (.compLoop (.ListComp elt [⟨target,iter,ifs,0⟩] scope pos) 0 it acc env) R s:=by
  refine codeAny_loop rfl I (fun n s hI=>?_) n h
  show wpAny _ A ((compTurn (.ListComp elt [⟨target,iter,ifs,0⟩] scope pos) 0 it acc env).onRaise (fun x=>do noteFrame x env;theTreesLotGoes x)) _ _ s
  refine wpAny_noted ?_
  rw [compTurn_list]
  refine wpAny_bind (wpAny_standAt (wpAny_bind (wpAny_mono (turn n s hI) (fun r s₁ h₁=>?_) fun _ _ h'=>h'.elim)))
  cases r with
  | none=>exact wpAny_pure h₁
  | some v=>
    refine wpAny_bind (wpAny_mono h₁ (fun _ s₁' h₁'=>?_) fun _ _ h'=>h'.elim)
    refine wpAny_bind (wpAny_mono h₁' (fun _ s₂ h₂=>wpAny_bind (wpAny_mono h₂ (fun ok s₃ h₃=>?_) fun _ _ h'=>h'.elim)) fun _ _ h'=>h'.elim)
    cases ok with
    | false=>exact wpAny_pure ⟨rfl,h₃⟩
    | true=>
      exact wpAny_bind (wpAny_bind (wpAny_mono h₃ (fun x s₄ h₄=>wpAny_bind (wpAny_mono h₄ (fun _ s₅ h₅=>wpAny_pure (wpAny_pure ⟨rfl,h₅⟩)) fun _ _ h'=>h'.elim)) fun _ _ h'=>h'.elim))
theorem lc_block {J:It} {fp:List Addr} {it:Addr} {tn:Nat→Heap→Prop} {Q:VK} {E:Value→Shared→Prop} {R:Value→Addr→Result→Shared→Prop} (hc:X.calm=true)
    (hg:∀ s H fp,PG (X.lc sc vars sel s H fp) target g) (hf:∀ s H fp,PF (X.lc sc vars sel s H fp) ifs tf) (he:∀ s H fp,PE (X.lc sc vars sel s H fp) elt te)
    (ok:ZdC sc X.env.scope=true) (so:selOk X.N sc sel=true)
    (I2:Inv X pins σ H1 s2) (T:Turn X.prog X.w X.K target J fp it tn) (st2:tn 0 s2.heap) (f2:∀ b∈fp,FpOk X pins H1 b)
    (q:∀ D,H1 D=none→∃ W:Nat→Nat→List V→St→Hp→Prop,(∃ m,W 0 m [] (lcSt vars.length sel σ) (upd H1 D (.lst [])))∧lcGo g tf te J D (Q (.ref D)) W)
    (hR:∀ D C H' s',Inv X pins σ H' s'→Q (.ref D) H'→(∃ m,s'.heap.Ns C m)→FpOk X pins H' C→R (.ref D) C (.ok .next) s') :
    wpAny (model X.prog X.w) X.A (newList []) (fun acc s₃=>wpAny (model X.prog X.w) X.A (newFunctionEnv sc X.env.globals (clOf X.env.cells sc.names []) [] X.env.qual none .none (some X.env)) (fun cenv s₄=>
      codeAny (model X.prog X.w) X.A (.compStart (.ListComp elt [⟨target,iter,ifs,0⟩] sc pos) 0 (.ref it) acc { cenv with scope:=relabel sc X.env }) (R acc cenv.locals) s₄) E s₃) E s2:=by
  refine wpAny_newObj_type ?_
  have hD0:H1 s2.heap.objs.size=none:=I2.hok.fresh (Nat.le_refl _)
  obtain ⟨W,⟨m0,w0⟩,turn⟩:=q _ hD0
  have I3:Inv X pins σ (upd H1 s2.heap.objs.size (.lst [])) { s2 with heap:=s2.heap.push { cls:=.type "list",data:=.seq ([]:List Value).toArray },toks:=s2.toks }:=I2.lnew (ys:=[]) .nil (Nat.zero_le _)
  have ho2:∀ b∈fp,∃ o,s2.heap.get? b=some o∧∀ v,o.data≠.cell v:=T.obj _ _ st2
  have lt2:∀ b∈fp,b < s2.heap.objs.size:=fun b hb=>by obtain ⟨o,e,_⟩:=ho2 b hb;exact Heap.lt_size e
  have f3:∀ b∈fp,FpOk X pins (upd H1 s2.heap.objs.size (.lst [])) b:=fun b hb=>⟨by rw [upd_ne (Nat.ne_of_lt (lt2 b hb))];exact (f2 b hb).1,(f2 b hb).2⟩
  have ho3:∀ b∈fp,∃ o,(s2.heap.push { cls:=.type "list",data:=.seq ([]:List Value).toArray }).get? b=some o:=fun b hb=>by obtain ⟨o,e,_⟩:=ho2 b hb;exact ⟨o,Heap.get?_push_of_some _ e⟩
  refine wp_lcEnv (s:={ s2 with heap:=s2.heap.push { cls:=.type "list",data:=.seq ([]:List Value).toArray },toks:=s2.toks }) ?_
  generalize hs3:({ s2 with heap:=s2.heap.push { cls:=.type "list",data:=.seq ([]:List Value).toArray },toks:=s2.toks }:Shared)=s3 at I3 ⊢
  have kp23:∀ b o,s2.heap.get? b=some o→s3.heap.get? b=some o:=fun b o e=>by rw [← hs3];exact Heap.get?_push_of_some _ e
  have sz3:s3.heap.objs.size=s2.heap.objs.size+1:=by rw [← hs3];exact Heap.size_push ..
  have os3:s3.os=s2.os:=by rw [← hs3]
  have ho3':∀ b∈fp,∃ o,s3.heap.get? b=some o:=fun b hb=>by rw [← hs3];exact ho3 b hb
  have I4:=inv_lc (vars:=vars) I3 ok so f3 ho3' I2.ok.kind
  have kp4:∀ b o,s3.heap.get? b=some o→(pushCells (s3.heap.push { cls:=.type "dict",data:=.dict #[] }) sc.names).get? b=some o:=fun b o e=>pushCells_keeps _ _ _ _ (Heap.get?_push_of_some _ e)
  have st4:tn 0 (pushCells (s3.heap.push { cls:=.type "dict",data:=.dict #[] }) sc.names):=T.keep _ _ _ st2 fun b hb o e=>kp4 b o (kp23 b o e)
  -- what stays true of the iterator
  have stat:∀ {H':Hp},(∀ b∈fp,H' b=none)→∀ b∈fp,FpOk (X.lc sc vars sel s3 (upd H1 s2.heap.objs.size (.lst [])) fp) [] H' b:=fun {H'} hn b hb=>by
    refine ⟨hn b hb,(I4.ok.exf b hb).1,I4.ok.exfs b hb,.inl hb,fun x c e z=>(I4.ok.exf b hb).2 x c e z,fun p hp=>absurd (show p∈([]:List (Addr×Obj)) from hp) (by simp)⟩
  have loop:codeAny (model X.prog X.w) X.A (.compLoop (.ListComp elt [⟨target,iter,ifs,0⟩] sc pos) 0 (.ref it) (.ref s2.heap.objs.size) (ZdY sc X.env s3.heap.objs.size))
      (R (.ref s2.heap.objs.size) s3.heap.objs.size) { s3 with heap:=pushCells (s3.heap.push { cls:=.type "dict",data:=.dict #[] }) sc.names }:=by
    refine codeAny_lcLoop (fun n s'=>∃ i ys σ' H',Inv (X.lc sc vars sel s3 (upd H1 s2.heap.objs.size (.lst [])) fp) [] σ' H' s'∧tn i s'.heap∧(∀ b∈fp,H' b=none)∧W i n ys σ' H') ?_ m0
      ⟨0,[],_,_,I4,st4,fun b hb=>(f3 b hb).1,w0⟩
    rintro n s5 ⟨i,ys,σ5,H5,I5,st5,fr5,w5⟩
    obtain ⟨hD,⟨stop,qn⟩ | ⟨go,step⟩⟩:=turn i n ys σ5 H5 w5
    · refine thn (T.done (X.lc sc vars sel s3 (upd H1 s2.heap.objs.size (.lst [])) fp) rfl rfl rfl hc i [] s5 σ5 H5 _ I5 (stat fr5) st5 stop) fun r s6 ⟨hr,I6⟩=>?_
      subst hr
      have un:Un (frs X.stack) fp H1 H5 s2.heap s6.heap:=by
        have a:Un (frs X.stack) fp H1 (upd H1 s2.heap.objs.size (.lst [])) s2.heap s3.heap:=Un.laid kp23 (Nat.le_refl _) hD0
        exact a.trans I6.base
      have I7:Inv X pins σ H5 s6:=I2.call' (ch:=fp) (I6.os.trans os3) un I6.hok I6.bare fun b hb=>⟨(f2 b hb).2.2.2.1,(f2 b hb).2.1,(f2 b hb).2.2.2.2.1,(f2 b hb).2.2.2.2.2⟩
      refine hR _ _ H5 s6 I7 qn ?_ ?_
      · obtain ⟨m,hn,_⟩:=I6.loc
        exact ⟨m,hn⟩
      · exact I3.fpOk (Nat.le_refl _) I6.free
    · refine thn (T.item (X.lc sc vars sel s3 (upd H1 s2.heap.objs.size (.lst [])) fp) rfl rfl rfl hc i [] s5 σ5 H5 _ I5 (stat fr5) st5 go) fun r s6 ⟨u,hr,h6⟩=>?_
      subst hr
      refine thn h6 fun _ s7 ⟨x,H7,I7,r7,y7,st7,fr7⟩=>?_
      have I7':=I7.pinned (stat fr7) (T.obj _ _ st7)
      refine thn (hg _ _ _ _ s7 σ5 H7 x u _ I7' r7 (step x H7 y7)) fun _ s8 ⟨σ8,H8,I8,q8⟩=>?_
      refine thn (hf _ _ _ _ s8 σ8 H8 _ I8 q8) fun b s9 ⟨H9,I9,q9⟩=>?_
      have back:∀ {σ':St} {H':Hp} {s':Shared},Inv (X.lc sc vars sel s3 (upd H1 s2.heap.objs.size (.lst [])) fp) ([]++pinsAt fp s7.heap) σ' H' s'→tn (i+1) s'.heap∧∀ b∈fp,H' b=none:=fun {σ' H' s'} I'=>by
        refine ⟨T.keep _ _ _ st7 fun b hb o e=>(I'.pin (b,o) (List.mem_append_right _ (List.mem_append_right _ (mem_pinsAt hb e)))).1,fun b hb=>?_⟩
        obtain ⟨o,e,d⟩:=T.obj _ _ st7 b hb
        exact (I'.pin (b,o) (List.mem_append_right _ (List.mem_append_right _ (mem_pinsAt hb e)))).2.1
      cases b with
      | false=>
        rw [if_neg (by decide)] at q9 ⊢
        obtain ⟨m',hm,w9⟩:=q9
        exact ⟨m',hm,i+1,ys,σ8,H9,I9.unpinned,(back I9).1,(back I9).2,w9⟩
      | true=>
        rw [if_pos rfl] at q9 ⊢
        refine thn (he _ _ _ _ s9 σ8 H9 _ I9 q9) fun v sA ⟨y,HA,IA,rA,hDA,hz,m',hm,wA⟩=>?_
        obtain ⟨z,its,nn,rr,hl,e⟩:=IA.lstM hDA
        refine call_meets F.slot_list_append ⟨_,e,rfl⟩ F.entry_list_append (F.args_list_append_2 _ _) (PySem.list_append _ its.toArray nn v (by rw [List.size_toArray];omega)) ⟨e,?_⟩
        have IB:=IA.lset (its':=its++[v]) (f:=(·.push v)) (t':=sA.toks) hDA e (by simp) (rr.append (.cons rA .nil)) (by rw [List.length_append,List.length_singleton];omega)
        exact ⟨m',hm,i+1,ys++[y],σ8,_,IB.unpinned,(back IB).1,(back IB).2,wA⟩
  exact codeAny_compStart_list loop (T.self _ 0 _ _ _ st4 loop)
theorem pe_lc {wi:TI} (vars:List Str) (sel:List Nat) (hc:X.calm=true) (hi:PI X target iter wi)
    (ok:ZdC sc X.env.scope=true) (so:selOk X.N sc sel=true)
    (hg:∀ s H fp,PG (X.lc sc vars sel s H fp) target g) (hf:∀ s H fp,PF (X.lc sc vars sel s H fp) ifs tf) (he:∀ s H fp,PE (X.lc sc vars sel s H fp) elt te)
    (hs:∀ x,foldedSetIterable iter X.env x=pure x:=by intro _;rfl):PE X (.ListComp elt [⟨target,iter,ifs,0⟩] sc pos) (tLC wi vars.length sel g tf te):=by
  intro pins s σ H Q I h
  rw [eval_ListComp]
  have ok':=ok
  simp only [ZdC,Bool.and_eq_true,decide_eq_true_eq] at ok'
  refine wpAny_comprehension_free (use:=none) rfl hs (ZeB (lc_cells I ok)) ok'.1.1 (fun x hx hl=>?_) ?_
  · obtain ⟨n,k⟩:=x
    have hl':k = .local:=hl
    subst hl'
    exact Zef ok'.1.2 hx
  · refine thn (hi pins s σ H _ I h) fun v s1 h1=>thn h1 fun itv s2 h2=>?_
    obtain ⟨it,fp,tn,J,H2,e,I2,T,st2,f2,q⟩:=h2
    subst e
    refine lc_block (Q:=Q) hc hg hf he ok so I2 T st2 f2 q fun D C H' s' I' q' hn fC=>?_
    obtain ⟨m,hn⟩:=hn
    refine ⟨m,hn,fun h' hs'=>?_⟩
    obtain ⟨f0,f1,f2,f3,f4,f5⟩:=fC
    exact ⟨.ref D,H',I'.turned (t':=s'.toks) (fun b o hb e=>(hs'.2 b hb).trans e) f0 f1 f3 f4 f5,rfl,q'⟩
theorem ps_lc {wi:TI} {i:Nat} {x:Str} {pos' spos:Pos} (vars:List Str) (sel:List Nat) (hc:X.calm=true) (hN:X.N.Nodup) (hix:X.N[i]? = some x) (hx:Loc X.env.scope x) (hi:PI X target iter wi)
    (ok:ZdC sc X.env.scope=true) (so:selOk X.N sc sel=true)
    (hg:∀ s H fp,PG (X.lc sc vars sel s H fp) target g) (hf:∀ s H fp,PF (X.lc sc vars sel s H fp) ifs tf) (he:∀ s H fp,PE (X.lc sc vars sel s H fp) elt te)
    (hsw:swapsWith (.ListComp elt [⟨target,iter,ifs,0⟩] sc pos) (some (.Name x pos')) spos.line X.env=pure true)
    (hs:∀ x,foldedSetIterable iter X.env x=pure x:=by intro _;rfl) (hfn:X.fn x=true∨X.env.scope.names.lookup x=some .local:=by first | exact .inl rfl | exact .inr rfl | assumption) :
    PS X (.Assign [.Name x pos'] (.ListComp elt [⟨target,iter,ifs,0⟩] sc pos) spos) (tAsg (tLC wi vars.length sel g tf te) (gName i)):=by
  intro pins s σ H D I h
  rw [exec_Assign_Name_used _ _ _ _ hsw]
  refine wpAny_bind (wpAny_standAt (wpAny_bind ?_))
  show wpAny _ X.A (do let _ ← comprehension (.ListComp elt [⟨target,iter,ifs,0⟩] sc pos) sc X.env _ (newList []) false (eval iter X.env) (some (assign (.Name x pos') X.env))) _ _ s
  have ok':=ok
  simp only [ZdC,Bool.and_eq_true,decide_eq_true_eq] at ok'
  refine wpAny_bind (wpAny_mono (wpAny_comprehension_free (use:=some (assign (.Name x pos') X.env)) (Q:=fun _ s'=>SP X pins D .next s') rfl hs (ZeB (lc_cells I ok)) ok'.1.1 (fun x hx hl=>?_) ?_) (fun _ s' q=>wpAny_pure (wpAny_pure q)) fun _ _ e=>e)
  · obtain ⟨n,k⟩:=x
    have hl':k = .local:=hl
    subst hl'
    exact Zef ok'.1.2 hx
  · refine thn (hi pins s σ H _ I h) fun v s1 h1=>thn h1 fun itv s2 h2=>?_
    obtain ⟨it,fp,tn,J,H2,e,I2,T,st2,f2,q⟩:=h2
    subst e
    refine lc_block (Q:=fun v H'=>gName i v σ H' D.nx) hc hg hf he ok so I2 T st2 f2 q fun D' C H' s' I' q' hn fC=>?_
    obtain ⟨m,hn⟩:=hn
    obtain ⟨f0,f1,f2,f3,f4,f5⟩:=id fC
    refine wpAny_assign_Name (store_ok2 I' hN hix hx (v:=.ref D') rfl (fun s'' I'' ⟨a,sb,ha⟩=>?_) hfn)
    have hCa:C≠a:=by
      rcases ha with z | z
      · rw [z];exact f1
      · exact Ne.symm (f4 x a z)
    refine ⟨m,hn.sameBut sb hCa,fun h' hs'=>?_⟩
    exact ⟨_,H',I''.turned (t':=s''.toks) (fun b o hb e=>(hs'.2 b hb).trans e) f0 f1 f3 f4 f5,q'⟩
end
end L2
namespace LP
open PySem PySem.Spec PyProof.Rows L2
inductive D where
  | non | bl (b:Bool) | int (i:Int) | str (x:Str) | tup (xs:List D) | lst (xs:List D) | dic | pen | cls (n:Str) | exc (n:Str) | ty (n:String) | scr (xs:List D)
structure Wd where
  G:Hp
  Pn:Addr→Prop
def KT (K:PySem.W.Frag) (a:Addr) (vs:List V):Prop:=
  ∃ (o:Obj) (its:Array Value) (n:Nat),K.lookup a=some o∧o.cls = .type "tuple" ∧o.data = .seq its n∧its.size≤sizeLine∧Vals vs its.toList
def clsAt (K:PySem.W.Frag) (n:Str):Option Addr:=match PySem.W.nsIn K mainGlobals n with
  | some (some (.ref a))=>some a
  | _=>none
def xtab:List (Str×Str×Str×Int):=[("NotStrong1", "NotStrong", "size",1),("NotStrong2", "NotStrong", "size",2),("NotStrong3", "NotStrong", "size",3),("NotStrong4", "NotStrong", "size",4),("NotStrong5", "NotStrong", "size",5),("NoText0", "NoText", "row",0),("NoText1", "NoText", "row",1),("NoText2", "NoText", "row",2),("NoText3", "NoText", "row",3),("NoText4", "NoText", "row",4),("NoText5", "NoText", "row",5),("NoText6", "NoText", "row",6),("NoText7", "NoText", "row",7),("NoText8", "NoText", "row",8),("NoText9", "NoText", "row",9),("NoText10", "NoText", "row",10),("NoText11", "NoText", "row",11),("NoText12", "NoText", "row",12),("NoText13", "NoText", "row",13),("NoText14", "NoText", "row",14),("NoText15", "NoText", "row",15)]
def xrow (n:Str):Option (Str×Str×Int):=(xtab.find? fun r=>r.1 == n).map (·.2)
def xnm (n:Str):Str:=match xrow n with
  | some r=>r.1
  | none=>n
def excHO (C a:Addr) (dx:Option Addr):HO:=.ext fun h=>∃ oe,h.get? a=some oe∧oe.cls = .ref C∧PySem.W.notCls oe=true∧oe.dict=dx∧∃ vs,oe.data = .fields vs
def XD (W:Wd) (n:Str) (dx:Option Addr):Prop:=∀ c f k,xrow n=some (c,f,k)→∃ d,dx=some d∧W.G d=some (.xd [(f,.int k)])
theorem XD.none {W:Wd} {n:Str} {dx:Option Addr} (h:xrow n=none):XD W n dx:=fun c f k e=>by rw [h] at e;cases e
theorem XD.mono {W W':Wd} {n:Str} {dx:Option Addr} (g:∀ a o,W.G a=some o→W'.G a=some o) (h:XD W n dx):XD W' n dx:=fun c f k e=>let ⟨d,e1,e2⟩:=h c f k e;⟨d,e1,g _ _ e2⟩
theorem xnm_of {n:Str} (h:xrow n=none):xnm n=n:=by unfold xnm;rw [h]
def KL (K:PySem.W.Frag) (a:Addr) (vs:List V):Prop:=
  ∃ (o:Obj) (its:Array Value) (n:Nat),K.lookup a=some o∧o.cls = .type "list" ∧o.dict=none∧o.data = .seq its n∧its.size≤sizeLine∧Vals vs its.toList
mutual
inductive Rep (K:PySem.W.Frag) (W:Wd):V→D→Prop
  | non:Rep K W .non .non
  | bl (b:Bool):Rep K W (.bl b) (.bl b)
  | int (i:Int):Rep K W (.int i) (.int i)
  | str (x:Str):Rep K W (.str x) (.str x)
  | tup {a:Addr} {vs:List V} {ds:List D}:W.G a=some (.tup vs)→Reps K W vs ds→Rep K W (.ref a) (.tup ds)
  | ktup {a:Addr} {vs:List V} {ds:List D}:KT K a vs→Reps K W vs ds→Rep K W (.ref a) (.tup ds)
  | lst {a:Addr} {vs:List V} {ds:List D}:W.G a=some (.lst vs)→Reps K W vs ds→Rep K W (.ref a) (.lst ds)
  | scr {a:Addr} {vs:List V} {ds:List D}:((∃ o,W.G a=some (.frz o (.lst vs)))∨KL K a vs)→Reps K W vs ds→Rep K W (.ref a) (.scr ds)
  | dic {a:Addr}:W.G a=some (.dK [])→Rep K W (.ref a) .dic
  | pen {a:Addr}:W.Pn a→Rep K W (.ref a) .pen
  | cls {a:Addr} {n:Str}:clsAt K n=some a→Rep K W (.ref a) (.cls n)
  | exc {a C:Addr} {n:Str} {dx:Option Addr}:W.G a=some (excHO C a dx)→clsAt K (xnm n)=some C→XD W n dx→Rep K W (.ref a) (.exc n)
  | ty (n:String):Rep K W (.ty n) (.ty n)
inductive Reps (K:PySem.W.Frag) (W:Wd):List V→List D→Prop
  | nil:Reps K W [] []
  | cons {v:V} {d:D} {vs:List V} {ds:List D}:Rep K W v d→Reps K W vs ds→Reps K W (v::vs) (d::ds)
end
section
variable {K:PySem.W.Frag} {W W':Wd}
mutual
theorem Rep.mono (g:∀ a o,W.G a=some o→W'.G a=some o) (p:∀ a,W.Pn a→W'.Pn a):∀ {v:V} {d:D},Rep K W v d→Rep K W' v d
  | _,_,.non=>.non
  | _,_,.bl b=>.bl b
  | _,_,.int i=>.int i
  | _,_,.str x=>.str x
  | _,_,.tup e r=>.tup (g _ _ e) (Reps.mono g p r)
  | _,_,.ktup e r=>.ktup e (Reps.mono g p r)
  | _,_,.lst e r=>.lst (g _ _ e) (Reps.mono g p r)
  | _,_,.scr e r=>.scr (e.elim (fun ⟨o,z⟩=>.inl ⟨o,g _ _ z⟩) .inr) (Reps.mono g p r)
  | _,_,.dic e=>.dic (g _ _ e)
  | _,_,.pen e=>.pen (p _ e)
  | _,_,.cls e=>.cls e
  | _,_,.exc e h x=>.exc (g _ _ e) h (x.mono g)
  | _,_,.ty n=>.ty n
theorem Reps.mono (g:∀ a o,W.G a=some o→W'.G a=some o) (p:∀ a,W.Pn a→W'.Pn a):∀ {vs:List V} {ds:List D},Reps K W vs ds→Reps K W' vs ds
  | _,_,.nil=>.nil
  | _,_,.cons r t=>.cons (Rep.mono g p r) (Reps.mono g p t)
end
theorem Reps.length:∀ {vs:List V} {ds:List D},Reps K W vs ds→vs.length=ds.length
  | _,_,.nil=>rfl
  | _,_,.cons _ t=>by simp [Reps.length t]
theorem Reps.get:∀ {vs:List V} {ds:List D} {i:Nat} {d:D},Reps K W vs ds→ds[i]? = some d→∃ v,vs[i]? = some v∧Rep K W v d
  | _,_,_,_,.nil,e=>by simp at e
  | _,_,0,_,.cons r _,e=>by simp at e;subst e;exact ⟨_,rfl,r⟩
  | _,_,i+1,d,.cons _ t,e=>by
    obtain ⟨u,h1,h2⟩:=Reps.get (i:=i) (d:=d) t (by simpa using e)
    exact ⟨u,by simpa using h1,h2⟩
theorem Reps.append:∀ {vs us:List V} {ds es:List D},Reps K W vs ds→Reps K W us es→Reps K W (vs++us) (ds++es)
  | _,_,_,_,.nil,s=>s
  | _,_,_,_,.cons r t,s=>.cons r (Reps.append t s)
theorem Reps.take:∀ {vs:List V} {ds:List D} (n:Nat),Reps K W vs ds→Reps K W (vs.take n) (ds.take n)
  | _,_,0,_=>.nil
  | _,_,_+1,.nil=>.nil
  | _,_,n+1,.cons r t=>.cons r (Reps.take n t)
theorem Reps.drop:∀ {vs:List V} {ds:List D} (n:Nat),Reps K W vs ds→Reps K W (vs.drop n) (ds.drop n)
  | _,_,0,r=>r
  | _,_,_+1,.nil=>.nil
  | _,_,n+1,.cons _ t=>Reps.drop n t
theorem Reps.set {v:V} {d:D} (r:Rep K W v d):∀ {vs:List V} {ds:List D} (i:Nat),Reps K W vs ds→Reps K W (vs.set i v) (ds.set i d)
  | _,_,_,.nil=>.nil
  | _,_,0,.cons _ t=>.cons r t
  | _,_,i+1,.cons q t=>.cons q (Reps.set r i t)
theorem Reps.rev {vs:List V} {ds:List D} (r:Reps K W vs ds):Reps K W vs.reverse ds.reverse:=by
  induction vs generalizing ds with
  | nil=>cases r;exact .nil
  | cons v vs ih=>cases r with | cons r t=>rw [List.reverse_cons,List.reverse_cons];exact (ih t).append (.cons r .nil)
theorem Reps.one {us:List V} {d:D} (r:Reps K W us [d]):∃ v,us=[v]∧Rep K W v d:=by
  cases r with | cons r t=>cases t;exact ⟨_,rfl,r⟩
theorem Reps.two {us:List V} {d e:D} (r:Reps K W us [d,e]):∃ v u,us=[v,u]∧Rep K W v d∧Rep K W u e:=by
  cases r with | cons r t=>cases t with | cons r' t=>cases t;exact ⟨_,_,rfl,r,r'⟩
end
def PenOk (H:Hp) (a:Addr):Prop:=∃ i j k:Int,H a=some (.lst [.int i,.int j,.int k])
structure WOk (W:Wd) (H:Hp):Prop where
  g:∀ a o,W.G a=some o→H a=some o
  p:∀ a,W.Pn a→PenOk H a∧W.G a=none
structure Ext (W:Wd) (H:Hp) (W':Wd) (H':Hp):Prop where
  ok:WOk W' H'
  g:∀ a o,W.G a=some o→W'.G a=some o
  p:∀ a,W.Pn a→W'.Pn a
  gf:∀ a,W.G a=none→W'.G a≠none→H a=none
  pf:∀ a,¬ W.Pn a→W'.Pn a→H a=none
  h:∀ a o,H a=some o→¬ W.Pn a→H' a=some o
section
variable {K:PySem.W.Frag} {W W1 W2 W0:Wd} {H H1 H2 H0:Hp}
theorem Ext.refl (ok:WOk W H):Ext W H W H:=⟨ok,fun _ _ e=>e,fun _ e=>e,fun _ e n=>absurd e n,fun _ n e=>absurd e n,fun _ _ e _=>e⟩
theorem PenOk.ne {a:Addr} (p:PenOk H a):H a≠none:=by obtain ⟨_,_,_,e⟩:=p;rw [e];simp
theorem Ext.isN (x:Ext W H W1 H1) {a:Addr} (h:H1 a=none):H a=none:=by
  cases q:H a with
  | none=>rfl
  | some o=>
    by_cases hp:W.Pn a
    · exact absurd h ((x.ok.p a (x.p a hp)).1.ne)
    · rw [x.h a o q hp] at h;cases h
theorem Ext.trans (x:Ext W H W1 H1) (y:Ext W1 H1 W2 H2):Ext W H W2 H2 where
  ok:=y.ok
  g:=fun a o e=>y.g a o (x.g a o e)
  p:=fun a e=>y.p a (x.p a e)
  gf:=fun a e n=>by
    cases q:W1.G a with
    | none=>exact x.isN (y.gf a q n)
    | some o=>exact x.gf a e (by rw [q];simp)
  pf:=fun a e n=>by
    by_cases q:W1.Pn a
    · exact x.pf a e q
    · exact x.isN (y.pf a q n)
  h:=fun a o e n=>y.h a o (x.h a o e n) fun q=>by have:=x.pf a n q;rw [e] at this;cases this
theorem Ext.rep (x:Ext W H W1 H1) {v:V} {d:D} (r:Rep K W v d):Rep K W1 v d:=r.mono x.g x.p
theorem Ext.reps (x:Ext W H W1 H1) {v:List V} {d:List D} (r:Reps K W v d):Reps K W1 v d:=r.mono x.g x.p
def Wd.put (W:Wd) (a:Addr) (o:HO):Wd:=⟨upd W.G a o,W.Pn⟩
theorem Ext.put {a:Addr} {o:HO} (ok:WOk W H) (h:H a=none):Ext W H (W.put a o) (upd H a o) where
  ok:=⟨fun b u e=>by
      unfold Wd.put at e
      dsimp only at e
      by_cases hb:b=a
      · subst hb;rw [upd_same] at e ⊢;exact e
      · rw [upd_ne hb] at e ⊢;exact ok.g b u e,
    fun b hb=>by
      have ⟨p1,p2⟩:=ok.p b hb
      have hne:b≠a:=fun z=>p1.ne (by rw [z];exact h)
      refine ⟨?_,by unfold Wd.put;dsimp only;rw [upd_ne hne];exact p2⟩
      obtain ⟨i,j,k,e⟩:=p1
      exact ⟨i,j,k,by rw [upd_ne hne];exact e⟩⟩
  g:=fun b u e=>by
    have:b≠a:=fun z=>by have:=ok.g b u e;rw [z,h] at this;cases this
    unfold Wd.put;dsimp only;rw [upd_ne this];exact e
  p:=fun b e=>e
  gf:=fun b e n=>by
    by_cases hb:b=a
    · rw [hb];exact h
    · unfold Wd.put at n;dsimp only at n;rw [upd_ne hb] at n;exact absurd e n
  pf:=fun b n e=>absurd e n
  h:=fun b u e _=>by
    have:b≠a:=fun z=>by rw [z,h] at e;cases e
    rw [upd_ne this];exact e
theorem Ext.new {a:Addr} {o:HO} (ok:WOk W H) (h:H a=none):Ext W H W (upd H a o) where
  ok:=⟨fun b u e=>by
      have q:=ok.g b u e
      have:b≠a:=fun z=>by rw [z,h] at q;cases q
      rw [upd_ne this];exact q,
    fun b hb=>by
      have ⟨p1,p2⟩:=ok.p b hb
      have hne:b≠a:=fun z=>p1.ne (by rw [z];exact h)
      obtain ⟨i,j,k,e⟩:=p1
      exact ⟨⟨i,j,k,by rw [upd_ne hne];exact e⟩,p2⟩⟩
  g:=fun _ _ e=>e
  p:=fun _ e=>e
  gf:=fun _ e n=>absurd e n
  pf:=fun _ n e=>absurd e n
  h:=fun b u e _=>by
    have:b≠a:=fun z=>by rw [z,h] at e;cases e
    rw [upd_ne this];exact e
theorem WOk.fresh (ok:WOk W H) {a:Addr} (h:H a=none):W.G a=none∧¬ W.Pn a:=by
  refine ⟨?_,fun p=>(ok.p a p).1.ne h⟩
  cases q:W.G a with
  | none=>rfl
  | some o=>have:=ok.g a o q;rw [h] at this;cases this
theorem Ext.pub {a:Addr} {o:HO} (x:Ext W H W1 H1) (h:H a=none) (e:H1 a=some o) (n:¬ W1.Pn a) (ng:W1.G a=none):Ext W H (W1.put a o) H1 where
  ok:=⟨fun b u q=>by
      unfold Wd.put at q
      by_cases hb:b=a
      · subst hb;dsimp only at q;rw [upd_same] at q;cases q;exact e
      · dsimp only at q;rw [upd_ne hb] at q;exact x.ok.g b u q,
    fun b hb=>by
      have ⟨p1,p2⟩:=x.ok.p b hb
      have hne:b≠a:=fun z=>n (by rw [← z];exact hb)
      exact ⟨p1,by unfold Wd.put;dsimp only;rw [upd_ne hne];exact p2⟩⟩
  g:=fun b u q=>by
    have q1:=x.g b u q
    have:b≠a:=fun z=>by rw [z,ng] at q1;cases q1
    unfold Wd.put;dsimp only;rw [upd_ne this];exact q1
  p:=x.p
  gf:=fun b q m=>by
    by_cases hb:b=a
    · rw [hb];exact h
    · unfold Wd.put at m;dsimp only at m;rw [upd_ne hb] at m;exact x.gf b q m
  pf:=x.pf
  h:=x.h
theorem Zcm {a:Addr} {o:HO} (ng:W.G a=none):∀ b u,W.G b=some u→(W.put a o).G b=some u:=fun b u q=>by
  have:b≠a:=fun z=>by rw [z,ng] at q;cases q
  unfold Wd.put;dsimp only;rw [upd_ne this];exact q
theorem Ext.chg {a:Addr} {o o':HO} (x:Ext W H W1 H1) (h:H a=none) (e:H1 a=some o) (n:¬ W1.Pn a) (ng:W1.G a=none):Ext W H W1 (upd H1 a o') where
  ok:=⟨fun b u q=>by
      have:b≠a:=fun z=>by rw [z,ng] at q;cases q
      rw [upd_ne this];exact x.ok.g b u q,
    fun b hb=>by
      have ⟨p1,p2⟩:=x.ok.p b hb
      have hne:b≠a:=fun z=>n (by rw [← z];exact hb)
      obtain ⟨i,j,k,e⟩:=p1
      exact ⟨⟨i,j,k,by rw [upd_ne hne];exact e⟩,p2⟩⟩
  g:=x.g
  p:=x.p
  gf:=x.gf
  pf:=x.pf
  h:=fun b u q m=>by
    have:b≠a:=fun z=>by rw [z,h] at q;cases q
    rw [upd_ne this];exact x.h b u q m
end
inductive SV where
  | un | d (x:D) | ow (xs:List D) | oo (xss:List (List D))
abbrev Rho:=List SV
def Own1 (K:PySem.W.Frag) (H0:Hp) (W:Wd) (H:Hp) (b:Addr) (xs:List D):Prop:=∃ vs,H b=some (HO.lst vs)∧W.G b=none∧¬ W.Pn b∧H0 b=none∧Reps K W vs xs
structure OwnT (K:PySem.W.Frag) (H0:Hp) (W:Wd) (H:Hp) (a:Addr) (bs:List Addr) (xss:List (List D)):Prop where
  a1:H a=some (HO.lst (bs.map V.ref))
  a2:W.G a=none
  a3:¬ W.Pn a
  a4:H0 a=none
  nd:(a::bs).Nodup
  len:bs.length=xss.length
  row:∀ (i:Nat) b,bs[i]? = some b→∃ xs,xss[i]? = some xs∧Own1 K H0 W H b xs
structure OOs (K:PySem.W.Frag) (H0:Hp) (W:Wd) (σ:L2.St) (H:Hp) (ρ:Rho):Prop where
  t:∀ (i:Nat) xss,ρ[i]? = some (SV.oo xss)→∃ a bs,σ[i]? = some (some (V.ref a))∧OwnT K H0 W H a bs xss∧∀ (j:Nat) ys c,ρ[j]? = some (SV.ow ys)→σ[j]? = some (some (V.ref c))→c∉a::bs
  u:∀ (i j:Nat) xss yss,ρ[i]? = some (SV.oo xss)→ρ[j]? = some (SV.oo yss)→i=j
structure SOk (K:PySem.W.Frag) (W0:Wd) (H0:Hp) (W:Wd) (σ:L2.St) (H:Hp) (ρ:Rho):Prop where
  ext:Ext W0 H0 W H
  len:ρ.length=σ.length
  d:∀ (i:Nat) x,ρ[i]? = some (SV.d x)→∃ v:V,σ[i]? = some (some v)∧Rep K W v x
  o:∀ (i:Nat) xs,ρ[i]? = some (SV.ow xs)→∃ a vs,σ[i]? = some (some (V.ref a))∧H a=some (HO.lst vs)∧W.G a=none∧¬ W.Pn a∧H0 a=none∧Reps K W vs xs
  ne:∀ (i j:Nat) xs ys a,i≠j→ρ[i]? = some (SV.ow xs)→ρ[j]? = some (SV.ow ys)→σ[i]? = some (some (V.ref a))→σ[j]?≠some (some (V.ref a))
  oo:OOs K H0 W σ H ρ
section
variable {K:PySem.W.Frag} {W0 W W1:Wd} {H0 H H1:Hp} {σ:L2.St} {ρ:Rho}
theorem SOk.ok (s:SOk K W0 H0 W σ H ρ):WOk W H:=s.ext.ok
theorem Own1.step {b:Addr} {xs:List D} (o:Own1 K H0 W H b xs) (x:Ext W H W1 H1):Own1 K H0 W1 H1 b xs:=by
  obtain ⟨vs,e2,e3,e4,e5,r⟩:=o
  refine ⟨vs,x.h b _ e2 e4,?_,fun q=>?_,e5,x.reps r⟩
  · cases q:W1.G b with
    | none=>rfl
    | some o=>have:=x.gf b e3 (by rw [q];simp);rw [e2] at this;cases this
  · have:=x.pf b e4 q;rw [e2] at this;cases this
theorem OwnT.step {a:Addr} {bs:List Addr} {xss:List (List D)} (o:OwnT K H0 W H a bs xss) (x:Ext W H W1 H1):OwnT K H0 W1 H1 a bs xss:=by
  refine ⟨x.h a _ o.a1 o.a3,?_,fun q=>?_,o.a4,o.nd,o.len,fun i b e=>let ⟨xs,e1,q⟩:=o.row i b e;⟨xs,e1,q.step x⟩⟩
  · cases q:W1.G a with
    | none=>rfl
    | some u=>have:=x.gf a o.a2 (by rw [q];simp);rw [o.a1] at this;cases this
  · have:=x.pf a o.a3 q;rw [o.a1] at this;cases this
theorem OwnT.here {a c:Addr} {bs:List Addr} {xss:List (List D)} (o:OwnT K H0 W H a bs xss) (h:H c=none):c∉a::bs:=fun q=>by
  rcases List.mem_cons.mp q with rfl | q
  · rw [o.a1] at h;cases h
  · obtain ⟨i,hi,rfl⟩:=List.mem_iff_getElem.mp q
    obtain ⟨xs,_,vs,e,_⟩:=o.row i _ (List.getElem?_eq_getElem hi)
    rw [e] at h;cases h
theorem OwnT.noPen {a c:Addr} {bs:List Addr} {xss:List (List D)} (o:OwnT K H0 W H a bs xss) (h:W.Pn c):c∉a::bs:=fun q=>by
  rcases List.mem_cons.mp q with rfl | q
  · exact o.a3 h
  · obtain ⟨i,hi,rfl⟩:=List.mem_iff_getElem.mp q
    obtain ⟨xs,_,vs,_,_,e,_⟩:=o.row i _ (List.getElem?_eq_getElem hi)
    exact e h
theorem OwnT.upd {a c:Addr} {o':HO} {bs:List Addr} {xss:List (List D)} (o:OwnT K H0 W H a bs xss) (h:c∉a::bs):OwnT K H0 W (upd H c o') a bs xss:=by
  have ha:a≠c:=fun z=>h (by rw [z];simp)
  refine ⟨by rw [upd_ne ha];exact o.a1,o.a2,o.a3,o.a4,o.nd,o.len,fun i b e=>?_⟩
  obtain ⟨xs,e1,vs,q⟩:=o.row i b e
  have hb:b≠c:=fun z=>h (by rw [← z];exact List.mem_cons_of_mem _ (List.mem_of_getElem? e))
  exact ⟨xs,e1,vs,by rw [upd_ne hb];exact q⟩
theorem OwnT.put {a c:Addr} {o':HO} {bs:List Addr} {xss:List (List D)} (o:OwnT K H0 W H a bs xss) (h:c∉a::bs) (hc:W.G c=none):OwnT K H0 (W.put c o') H a bs xss:=by
  have ha:a≠c:=fun z=>h (by rw [z];simp)
  refine ⟨o.a1,by unfold Wd.put;dsimp only;rw [upd_ne ha];exact o.a2,o.a3,o.a4,o.nd,o.len,fun i b e=>?_⟩
  obtain ⟨xs,e1,vs,q1,q2,q3,q4,q5⟩:=o.row i b e
  have hb:b≠c:=fun z=>h (by rw [← z];exact List.mem_cons_of_mem _ (List.mem_of_getElem? e))
  exact ⟨xs,e1,vs,q1,by unfold Wd.put;dsimp only;rw [upd_ne hb];exact q2,q3,q4,q5.mono (Zcm hc) fun _ z=>z⟩
theorem OOs.none (h:∀ (i:Nat) xss,ρ[i]?≠some (SV.oo xss)):OOs K H0 W σ H ρ:=⟨fun i xss e=>absurd e (h i xss),fun i j xss yss e=>absurd e (h i xss)⟩
theorem OOs.step (o:OOs K H0 W σ H ρ) (x:Ext W H W1 H1):OOs K H0 W1 σ H1 ρ:=⟨fun i xss e=>let ⟨a,bs,e1,q,n⟩:=o.t i xss e;⟨a,bs,e1,q.step x,n⟩,o.u⟩
theorem OOs.set {σ':L2.St} (o:OOs K H0 W σ H ρ) {i:Nat} {y:SV} (hy:∀ xss,y≠.oo xss) (hσ:∀ j,i≠j→σ'[j]? = σ[j]?) (hw:∀ ys c,y = .ow ys→σ'[i]? = some (some (V.ref c))→∀ (j:Nat) xss a bs,i≠j→ρ[j]? = some (SV.oo xss)→σ[j]? = some (some (V.ref a))→OwnT K H0 W H a bs xss→(∀ (j:Nat) ys c,ρ[j]? = some (SV.ow ys)→σ[j]? = some (some (V.ref c))→c∉a::bs)→c∉a::bs):OOs K H0 W σ' H (ρ.set i y):=by
  have nt:∀ {j:Nat} {xss:List (List D)},(ρ.set i y)[j]? = some (SV.oo xss)→i≠j∧ρ[j]? = some (SV.oo xss):=fun {j xss} e=>by
    by_cases h:i=j
    · subst h
      by_cases hi:i < ρ.length
      · rw [List.getElem?_set_self hi] at e;cases e;exact absurd rfl (hy xss)
      · rw [List.getElem?_eq_none (by rw [List.length_set];omega)] at e;cases e
    · rw [List.getElem?_set_ne h] at e;exact ⟨h,e⟩
  refine ⟨fun j xss e=>?_,fun j k xss yss e1 e2=>o.u j k xss yss (nt e1).2 (nt e2).2⟩
  obtain ⟨h,e'⟩:=nt e
  clear e
  obtain ⟨a,bs,e1,q,n⟩:=o.t j xss e'
  refine ⟨a,bs,by rw [hσ j h];exact e1,q,fun k ys c ek ec=>?_⟩
  by_cases hk:i=k
  · subst hk
    by_cases hi:i < ρ.length
    · rw [List.getElem?_set_self hi] at ek;cases ek;exact hw ys c rfl ec j xss a bs h e' e1 q n
    · rw [List.getElem?_eq_none (by rw [List.length_set];omega)] at ek;cases ek
  · rw [List.getElem?_set_ne hk] at ek
    rw [hσ k hk] at ec
    exact n k ys c ek ec
theorem SOk.step (s:SOk K W0 H0 W σ H ρ) (x:Ext W H W1 H1):SOk K W0 H0 W1 σ H1 ρ where
  ext:=s.ext.trans x
  len:=s.len
  d:=fun i y e=>let ⟨v,e1,r⟩:=s.d i y e;⟨v,e1,x.rep r⟩
  o:=fun i ys e=>by
    obtain ⟨a,vs,e1,e2,e3,e4,e5,r⟩:=s.o i ys e
    refine ⟨a,vs,e1,x.h a _ e2 e4,?_,fun q=>?_,e5,x.reps r⟩
    · cases q:W1.G a with
      | none=>rfl
      | some o=>have:=x.gf a e3 (by rw [q];simp);rw [e2] at this;cases this
    · have:=x.pf a e4 q;rw [e2] at this;cases this
  ne:=s.ne
  oo:=s.oo.step x
end
abbrev Ex:=Str
def ExRep (K:PySem.W.Frag) (W:Wd) (_:Hp) (cls:Value) (dx:Option Addr) (ex:Ex):Prop:=∃ C,clsAt K (xnm ex)=some C∧cls = .ref C∧XD W ex dx
def EOk (K:PySem.W.Frag) (W0:Wd) (H0:Hp) (E:Ex→Prop) (EX:XK):Prop:=∀ ex W' H' cls dx,E ex→Ext W0 H0 W' H'→ExRep K W' H' cls dx ex→EX cls dx H'
abbrev WE:=(Ex→Prop)→Rho→(D→Prop)→Prop
abbrev WT:=(Ex→Prop)→Rho→(Bool→Prop)→Prop
abbrev WA:=(Ex→Prop)→Rho→(List D→Prop)→Prop
def RQ (K:PySem.W.Frag) (W:Wd) (H:Hp) (Q:VK) (d:D):Prop:=∀ v W' H',Ext W H W' H'→Rep K W' v d→Q v H'
structure PX (X:Cx) (EX:XK) (e:Expr) (w:WE):Prop where
  t:∃ t,PE X e t∧∀ W0 H0 W σ H ρ E Q,SOk X.K W0 H0 W σ H ρ→EOk X.K W0 H0 E EX→w E ρ (RQ X.K W H Q)→t σ H Q
  mono:∀ E ρ P P',(∀ d,P d→P' d)→w E ρ P→w E ρ P'
structure PXT (X:Cx) (EX:XK) (e:Expr) (w:WT):Prop where
  t:∃ t,PT X e t∧∀ W0 H0 W σ H ρ E Q,SOk X.K W0 H0 W σ H ρ→EOk X.K W0 H0 E EX→w E ρ (fun b=>∀ W' H',Ext W H W' H'→Q b H')→t σ H Q
  mono:∀ E ρ P P',(∀ d,P d→P' d)→w E ρ P→w E ρ P'
structure PXA (X:Cx) (EX:XK) (es:List Expr) (w:WA):Prop where
  t:∃ t,PA X es t∧∀ W0 H0 W σ H ρ E Q,SOk X.K W0 H0 W σ H ρ→EOk X.K W0 H0 E EX→w E ρ (fun ds=>∀ vs W' H',Ext W H W' H'→Reps X.K W' vs ds→Q vs H')→t σ H Q
  mono:∀ E ρ P P',(∀ d,P d→P' d)→w E ρ P→w E ρ P'
structure PXL (X:Cx) (EX:XK) (e:Expr) (w:WA):Prop where
  t:∃ t,PE X e t∧∀ W0 H0 W σ H ρ E Q,SOk X.K W0 H0 W σ H ρ→EOk X.K W0 H0 E EX→
    w E ρ (fun ds=>∀ a vs W' H',Ext W H W' H'→H' a=some (.lst vs)→W'.G a=none→¬ W'.Pn a→H a=none→Reps X.K W' vs ds→Q (.ref a) H')→t σ H Q
  mono:∀ E ρ P P',(∀ d,P d→P' d)→w E ρ P→w E ρ P'
structure Nds where
  nx:Rho→Prop
  rt:D→Prop
  bk:Rho→Prop:=fun _=>False
  ct:Rho→Prop:=fun _=>False
structure Wle (F W:Wd):Prop where
  g:∀ a o,F.G a=some o→W.G a=some o
  p:∀ a,F.Pn a→W.Pn a
theorem Wle.refl (F:Wd):Wle F F:=⟨fun _ _ e=>e,fun _ e=>e⟩
theorem Wle.trans {F W V:Wd} (a:Wle F W) (b:Wle W V):Wle F V:=⟨fun x o e=>b.g x o (a.g x o e),fun x e=>b.p x (a.p x e)⟩
theorem Wle.ext {F W W1:Wd} {H H1:Hp} (a:Wle F W) (x:Ext W H W1 H1):Wle F W1:=a.trans ⟨x.g,x.p⟩
structure NOk (K:PySem.W.Frag) (W0:Wd) (H0:Hp) (F:Wd) (Dn:Ends) (N:Nds):Prop where
  nx:∀ W σ H ρ,SOk K W0 H0 W σ H ρ→Wle F W→N.nx ρ→Dn.nx σ H
  rt:∀ d v W H,Ext W0 H0 W H→Rep K W v d→N.rt d→Dn.rt v H
  bk:∀ W σ H ρ,SOk K W0 H0 W σ H ρ→Wle F W→N.bk ρ→Dn.bk σ H
  ct:∀ W σ H ρ,SOk K W0 H0 W σ H ρ→Wle F W→N.ct ρ→Dn.ct σ H
structure Nds.le (N N':Nds):Prop where
  nx:∀ ρ,N.nx ρ→N'.nx ρ
  rt:∀ d,N.rt d→N'.rt d
  bk:∀ ρ,N.bk ρ→N'.bk ρ
  ct:∀ ρ,N.ct ρ→N'.ct ρ
theorem Nds.le.refl (N:Nds):N.le N:=⟨fun _ h=>h,fun _ h=>h,fun _ h=>h,fun _ h=>h⟩
abbrev WS:=(Ex→Prop)→Nds→Rho→Prop
structure PZ (X:Cx) (EX:XK) (st:Stmt) (z:WS):Prop where
  t:∃ t,PS X st t∧∀ W0 H0 F W σ H ρ E Dn N,SOk X.K W0 H0 W σ H ρ→Wle F W→EOk X.K W0 H0 E EX→NOk X.K W0 H0 F Dn N→z E N ρ→t Dn σ H
  mono:∀ E ρ N N',N.le N'→z E N ρ→z E N' ρ
structure PZs (X:Cx) (EX:XK) (st:List Stmt) (z:WS):Prop where
  t:∃ t,PSs X st t∧∀ W0 H0 F W σ H ρ E Dn N,SOk X.K W0 H0 W σ H ρ→Wle F W→EOk X.K W0 H0 E EX→NOk X.K W0 H0 F Dn N→z E N ρ→t Dn σ H
  mono:∀ E ρ N N',N.le N'→z E N ρ→z E N' ρ
section
variable {K:PySem.W.Frag} {W W1:Wd} {H H1:Hp} {Q:VK} {d:D}
theorem RQ.ext (h:RQ K W H Q d) (x:Ext W H W1 H1):RQ K W1 H1 Q d:=fun v W' H' y r=>h v W' H' (x.trans y) r
theorem RQ.now (h:RQ K W H Q d) (ok:WOk W H) {v:V} (r:Rep K W v d):Q v H:=h v W H (.refl ok) r
theorem RQ.tup {vs:List V} {ds:List D} (h:RQ K W H Q (.tup ds)) (ok:WOk W H) (r:Reps K W vs ds) {p:Addr} (hp:H p=none):Q (.ref p) (upd H p (.tup vs)):=by
  have x:=Ext.put (o:=.tup vs) ok hp
  exact h _ _ _ x (.tup (by unfold Wd.put;dsimp only;rw [upd_same]) (x.reps r))
theorem RQ.lst {vs:List V} {ds:List D} (h:RQ K W H Q (.lst ds)) (ok:WOk W H) (r:Reps K W vs ds) {p:Addr} (hp:H p=none):Q (.ref p) (upd H p (.lst vs)):=by
  have x:=Ext.put (o:=.lst vs) ok hp
  exact h _ _ _ x (.lst (by unfold Wd.put;dsimp only;rw [upd_same]) (x.reps r))
theorem Rep.sqt {a:V} {ds:List D} (r:Rep K W a (.tup ds)) (ok:WOk W H):∃ p vs,a = .ref p∧SqT K H p vs∧Reps K W vs ds:=by
  cases r with
  | tup e r=>exact ⟨_,_,rfl,.inl (.inl (ok.g _ _ e)),r⟩
  | ktup e r=>exact ⟨_,_,rfl,.inr e,r⟩
theorem Rd.up {a:Addr} {u:HO} (r:Rd W.G a u) (ok:WOk W H):Rd H a u:=r.elim (fun z=>.inl (ok.g _ _ z)) fun ⟨o,z⟩=>.inr ⟨o,ok.g _ _ z⟩
theorem Rep.sql {a:V} {ds:List D} (r:Rep K W a (.lst ds)) (ok:WOk W H):∃ p vs,a = .ref p∧SqL K H p vs∧Reps K W vs ds:=by
  cases r with
  | lst e r=>exact ⟨_,_,rfl,.inl (.inl (ok.g _ _ e)),r⟩
theorem Rep.sqs {a:V} {ds:List D} (r:Rep K W a (.scr ds)) (ok:WOk W H):∃ p vs,a = .ref p∧SqL K H p vs∧Reps K W vs ds:=by
  cases r with
  | scr e r=>exact ⟨_,_,rfl,e.elim (fun ⟨o,e⟩=>.inl (.inr ⟨o,ok.g _ _ e⟩)) .inr,r⟩
end
section
variable {X:Cx} {EX:XK} {pos:Pos}
def wN (i:Nat):WE:=fun _ ρ Q=>match ρ[i]? with
  | some (.d x)=>Q x
  | _=>False
theorem Zac (i:Nat) {x:Str} (hN:X.N[i]? = some x:=by rfl) (hv:Vis X.env.scope x:=by first | exact Or.inl rfl | exact Or.inr (Or.inl rfl) | exact Or.inr (Or.inr rfl)) (hd:(x == ("__debug__" : Str))=false:=by decide)
    (hcd:(x == ("__classdict__" : Str))=false:=by decide):PX X EX (.Name x pos) (wN i):=by
  refine ⟨⟨_,pe_var hN hv hd hcd,fun W0 H0 W σ H ρ E Q s _ h=>?_⟩,fun E ρ P P' hp h=>?_⟩
  · unfold wN at h
    split at h
    · rename_i x e
      obtain ⟨v,e1,r⟩:=s.d i x e
      exact ⟨v,e1,h.now s.ok r⟩
    · exact h.elim
  · unfold wN at h ⊢
    split at h
    · exact hp _ h
    · exact h.elim
def wC (d:D):WE:=fun _ _ Q=>Q d
theorem wC.mono {d:D}:∀ (E:Ex→Prop) ρ P P',(∀ d,P d→P' d)→wC d E ρ P→wC d E ρ P':=fun _ _ _ _ hp h=>hp _ h
theorem Zae {i j}:PX X EX (.Constant (.int i) j pos) (wC (.int i)):=⟨⟨_,pe_int,fun _ _ _ _ _ _ _ _ s _ h=>RQ.now h s.ok (.int i)⟩,wC.mono⟩
theorem ZdU {b j}:PX X EX (.Constant (.bool b) j pos) (wC (.bl b)):=⟨⟨_,pe_bl,fun _ _ _ _ _ _ _ _ s _ h=>RQ.now h s.ok (.bl b)⟩,wC.mono⟩
theorem px_non {j}:PX X EX (.Constant .none j pos) (wC .non):=⟨⟨_,pe_non,fun _ _ _ _ _ _ _ _ s _ h=>RQ.now h s.ok .non⟩,wC.mono⟩
theorem px_glob {x:Str} {v:V} {d:D} {u:Value} (hm:X.mg x=some u) (r:RelV v u) (rd:∀ W,Rep X.K W v d) (hg:Gl X x:=by rfl) (hd:(x == ("__debug__" : Str))=false:=by decide):PX X EX (.Name x pos) (wC d):=
  ⟨⟨_,pe_glob hg hm r hd,fun _ _ _ _ _ _ _ _ s _ h=>RQ.now h s.ok (rd _)⟩,wC.mono⟩
theorem px_bltn {x:Str} {v:V} {d:D} {u:Value} (hm:X.mg x=none) (hv:bootBuiltins x=some u) (r:RelV v u) (rd:∀ W,Rep X.K W v d) (hg:Gl X x:=by rfl) (hn:x≠ "__name__" :=by decide) (hd:(x == ("__debug__" : Str))=false:=by decide):PX X EX (.Name x pos) (wC d):=
  ⟨⟨_,pe_bltn hg hm hv r hn hd,fun _ _ _ _ _ _ _ _ s _ h=>RQ.now h s.ok (rd _)⟩,wC.mono⟩
end
abbrev G2:=D→D→(D→Prop)→Prop
structure OpP (X:Cx) (f:Value→Value→Sem Value) (g:G2):Prop where
  t:∃ r,OpR X f r∧∀ W H x y dx dy Q,WOk W H→Rep X.K W x dx→Rep X.K W y dy→g dx dy (RQ X.K W H Q)→r x y H Q
  mono:∀ x y P P',(∀ d,P d→P' d)→g x y P→g x y P'
section
variable {X:Cx} {EX:XK} {pos:Pos} {a b c:Expr} {wa wb wc:WE}
def w2 (g:G2) (wa wb:WE):WE:=fun E ρ Q=>wa E ρ fun x=>wb E ρ fun y=>g x y Q
theorem w2.mono {g:G2} (ha:PX X EX a wa) (hb:PX X EX b wb) (hg:∀ x y P P',(∀ d,P d→P' d)→g x y P→g x y P'):∀ E ρ P P',(∀ d,P d→P' d)→w2 g wa wb E ρ P→w2 g wa wb E ρ P':=
  fun E ρ P P' hp h=>ha.mono E ρ _ _ (fun x hx=>hb.mono E ρ _ _ (fun y hy=>hg x y _ _ hp hy) hx) h
theorem seq2 {ta tb:TE} {R:V→V→Hp→Prop} {G:D→D→Prop} {W0 W:Wd} {H0 H:Hp} {σ:L2.St} {ρ:Rho} {E:Ex→Prop} (hma:∀ E ρ P P',(∀ d,P d→P' d)→wa E ρ P→wa E ρ P') (hmb:∀ E ρ P P',(∀ d,P d→P' d)→wb E ρ P→wb E ρ P')
    (ka:∀ W0 H0 W σ H ρ E Q,SOk X.K W0 H0 W σ H ρ→EOk X.K W0 H0 E EX→wa E ρ (RQ X.K W H Q)→ta σ H Q) (kb:∀ W0 H0 W σ H ρ E Q,SOk X.K W0 H0 W σ H ρ→EOk X.K W0 H0 E EX→wb E ρ (RQ X.K W H Q)→tb σ H Q)
    (s:SOk X.K W0 H0 W σ H ρ) (eo:EOk X.K W0 H0 E EX) (h:wa E ρ fun x=>wb E ρ fun y=>G x y)
    (k:∀ W2 H2 x y dx dy,Ext W H W2 H2→Rep X.K W2 x dx→Rep X.K W2 y dy→G dx dy→R x y H2):ta σ H fun x H1=>tb σ H1 fun y H2=>R x y H2:=
  ka W0 H0 W σ H ρ E _ s eo (hma E ρ _ _ (fun dx hx v W1 H1 x1 r1=>kb W0 H0 W1 σ H1 ρ E _ (s.step x1) eo (hmb E ρ _ _ (fun dy hy u W2 H2 x2 r2=>k W2 H2 v u dx dy (x1.trans x2) (x2.rep r1) r2 hy) hx)) h)
theorem Zao {op:Operator} {g:G2} (ho:OpP X (binaryOp op) g) (ha:PX X EX a wa) (hb:PX X EX b wb):PX X EX (.BinOp a op b pos) (w2 g wa wb):=by
  obtain ⟨ta,pa,ka⟩:=ha.t
  obtain ⟨tb,pb,kb⟩:=hb.t
  obtain ⟨r,pr,kr⟩:=ho.t
  refine ⟨⟨_,pe_op pr pa pb,fun W0 H0 W σ H ρ E Q s eo h=>?_⟩,w2.mono ha hb ho.mono⟩
  exact seq2 ha.mono hb.mono ka kb s eo h fun W2 H2 x y dx dy x2 rx ry hg=>kr W2 H2 x y dx dy Q x2.ok rx ry (ho.mono _ _ _ _ (fun d hd=>RQ.ext hd x2) hg)
theorem Zd1 {op:CmpOp} {g:G2} (ho:OpP X (compareOp op) g) (ha:PX X EX a wa) (hb:PX X EX b wb) (hm:behindInMarks op b=false:=by first | exact nomark _ | with_unfolding_all rfl):PX X EX (.Compare a [op] [b] pos) (w2 g wa wb):=by
  obtain ⟨ta,pa,ka⟩:=ha.t
  obtain ⟨tb,pb,kb⟩:=hb.t
  obtain ⟨r,pr,kr⟩:=ho.t
  refine ⟨⟨_,pe_cmpR pr pa pb hm,fun W0 H0 W σ H ρ E Q s eo h=>?_⟩,w2.mono ha hb ho.mono⟩
  exact seq2 ha.mono hb.mono ka kb s eo h fun W2 H2 x y dx dy x2 rx ry hg=>kr W2 H2 x y dx dy Q x2.ok rx ry (ho.mono _ _ _ _ (fun d hd=>RQ.ext hd x2) hg)
def isB (Q:Bool→Prop):D→Prop
  | .bl b=>Q b
  | _=>False
theorem isB.mono {Q Q':Bool→Prop} (h:∀ b,Q b→Q' b):∀ d,isB Q d→isB Q' d
  | .bl b,z=>h b z
  | .non,z=>z | .int _,z=>z | .str _,z=>z | .tup _,z=>z | .lst _,z=>z | .dic,z=>z | .pen,z=>z | .cls _,z=>z | .exc _,z=>z | .ty _,z=>z | .scr _,z=>z
def wT (w:WE):WT:=fun E ρ Q=>w E ρ (isB Q)
theorem Zei {Q:Bool→Prop} {d:D} (h:isB Q d):∃ b,d = .bl b∧Q b:=by
  cases d with
  | bl b=>exact ⟨b,rfl,h⟩
  | _=>exact h.elim
theorem wT.mono {w:WE} (h:∀ E ρ P P',(∀ d,P d→P' d)→w E ρ P→w E ρ P'):∀ E ρ P P',(∀ d,P d→P' d)→wT w E ρ P→wT w E ρ P':=fun E ρ _ _ hp z=>h E ρ _ _ (isB.mono hp) z
theorem Zas {op:CmpOp} {g:G2} (ho:OpP X (compareOp op) g) (ha:PX X EX a wa) (hb:PX X EX b wb) (hm:behindInMarks op b=false:=by first | exact nomark _ | with_unfolding_all rfl):PXT X EX (.Compare a [op] [b] pos) (wT (w2 g wa wb)):=by
  obtain ⟨ta,pa,ka⟩:=ha.t
  obtain ⟨tb,pb,kb⟩:=hb.t
  obtain ⟨r,pr,kr⟩:=ho.t
  refine ⟨⟨_,pt_cmpR pr pa pb hm,fun W0 H0 W σ H ρ E Q s eo h=>?_⟩,wT.mono (w2.mono ha hb ho.mono)⟩
  refine seq2 ha.mono hb.mono ka kb s eo h fun W2 H2 x y dx dy x2 rx ry hg=>kr W2 H2 x y dx dy _ x2.ok rx ry (ho.mono _ _ _ _ (fun d hd v W' H' x' r'=>?_) hg)
  obtain ⟨b,rfl,q⟩:=Zei hd
  cases r'
  exact ⟨b,rfl,q W' H' (x2.trans x')⟩
theorem ZaY (ha:PX X EX a wa) (he:∀ whole,isTrue a X.env whole=(do let v ← whole;standAt a.pos;holding [v] (truthy v)):=by intro _;rfl):PXT X EX a (wT wa):=by
  obtain ⟨ta,pa,ka⟩:=ha.t
  refine ⟨⟨_,pt_truth pa he,fun W0 H0 W σ H ρ E Q s eo h=>?_⟩,wT.mono ha.mono⟩
  refine ka W0 H0 W σ H ρ E _ s eo (ha.mono _ _ _ _ (fun d hd v W' H' x' r'=>?_) h)
  obtain ⟨b,rfl,q⟩:=Zei hd
  cases r'
  exact ⟨b,rfl,q W' H' x'⟩
def wNot (w:WT):WT:=fun E ρ Q=>w E ρ fun b=>Q (!b)
theorem ZaP {w:WT} (ha:PXT X EX a w):PXT X EX (.UnaryOp .Not a pos) (wNot w):=by
  obtain ⟨ta,pa,ka⟩:=ha.t
  refine ⟨⟨_,pt_not pa,fun W0 H0 W σ H ρ E Q s eo h=>?_⟩,fun E ρ P P' hp h=>ha.mono _ _ _ _ (fun b hb=>hp _ hb) h⟩
  exact ka W0 H0 W σ H ρ E _ s eo h
structure PXW (X:Cx) (EX:XK) (e:Expr) (w:WT):Prop where
  t:∃ t,PW X e t∧∀ W0 H0 W σ H ρ E Q,SOk X.K W0 H0 W σ H ρ→EOk X.K W0 H0 E EX→w E ρ (fun b=>∀ W' H',Ext W H W' H'→Q b H')→t σ H Q
  mono:∀ E ρ P P',(∀ d,P d→P' d)→w E ρ P→w E ρ P'
theorem PXW.pxt {w:WT} (h:PXW X EX a w):PXT X EX a w:=let ⟨t,p,k⟩:=h.t;⟨⟨t,p.pt,k⟩,h.mono⟩
variable {rest:List Expr}
def wAnd (w w':WT):WT:=fun E ρ Q=>w E ρ fun b=>if b=true then w' E ρ Q else Q false
def wOr (w w':WT):WT:=fun E ρ Q=>w E ρ fun b=>if b=true then Q true else w' E ρ Q
theorem Zfh {w:WT} (ha:PXT X EX a w):PXW X EX (.BoolOp .And [a] pos) w:=let ⟨t,p,k⟩:=ha.t;⟨⟨t,pw_and1 p,k⟩,ha.mono⟩
theorem Zc5 {w:WT} (ha:PXT X EX a w):PXW X EX (.BoolOp .Or [a] pos) w:=let ⟨t,p,k⟩:=ha.t;⟨⟨t,pw_or1 p,k⟩,ha.mono⟩
theorem Zfy {w w':WT} (ha:PXT X EX a w) (hb:PXW X EX (.BoolOp .And (b::rest) pos) w'):PXW X EX (.BoolOp .And (a::b::rest) pos) (wAnd w w'):=by
  obtain ⟨ta,pa,ka⟩:=ha.t
  obtain ⟨tb,pb,kb⟩:=hb.t
  refine ⟨⟨_,pw_and pa pb,fun W0 H0 W σ H ρ E Q s eo h=>?_⟩,fun E ρ P P' hp h=>ha.mono _ _ _ _ (fun b hb'=>?_) h⟩
  · refine ka W0 H0 W σ H ρ E _ s eo (ha.mono _ _ _ _ (fun b hb' W1 H1 x1=>?_) h)
    cases b with
    | true=>
      rw [if_pos rfl] at hb' ⊢
      exact kb W0 H0 W1 σ H1 ρ E _ (s.step x1) eo (hb.mono _ _ _ _ (fun b hq W' H' x'=>hq W' H' (x1.trans x')) hb')
    | false=>rw [if_neg (by decide)] at hb' ⊢;exact hb' W1 H1 x1
  · cases b with
    | true=>rw [if_pos rfl] at hb' ⊢;exact hb.mono _ _ _ _ hp hb'
    | false=>rw [if_neg (by decide)] at hb' ⊢;exact hp _ hb'
theorem Zd0 {w w':WT} (ha:PXT X EX a w) (hb:PXW X EX (.BoolOp .Or (b::rest) pos) w'):PXW X EX (.BoolOp .Or (a::b::rest) pos) (wOr w w'):=by
  obtain ⟨ta,pa,ka⟩:=ha.t
  obtain ⟨tb,pb,kb⟩:=hb.t
  refine ⟨⟨_,pw_or pa pb,fun W0 H0 W σ H ρ E Q s eo h=>?_⟩,fun E ρ P P' hp h=>ha.mono _ _ _ _ (fun b hb'=>?_) h⟩
  · refine ka W0 H0 W σ H ρ E _ s eo (ha.mono _ _ _ _ (fun b hb' W1 H1 x1=>?_) h)
    cases b with
    | true=>rw [if_pos rfl] at hb' ⊢;exact hb' W1 H1 x1
    | false=>
      rw [if_neg (by decide)] at hb' ⊢
      exact kb W0 H0 W1 σ H1 ρ E _ (s.step x1) eo (hb.mono _ _ _ _ (fun b hq W' H' x'=>hq W' H' (x1.trans x')) hb')
  · cases b with
    | true=>rw [if_pos rfl] at hb' ⊢;exact hp _ hb'
    | false=>rw [if_neg (by decide)] at hb' ⊢;exact hb.mono _ _ _ _ hp hb'
end
section
variable {X:Cx} {EX:XK} {pos p:Pos} {a b c:Expr} {wa wb wc:WE} {rest es:List Expr} {e:Expr} {x:Str}
def Zb7 (wa wb:WE):WE:=fun E ρ Q=>wa E ρ (isB fun b=>if b=true then wb E ρ Q else Q (.bl false))
def wOrV (wa wb:WE):WE:=fun E ρ Q=>wa E ρ (isB fun b=>if b=true then Q (.bl true) else wb E ρ Q)
def Zcr (wa:WE):WE:=fun E ρ Q=>wa E ρ (isB fun b=>Q (.bl (!b)))
theorem px_one {op} (h:PX X EX a wa):PX X EX (.BoolOp op [a] pos) wa:=let ⟨t,q,k⟩:=h.t;⟨⟨t,pe_one q,k⟩,h.mono⟩
theorem px_and (ha:PX X EX a wa) (hb:PX X EX (.BoolOp .And (b::rest) pos) wb):PX X EX (.BoolOp .And (a::b::rest) pos) (Zb7 wa wb):=by
  obtain ⟨ta,pa,ka⟩:=ha.t
  obtain ⟨tb,pb,kb⟩:=hb.t
  refine ⟨⟨_,pe_and pa pb,fun W0 H0 W σ H ρ E Q s eo h=>?_⟩,fun E ρ P P' hp h=>ha.mono _ _ _ _ (isB.mono fun b hb'=>?_) h⟩
  · refine ka W0 H0 W σ H ρ E _ s eo (ha.mono _ _ _ _ (fun d hd v W1 H1 x1 r1=>?_) h)
    obtain ⟨b,rfl,q⟩:=Zei hd
    cases r1
    refine ⟨b,rfl,?_⟩
    cases b with
    | true=>rw [if_pos rfl] at q ⊢;exact kb W0 H0 W1 σ H1 ρ E _ (s.step x1) eo (hb.mono _ _ _ _ (fun d hd=>RQ.ext hd x1) q)
    | false=>rw [if_neg (by decide)] at q ⊢;exact q _ W1 H1 x1 (.bl false)
  · cases b with
    | true=>rw [if_pos rfl] at hb' ⊢;exact hb.mono _ _ _ _ hp hb'
    | false=>rw [if_neg (by decide)] at hb' ⊢;exact hp _ hb'
theorem px_not (ha:PX X EX a wa):PX X EX (.UnaryOp .Not a pos) (Zcr wa):=by
  obtain ⟨ta,pa,ka⟩:=ha.t
  refine ⟨⟨_,pe_not pa,fun W0 H0 W σ H ρ E Q s eo h=>?_⟩,fun E ρ P P' hp h=>ha.mono _ _ _ _ (isB.mono fun b hb'=>hp _ hb') h⟩
  refine ka W0 H0 W σ H ρ E _ s eo (ha.mono _ _ _ _ (fun d hd v W1 H1 x1 r1=>?_) h)
  obtain ⟨b,rfl,q⟩:=Zei hd
  cases r1
  exact ⟨b,rfl,q _ W1 H1 x1 (.bl _)⟩
def wIf (wt:WT) (wa wb:WE):WE:=fun E ρ Q=>wt E ρ fun b=>if b=true then wa E ρ Q else wb E ρ Q
def ZaA (g g':G2) (wa wb wc:WE):WE:=fun E ρ Q=>wa E ρ fun x=>wb E ρ fun y=>g x y (isB fun k=>if k=true then wc E ρ fun z=>g' y z Q else Q (.bl false))
theorem ZaA.mono {g g':G2} (ha:PX X EX a wa) (hb:PX X EX b wb) (hc:PX X EX c wc) (hg:∀ x y P P',(∀ d,P d→P' d)→g x y P→g x y P') (hg':∀ x y P P',(∀ d,P d→P' d)→g' x y P→g' x y P') :
    ∀ E ρ P P',(∀ d,P d→P' d)→ZaA g g' wa wb wc E ρ P→ZaA g g' wa wb wc E ρ P':=fun E ρ P P' hp h=>
  ha.mono _ _ _ _ (fun x hx=>hb.mono _ _ _ _ (fun y hy=>hg x y _ _ (isB.mono fun k hk=>by
    cases k with
    | true=>rw [if_pos rfl] at hk ⊢;exact hc.mono _ _ _ _ (fun z hz=>hg' y z _ _ hp hz) hk
    | false=>rw [if_neg (by decide)] at hk ⊢;exact hp _ hk) hy) hx) h
theorem px_chain {op op':CmpOp} {g g':G2} (ho:OpP X (compareOp op) g) (ho':OpP X (compareOp op') g') (ha:PX X EX a wa) (hb:PX X EX b wb) (hc:PX X EX c wc)
    (hm:lastMarks [op,op'] [b,c]=false:=by with_unfolding_all rfl):PX X EX (.Compare a [op,op'] [b,c] pos) (ZaA g g' wa wb wc):=by
  obtain ⟨ta,pa,ka⟩:=ha.t
  obtain ⟨tb,pb,kb⟩:=hb.t
  obtain ⟨tc,pc,kc⟩:=hc.t
  obtain ⟨r,pr,kr⟩:=ho.t
  obtain ⟨r',pr',kr'⟩:=ho'.t
  refine ⟨⟨_,pe_chain pr pr' pa pb pc hm,fun W0 H0 W σ H ρ E Q s eo h=>?_⟩,ZaA.mono ha hb hc ho.mono ho'.mono⟩
  refine seq2 ha.mono hb.mono ka kb s eo h fun W2 H2 x y dx dy x2 rx ry hg=>kr W2 H2 x y dx dy _ x2.ok rx ry (ho.mono _ _ _ _ (fun d hd v W3 H3 x3 r3=>?_) hg)
  obtain ⟨k,rfl,q⟩:=Zei hd
  cases r3
  refine ⟨k,rfl,?_⟩
  cases k with
  | true=>
    rw [if_pos rfl] at q ⊢
    refine kc W0 H0 W3 σ H3 ρ E _ (s.step (x2.trans x3)) eo (hc.mono _ _ _ _ (fun dz hz w W4 H4 x4 r4=>?_) q)
    exact kr' W4 H4 y w dy dz Q x4.ok (x4.rep (x3.rep ry)) r4 (ho'.mono _ _ _ _ (fun d hd=>RQ.ext hd (x2.trans (x3.trans x4))) hz)
  | false=>rw [if_neg (by decide)] at q ⊢;exact q _ W3 H3 (x2.trans x3) (.bl false)
theorem ZdM {op op':CmpOp} {g g':G2} (ho:OpP X (compareOp op) g) (ho':OpP X (compareOp op') g') (ha:PX X EX a wa) (hb:PX X EX b wb) (hc:PX X EX c wc)
    (hm:lastMarks [op,op'] [b,c]=false:=by with_unfolding_all rfl):PXT X EX (.Compare a [op,op'] [b,c] pos) (wT (ZaA g g' wa wb wc)):=by
  obtain ⟨ta,pa,ka⟩:=ha.t
  obtain ⟨tb,pb,kb⟩:=hb.t
  obtain ⟨tc,pc,kc⟩:=hc.t
  obtain ⟨r,pr,kr⟩:=ho.t
  obtain ⟨r',pr',kr'⟩:=ho'.t
  refine ⟨⟨_,pt_chain pr pr' pa pb pc hm,fun W0 H0 W σ H ρ E Q s eo h=>?_⟩,wT.mono (ZaA.mono ha hb hc ho.mono ho'.mono)⟩
  refine seq2 ha.mono hb.mono ka kb s eo h fun W2 H2 x y dx dy x2 rx ry hg=>kr W2 H2 x y dx dy _ x2.ok rx ry (ho.mono _ _ _ _ (fun d hd v W3 H3 x3 r3=>?_) hg)
  obtain ⟨k,rfl,q⟩:=Zei hd
  cases r3
  refine ⟨k,rfl,?_⟩
  cases k with
  | true=>
    rw [if_pos rfl] at q ⊢
    refine kc W0 H0 W3 σ H3 ρ E _ (s.step (x2.trans x3)) eo (hc.mono _ _ _ _ (fun dz hz w W4 H4 x4 r4=>?_) q)
    refine kr' W4 H4 y w dy dz _ x4.ok (x4.rep (x3.rep ry)) r4 (ho'.mono _ _ _ _ (fun d hd v5 W5 H5 x5 r5=>?_) hz)
    obtain ⟨b,rfl,q'⟩:=Zei hd
    cases r5
    exact ⟨b,rfl,q' W5 H5 (x2.trans (x3.trans (x4.trans x5)))⟩
  | false=>rw [if_neg (by decide)] at q ⊢;exact ⟨false,rfl,q W3 H3 (x2.trans x3)⟩
def aNil:WA:=fun _ _ Q=>Q []
def Zab (w:WE) (t:WA):WA:=fun E ρ Q=>w E ρ fun x=>t E ρ fun xs=>Q (x::xs)
theorem Zaa:PXA X EX [] aNil:=⟨⟨_,pa_nil,fun _ _ W _ H _ _ _ s _ h=>h [] W H (.refl s.ok) .nil⟩,fun _ _ _ _ hp h=>hp _ h⟩
theorem Za {w:WE} {t:WA} (ha:PX X EX e w) (hr:PXA X EX es t) (hs:starEach (e::es) X.env=(false,eval e X.env)::starEach es X.env:=by rfl):PXA X EX (e::es) (Zab w t):=by
  obtain ⟨ta,pa,ka⟩:=ha.t
  obtain ⟨tr,pr,kr⟩:=hr.t
  refine ⟨⟨_,pa_cons pa pr hs,fun W0 H0 W σ H ρ E Q s eo h=>?_⟩,fun E ρ P P' hp h=>ha.mono _ _ _ _ (fun d hd=>hr.mono _ _ _ _ (fun ds hds=>hp _ hds) hd) h⟩
  refine ka W0 H0 W σ H ρ E _ s eo (ha.mono _ _ _ _ (fun d hd v W1 H1 x1 r1=>?_) h)
  exact kr W0 H0 W1 σ H1 ρ E _ (s.step x1) eo (hr.mono _ _ _ _ (fun ds hds vs W2 H2 x2 r2=>hds _ W2 H2 (x1.trans x2) (.cons (x2.rep r1) r2)) hd)
def small:Nat:=10000
theorem ZaV {n:Nat} (h:n≤small):n≤sizeLine:=Nat.le_trans h (by rw [sizeLine_eq];decide)
def wTup (t:WA):WE:=fun E ρ Q=>t E ρ fun xs=>xs.length≤small∧Q (.tup xs)
def aLst (t:WA):WA:=fun E ρ Q=>t E ρ fun xs=>xs.length≤small∧Q xs
theorem Zda {t:WA} {x1} (h:PXA X EX es t):PX X EX (.Tuple es x1 pos) (wTup t):=by
  obtain ⟨ta,pa,ka⟩:=h.t
  refine ⟨⟨_,pe_tup pa,fun W0 H0 W σ H ρ E Q s eo hw=>?_⟩,fun E ρ P P' hp z=>h.mono _ _ _ _ (fun ds hds=>⟨hds.1,hp _ hds.2⟩) z⟩
  refine ka W0 H0 W σ H ρ E _ s eo (h.mono _ _ _ _ (fun ds hds vs W1 H1 x1 r1=>?_) hw)
  refine ⟨by rw [r1.length];exact ZaV hds.1,fun q hq=>?_⟩
  exact (RQ.ext hds.2 x1).tup x1.ok r1 hq
theorem Zct {t:WA} (h:PXA X EX es t):PXL X EX (.List es pos) (aLst t):=by
  obtain ⟨ta,pa,ka⟩:=h.t
  refine ⟨⟨_,pe_lst pa,fun W0 H0 W σ H ρ E Q s eo hw=>?_⟩,fun E ρ P P' hp z=>h.mono _ _ _ _ (fun ds hds=>⟨hds.1,hp _ hds.2⟩) z⟩
  refine ka W0 H0 W σ H ρ E _ s eo (h.mono _ _ _ _ (fun ds hds vs W1 H1 x1 r1=>?_) hw)
  refine ⟨by rw [r1.length];exact ZaV hds.1,fun q hq=>?_⟩
  exact hds.2 q vs W1 _ (x1.trans (.new x1.ok hq)) upd_same (x1.ok.fresh hq).1 (x1.ok.fresh hq).2 (x1.isN hq) r1
def wL (t:WA):WE:=fun E ρ Q=>t E ρ fun ds=>Q (.lst ds)
theorem PXL.px {t:WA} (h:PXL X EX e t):PX X EX e (wL t):=by
  obtain ⟨ta,pa,ka⟩:=h.t
  refine ⟨⟨_,pa,fun W0 H0 W σ H ρ E Q s eo hw=>?_⟩,fun E ρ P P' hp z=>h.mono _ _ _ _ (fun ds hds=>hp _ hds) z⟩
  refine ka W0 H0 W σ H ρ E _ s eo (h.mono _ _ _ _ (fun ds hds a vs W1 H1 x1 e1 e2 e3 e4 r1=>?_) hw)
  refine hds _ _ _ (x1.pub e4 e1 e3 e2) (.lst (by unfold Wd.put;dsimp only;rw [upd_same]) (r1.mono (Zcm e2) fun _ z=>z))
structure CallP (X:Cx) (f:Value) (g:List D→(D→Prop)→Prop):Prop where
  t:∃ r,CallR X f r∧∀ W H vs ds Q,WOk W H→Reps X.K W vs ds→g ds (RQ X.K W H Q)→r vs H Q
  mono:∀ ds P P',(∀ d,P d→P' d)→g ds P→g ds P'
structure CallL (X:Cx) (f:Value) (g:List D→(List D→Prop)→Prop):Prop where
  t:∃ r,CallR X f r∧∀ W H vs ds Q,WOk W H→Reps X.K W vs ds→g ds (fun es=>∀ a us,H a=none→Reps X.K W us es→Q (.ref a) (upd H a (.lst us)))→r vs H Q
  mono:∀ ds P P',(∀ d,P d→P' d)→g ds P→g ds P'
def wB (g:List D→(D→Prop)→Prop) (t:WA):WE:=fun E ρ Q=>t E ρ fun ds=>g ds Q
def aB (g:List D→(List D→Prop)→Prop) (t:WA):WA:=fun E ρ Q=>t E ρ fun ds=>g ds Q
variable {id T:String} {t:WA}
theorem Zal {g:List D→(D→Prop)→Prop} (hc:CallP X (.builtin id) g) (hm:X.mg x=none) (hv:bootBuiltins x=some (.builtin id)) (ha:PXA X EX (e::es) t) (hg:Gl X x:=by rfl) (hn:x≠ "__name__" :=by decide) (hdb:(x == ("__debug__" : Str))=false:=by decide)
    (he:starEach (e::es) X.env=(false,eval e X.env)::starEach es X.env:=by rfl) (hpl:(backTo pos (starEach es X.env)).any (·.1)=false:=by rfl):PX X EX (.Call (.Name x p) (e::es) [] pos) (wB g t):=by
  obtain ⟨ta,pa,ka⟩:=ha.t
  obtain ⟨r,pr,kr⟩:=hc.t
  refine ⟨⟨_,pe_callB pr hg hm hv pa hn hdb he hpl,fun W0 H0 W σ H ρ E Q s eo h=>?_⟩,fun E ρ P P' hp z=>ha.mono _ _ _ _ (fun ds hds=>hc.mono _ _ _ hp hds) z⟩
  exact ka W0 H0 W σ H ρ E _ s eo (ha.mono _ _ _ _ (fun ds hds vs W1 H1 x1 r1=>kr W1 H1 vs ds Q x1.ok r1 (hc.mono _ _ _ (fun d hd=>RQ.ext hd x1) hds)) h)
theorem Zcb {g:List D→(D→Prop)→Prop} (hc:CallP X (.type T) g) (hm:X.mg x=none) (hv:bootBuiltins x=some (.type T)) (ha:PXA X EX (e::es) t) (hg:Gl X x:=by rfl) (hn:x≠ "__name__" :=by decide) (hdb:(x == ("__debug__" : Str))=false:=by decide)
    (he:starEach (e::es) X.env=(false,eval e X.env)::starEach es X.env:=by rfl) (hpl:(backTo pos (starEach es X.env)).any (·.1)=false:=by rfl):PX X EX (.Call (.Name x p) (e::es) [] pos) (wB g t):=by
  obtain ⟨ta,pa,ka⟩:=ha.t
  obtain ⟨r,pr,kr⟩:=hc.t
  refine ⟨⟨_,pe_callTy pr hg hm hv pa hn hdb he hpl,fun W0 H0 W σ H ρ E Q s eo h=>?_⟩,fun E ρ P P' hp z=>ha.mono _ _ _ _ (fun ds hds=>hc.mono _ _ _ hp hds) z⟩
  exact ka W0 H0 W σ H ρ E _ s eo (ha.mono _ _ _ _ (fun ds hds vs W1 H1 x1 r1=>kr W1 H1 vs ds Q x1.ok r1 (hc.mono _ _ _ (fun d hd=>RQ.ext hd x1) hds)) h)
theorem Zfz {g:List D→(List D→Prop)→Prop} (hc:CallL X (.type T) g) (hm:X.mg x=none) (hv:bootBuiltins x=some (.type T)) (ha:PXA X EX (e::es) t) (hg:Gl X x:=by rfl) (hn:x≠ "__name__" :=by decide) (hdb:(x == ("__debug__" : Str))=false:=by decide)
    (he:starEach (e::es) X.env=(false,eval e X.env)::starEach es X.env:=by rfl) (hpl:(backTo pos (starEach es X.env)).any (·.1)=false:=by rfl):PXL X EX (.Call (.Name x p) (e::es) [] pos) (aB g t):=by
  obtain ⟨ta,pa,ka⟩:=ha.t
  obtain ⟨r,pr,kr⟩:=hc.t
  refine ⟨⟨_,pe_callTy pr hg hm hv pa hn hdb he hpl,fun W0 H0 W σ H ρ E Q s eo h=>?_⟩,fun E ρ P P' hp z=>ha.mono _ _ _ _ (fun ds hds=>hc.mono _ _ _ hp hds) z⟩
  refine ka W0 H0 W σ H ρ E _ s eo (ha.mono _ _ _ _ (fun ds hds vs W1 H1 x1 r1=>kr W1 H1 vs ds Q x1.ok r1 (hc.mono _ _ _ (fun es' hd a us hn' r2=>?_) hds)) h)
  exact hd a us W1 _ (x1.trans (.new x1.ok hn')) upd_same (x1.ok.fresh hn').1 (x1.ok.fresh hn').2 (x1.isN hn') r2
abbrev Zaq:=List D→(Ex→Prop)→(D→Prop)→Prop
def PMono (S:Zaq):Prop:=∀ ds E E' Q Q',(∀ ex,E ex→E' ex)→(∀ d,Q d→Q' d)→S ds E Q→S ds E' Q'
def spOf (K:PySem.W.Frag) (S:Zaq):Sp:=fun vs H Q EX=>∃ ds W,WOk W H∧Reps K W vs ds∧S ds (fun ex=>∀ W' H' cls dx,Ext W H W' H'→ExRep K W' H' cls dx ex→EX cls dx H') (RQ K W H Q)
def wF (S:Zaq) (t:WA):WE:=fun E ρ Q=>t E ρ fun ds=>S ds E Q
theorem px_call {CX:CXT} {k:Nat} {f:Addr} {fd:FuncData} {ps:List Str} {S:Zaq} (F:FnOk X.prog X.w X.K X.mg X.base CX k f fd ps (spOf X.K S)) (hS:PMono S) (hr:Room k X.A) (hm:X.mg x=some (.ref f)) (hk:PySem.W.keepIn X.K (.ref f)=true) (hb:Binds X.K fd ps [])
    (hx:Passes CX X EX) (ha:PXA X EX (e::es) t) (hg:Gl X x:=by rfl) (hdb:(x == ("__debug__" : Str))=false:=by decide) (he:starEach (e::es) X.env=(false,eval e X.env)::starEach es X.env:=by rfl) (hpl:(backTo pos (starEach es X.env)).any (·.1)=false:=by rfl) :
    PX X EX (.Call (.Name x p) (e::es) [] pos) (wF S t):=by
  obtain ⟨ta,pa,ka⟩:=ha.t
  refine ⟨⟨_,pe_call F hr hg hm hk hb .nil hx pa hdb he hpl,fun W0 H0 W σ H ρ E Q s eo h=>?_⟩,fun E ρ P P' hp z=>ha.mono _ _ _ _ (fun ds hds=>hS _ _ _ _ _ (fun _ q=>q) hp hds) z⟩
  refine ka W0 H0 W σ H ρ E _ s eo (ha.mono _ _ _ _ (fun ds hds vs W1 H1 x1 r1=>?_) h)
  refine ⟨ds,W1,x1.ok,by rw [List.append_nil];exact r1,hS _ _ _ _ _ (fun ex hex W' H' cls dx x' r'=>?_) (fun d hd=>RQ.ext hd x1) hds⟩
  exact eo ex W' H' cls dx hex (s.ext.trans (x1.trans x')) r'
structure IxP (X:Cx) (g:G2):Prop where
  t:∃ r,IxR X r∧∀ W H x y dx dy Q,WOk W H→Rep X.K W x dx→Rep X.K W y dy→g dx dy (RQ X.K W H Q)→r x y H Q
  mono:∀ x y P P',(∀ d,P d→P' d)→g x y P→g x y P'
theorem ZaJ {g:G2} (ho:IxP X g) (ha:PX X EX a wa) (hb:PX X EX b wb) (hs:PlainIx b:=by exact fun _ _=>rfl):PX X EX (.Subscript a b pos) (w2 g wa wb):=by
  obtain ⟨ta,pa,ka⟩:=ha.t
  obtain ⟨tb,pb,kb⟩:=hb.t
  obtain ⟨r,pr,kr⟩:=ho.t
  refine ⟨⟨_,pe_ix pr pa pb hs,fun W0 H0 W σ H ρ E Q s eo h=>?_⟩,w2.mono ha hb ho.mono⟩
  exact seq2 ha.mono hb.mono ka kb s eo h fun W2 H2 x y dx dy x2 rx ry hg=>kr W2 H2 x y dx dy Q x2.ok rx ry (ho.mono _ _ _ _ (fun d hd=>RQ.ext hd x2) hg)
structure UnP (X:Cx) (f:Value→Sem Value) (g:D→(D→Prop)→Prop):Prop where
  t:∃ r,UnR X f r∧∀ W H x dx Q,WOk W H→Rep X.K W x dx→g dx (RQ X.K W H Q)→r x H Q
  mono:∀ x P P',(∀ d,P d→P' d)→g x P→g x P'
def w1 (g:D→(D→Prop)→Prop) (wa:WE):WE:=fun E ρ Q=>wa E ρ fun x=>g x Q
theorem px_un {op:UnaryOp} {g:D→(D→Prop)→Prop} (ho:UnP X (unaryOp op) g) (ha:PX X EX a wa):PX X EX (.UnaryOp op a pos) (w1 g wa):=by
  obtain ⟨ta,pa,ka⟩:=ha.t
  obtain ⟨r,pr,kr⟩:=ho.t
  refine ⟨⟨_,pe_un pr pa,fun W0 H0 W σ H ρ E Q s eo h=>?_⟩,fun E ρ P P' hp z=>ha.mono _ _ _ _ (fun d hd=>ho.mono _ _ _ hp hd) z⟩
  exact ka W0 H0 W σ H ρ E _ s eo (ha.mono _ _ _ _ (fun d hd v W1 H1 x1 r1=>kr W1 H1 v d Q x1.ok r1 (ho.mono _ _ _ (fun d hd=>RQ.ext hd x1) hd)) h)
structure PXO (X:Cx) (EX:XK) (e:Option Expr) (w:(Ex→Prop)→Rho→(Option Int→Prop)→Prop):Prop where
  t:∃ t,PO X e t∧∀ W0 H0 W σ H ρ E Q,SOk X.K W0 H0 W σ H ρ→EOk X.K W0 H0 E EX→w E ρ (fun o=>∀ W' H',Ext W H W' H'→Q o H')→t σ H Q
  mono:∀ E ρ P P',(∀ d,P d→P' d)→w E ρ P→w E ρ P'
def isI (Q:Int→Prop):D→Prop
  | .int i=>Q i
  | _=>False
theorem isI.mono {Q Q':Int→Prop} (h:∀ b,Q b→Q' b):∀ d,isI Q d→isI Q' d
  | .int b,z=>h b z
  | .non,z=>z | .bl _,z=>z | .str _,z=>z | .tup _,z=>z | .lst _,z=>z | .dic,z=>z | .pen,z=>z | .cls _,z=>z | .exc _,z=>z | .ty _,z=>z | .scr _,z=>z
theorem Zeh {Q:Int→Prop} {d:D} (h:isI Q d):∃ b,d = .int b∧Q b:=by
  cases d with
  | int b=>exact ⟨b,rfl,h⟩
  | _=>exact h.elim
def Zbt:(Ex→Prop)→Rho→(Option Int→Prop)→Prop:=fun _ _ Q=>Q none
def ZaL (w:WE):(Ex→Prop)→Rho→(Option Int→Prop)→Prop:=fun E ρ Q=>w E ρ (isI fun i=>Q (some i))
theorem Zc:PXO X EX none Zbt:=⟨⟨_,po_none,fun _ _ W _ H _ _ _ s _ h=>h W H (.refl s.ok)⟩,fun _ _ _ _ hp h=>hp _ h⟩
theorem ZaK (ha:PX X EX a wa):PXO X EX (some a) (ZaL wa):=by
  obtain ⟨ta,pa,ka⟩:=ha.t
  refine ⟨⟨_,po_some pa,fun W0 H0 W σ H ρ E Q s eo h=>?_⟩,fun E ρ P P' hp z=>ha.mono _ _ _ _ (isI.mono fun i hi=>hp _ hi) z⟩
  refine ka W0 H0 W σ H ρ E _ s eo (ha.mono _ _ _ _ (fun d hd v W1 H1 x1 r1=>?_) h)
  obtain ⟨i,rfl,q⟩:=Zeh hd
  cases r1
  exact ⟨i,rfl,q W1 H1 x1⟩
def cutD {α:Type} (xs:List α) (lo hi:Option Int):List α:=(xs.drop (HT.sIx xs.length 0 lo)).take (HT.sIx xs.length xs.length hi - HT.sIx xs.length 0 lo)
def gCut (x:D) (lo hi:Option Int) (Q:D→Prop):Prop:=match x with
  | .tup xs=>Q (.tup (cutD xs lo hi))
  | .lst xs=>Q (.lst (cutD xs lo hi))
  | .scr xs=>Q (.lst (cutD xs lo hi))
  | _=>False
end
end LP
namespace HT
open PySem PySem.Spec PyProof.Rows
section
variable {prog:Program} {w:World} {A:Around} {E:Value→Shared→Prop} {s:Shared}
theorem getItem_tuple_whole {t sl:Addr} {items:Array Value} {vl vu:Value} {lo hi:Option Int} {Q:Value→Shared→Prop} (ht:IsTup s.heap t items) (hs:s.heap.IsSliceOf sl vl vu .none) (pl:IsPart vl lo) (pu:IsPart vu hi)
    (hw:sIx items.size 0 lo=0∧sIx items.size items.size hi=items.size) (h:Q (.ref t) s):wpAny (model prog w) A (getItem (.ref t) (.ref sl)) Q E s:=by
  obtain ⟨os,hos,hcs,hds⟩:=id hs
  have hTs:s.TypeIs (.ref sl) "slice" :=⟨os,hos,hcs⟩
  unfold getItem
  try with_reducible refine wpAny_holding ?_
  first | refine wpAny_bind (wpAny_pure ?_) | skip
  refine wpAny_bind (wpAny_sequenceKey ht.typeIs (by decide) ?_)
  refine wpAny_bind (wpAny_callSpecial?_slot (name:=Str.ofString "__getitem__") ht.typeIs PyProof.Rows.slot_tuple_getitem
    (wpAny_call_entry PyProof.Rows.slot_tuple_getitem ht.typeIs entry_tuple_getitem ?_ (args_tuple_getitem _ _)))
  show wpAny _ _ (Builtin.Tuple.tupleItemsOf (.ref t) >>= _) _ _ s
  refine wpAny_bind (tupleItemsOf_ ht ?_)
  refine wpAny_bind (wpAny_typeOf hTs ?_)
  rw [if_pos (by decide)]
  refine wpAny_bind (sliceApplied_gen hs pl pu ?_)
  have hyes:(((sIx items.size 0 lo:Nat):Int) == 0 && (1:Int) == 1 && (sIx items.size items.size hi - sIx items.size 0 lo) == items.size)=true:=by
    rw [hw.1,hw.2]
    simp
  show wpAny _ _ (if (((sIx items.size 0 lo:Nat):Int) == 0 && (1:Int) == 1 && (sIx items.size items.size hi - sIx items.size 0 lo) == items.size)=true then _ else _) _ _ s
  rw [if_pos hyes]
  have ex:Builtin.Tuple.tupleIsExact (.ref t)=(do return (← typeOf (.ref t)) == .type "tuple"):=rfl
  rw [ex]
  refine wpAny_bind (wpAny_bind (wpAny_typeOf ht.typeIs (wpAny_pure ?_)))
  rw [if_pos (by decide)]
  first
    | exact wpAny_bind (wpAny_rule (wpAny_bind (wpAny_pure (wpAny_pure ⟨_,rfl,wpAny_pure h⟩))))
    | exact wpAny_bind (wpAny_rule (wpAny_pure ⟨_,rfl,wpAny_pure h⟩))
    | exact wpAny_bind (wpAny_rule (wpAny_bind (wpAny_pure ⟨_,rfl,wpAny_pure h⟩)))
theorem Ze8 {sl:Addr} {tk:Tok} {n:Nat} {Q:Int×Int×Nat→Shared→Prop} (hs:s.heap.IsSliceOf sl .none .none (.int (-1) tk))
    (h:Q ((n:Int) - 1,-1,n) s):wpAny (model prog w) A (Builtin.Slice.sliceApplied (.ref sl) (pure (n:Int))) Q E s:=by
  obtain ⟨os,hos,hcs,hds⟩:=id hs
  unfold Builtin.Slice.sliceApplied Builtin.Slice.sliceFields
  refine wpAny_bind (wpAny_bind (wpAny_field hos hds (x:=.none) rfl (wpAny_bind (wpAny_field hos hds (x:=.none) rfl (wpAny_bind (wpAny_field hos hds (x:=.int (-1) tk) rfl (wpAny_pure ?_)))))))
  refine wpAny_bind (slicePart_int ?_)
  show wpAny _ _ (if ((-1:Int) == 0)=true then _ else _) _ _ s
  rw [if_neg (by decide)]
  refine wpAny_bind (slicePart_none (wpAny_bind (slicePart_none (wpAny_bind (wpAny_pure ?_)))))
  show wpAny _ _ (match Builtin.Slice.sliceAdjust none none (-1) (n:Int) with | (lo,hi)=>pure (lo,(-1:Int),Builtin.Slice.slicePlaces lo hi (-1))) _ _ s
  have e:Builtin.Slice.sliceAdjust none none (-1) (n:Int)=((n:Int) - 1,-1):=by
    unfold Builtin.Slice.sliceAdjust
    simp
  rw [e]
  have e2:Builtin.Slice.slicePlaces ((n:Int) - 1) (-1) (-1)=n:=by
    unfold Builtin.Slice.slicePlaces
    simp
    try omega
  show wpAny _ _ (pure ((n:Int) - 1,(-1:Int),Builtin.Slice.slicePlaces ((n:Int) - 1) (-1) (-1))) _ _ s
  rw [e2]
  exact wpAny_pure h
theorem pick_rev (xs:Array Value):((List.range xs.size).filterMap fun (m:Nat)=>xs[((xs.size:Int) - 1+(m:Int)*(-1)).toNat]?)=xs.toList.reverse:=by
  refine List.ext_getElem? fun i=>?_
  have gen:∀ (l:List Nat),(∀ m∈l,m < xs.size)→(l.filterMap fun (m:Nat)=>xs[((xs.size:Int) - 1+(m:Int)*(-1)).toNat]?)=l.map fun m=>xs.toList.getD (xs.size - 1 - m) .none:=by
    intro l
    induction l with
    | nil=>intro _;rfl
    | cons m r ih=>
      intro hm
      have h1:m < xs.size:=hm m List.mem_cons_self
      have h2:((xs.size:Int) - 1+(m:Int)*(-1)).toNat=xs.size - 1 - m:=by omega
      have h3:xs.size - 1 - m < xs.size:=by omega
      rw [List.filterMap_cons,h2,Array.getElem?_eq_getElem h3,List.map_cons,ih fun k hk=>hm k (List.mem_cons_of_mem _ hk)]
      simp [List.getD_eq_getElem?_getD,h3]
  rw [gen _ fun m hm=>List.mem_range.mp hm]
  by_cases hi:i < xs.size
  · rw [List.getElem?_map,List.getElem?_range hi,List.getElem?_reverse (by simpa using hi)]
    simp [List.getD_eq_getElem?_getD]
    rw [Array.getElem?_eq_getElem (by omega)]
    simp
  · rw [List.getElem?_eq_none (by simp;omega),List.getElem?_eq_none (by simp;omega)]
theorem getItem_tuple_rev {t sl:Addr} {items:Array Value} {tk:Tok} {Q:Value→Shared→Prop} (ht:IsTup s.heap t items) (hs:s.heap.IsSliceOf sl .none .none (.int (-1) tk)) (hsz:items.size≤sizeLine)
    (h:Q (.ref s.heap.objs.size) { s with heap:=s.heap.push { cls:=.type "tuple",data:=.seq items.toList.reverse.toArray } }):wpAny (model prog w) A (getItem (.ref t) (.ref sl)) Q E s:=by
  have htake:sizeOk (.seq items.toList.reverse.toArray):=by
    show items.toList.reverse.toArray.size≤sizeLine
    simpa using hsz
  obtain ⟨os,hos,hcs,hds⟩:=id hs
  have hTs:s.TypeIs (.ref sl) "slice" :=⟨os,hos,hcs⟩
  unfold getItem
  try with_reducible refine wpAny_holding ?_
  first | refine wpAny_bind (wpAny_pure ?_) | skip
  refine wpAny_bind (wpAny_sequenceKey ht.typeIs (by decide) ?_)
  refine wpAny_bind (wpAny_callSpecial?_slot (name:=Str.ofString "__getitem__") ht.typeIs PyProof.Rows.slot_tuple_getitem
    (wpAny_call_entry PyProof.Rows.slot_tuple_getitem ht.typeIs entry_tuple_getitem ?_ (args_tuple_getitem _ _)))
  show wpAny _ _ (Builtin.Tuple.tupleItemsOf (.ref t) >>= _) _ _ s
  refine wpAny_bind (tupleItemsOf_ ht ?_)
  refine wpAny_bind (wpAny_typeOf hTs ?_)
  rw [if_pos (by decide)]
  refine wpAny_bind (Ze8 hs ?_)
  show wpAny _ _ (if ((((items.size:Int) - 1) == 0 && (-1:Int) == 1 && items.size == items.size)=true) then _ else _) _ _ s
  rw [if_neg (by simp),pick_rev]
  first
    | exact wpAny_bind (m:=Builtin.Tuple.tupleExact _) (wpAny_newObj_type (wpAny_pure ⟨_,rfl,wpAny_pure h⟩) htake)
    | exact wpAny_bind (m:=Builtin.Tuple.tupleExact _) (wpAny_newObj_type (wpAny_bind (wpAny_pure (wpAny_pure ⟨_,rfl,wpAny_pure h⟩))) htake)
    | exact wpAny_bind (wpAny_bind (m:=Builtin.Tuple.tupleExact _) (wpAny_newObj_type (wpAny_pure (wpAny_pure ⟨_,rfl,wpAny_pure h⟩)) htake))
    | exact wpAny_bind (wpAny_bind (m:=Builtin.Tuple.tupleExact _) (wpAny_newObj_type (wpAny_pure ⟨_,rfl,wpAny_pure h⟩) htake))
end
end HT
namespace L2
open PySem PySem.Spec PyProof.Rows
section
variable {X:Cx} {e:Expr} {te:TE} {pos p2:Pos}
def rSlTw (K:PySem.W.Frag):V→Option Int→Option Int→Hp→VK→Prop:=fun x lo hi H Q=>∃ a xs,x = .ref a∧SqT K H a xs∧
  (HT.sIx xs.length 0 lo=0∧HT.sIx xs.length xs.length hi=xs.length)∧Q (.ref a) H
theorem sl_tupW:SlR X (rSlTw X.K):=by
  intro pins s σ H x v vl vu lo hi sl Q I rx hs pl pu h
  obtain ⟨a,xs,rfl,hx,hw,q⟩:=h
  cases rx
  obtain ⟨its,r,ht,hz⟩:=I.tuple hx
  have hlen:its.toArray.size=xs.length:=by rw [List.size_toArray];exact r.length.symm
  refine ⟨"tuple",_,PyProof.Rows.slot_tuple_getitem.lookup,ht.typeIs,?_⟩
  exact HT.getItem_tuple_whole ht hs pl pu (by rw [hlen];exact hw) ⟨.ref a,H,I,rfl,q⟩
def tRev (r:V→Hp→VK→Prop) (te:TE):TE:=fun σ H Q=>te σ H fun x H1=>r x H1 Q
def rRev (K:PySem.W.Frag):V→Hp→VK→Prop:=fun x H Q=>∃ a xs,x = .ref a∧((SqT K H a xs∧∀ p,H p=none→Q (.ref p) (upd H p (.tup xs.reverse)))∨(SqL K H a xs∧∀ p,H p=none→Q (.ref p) (upd H p (.lst xs.reverse))))
theorem Vals.rev {xs:List V} {us:List Value} (r:Vals xs us):Vals xs.reverse us.reverse:=by
  induction xs generalizing us with
  | nil=>cases r;exact .nil
  | cons x xs ih=>cases r with | cons r t=>rw [List.reverse_cons,List.reverse_cons];exact (ih t).append (.cons r .nil)
theorem slicePick_rev (its:List Value):slicePick its.toArray none none (some (-1))=its.reverse.toArray:=by
  have e:slicePick its.toArray none none (some (-1))=((sliceRange ((its.length:Int) - 1) (-1) (-1)).filterMap (its.toArray[·]?)).toArray:=by
    unfold slicePick sliceBounds
    simp
  rw [e]
  congr 1
  have h:=HT.pick_rev its.toArray
  rw [List.size_toArray] at h
  have h':its.toArray.toList.reverse=its.reverse:=by simp
  rw [h'] at h
  rw [← h]
  unfold sliceRange
  simp only [show ¬ ((-1:Int) > 0) by decide,if_false]
  have hn:(if (-1:Int) < (its.length:Int) - 1 then (its.length:Int) else 0).toNat=its.length:=by split<;>omega
  simp
  rw [hn]
  rfl
theorem pe_rev {j pos3 pos4} (he:PE X e te):PE X (.Subscript e (.Slice none none (some (.UnaryOp .USub (.Constant (.int 1) j pos3) pos4)) p2) pos) (tRev (rRev X.K) te):=by
  intro pins s σ H Q I h
  refine Subscript_ (thn (he pins s σ H _ I h) fun v s1 ⟨x,H1,I1,r1,a,xs,ex,q1⟩=>?_)
  subst ex
  cases r1
  refine wpAny_Slice ?_
  rw [evalPart_none]
  refine wpAny_pure (wpAny_pure ?_)
  rw [evalPart_some]
  refine thn (pe_un (un_neg (X:=X)) pe_int pins s1 σ H1 (fun x H'=>x = .int (-1)∧H'=H1) I1 ⟨1,rfl,rfl,rfl⟩) fun u s3 ⟨y,H3,I3,r3,e3,e4⟩=>?_
  subst e3
  obtain rfl:=e4.symm
  obtain ⟨tk,rfl⟩:=r3
  have I4:Inv X pins σ H1 { s3 with heap:=s3.heap.push { cls:=.type "slice",data:=.fields #[.none,.none,.int (-1) tk] } }:=I3.kept (t':=s3.toks) fun b ob q=>Heap.get?_push_of_some _ q
  show wpAny (model X.prog X.w) X.A (subscriptTail e (.Slice none none (some (.UnaryOp .USub (.Constant (.int 1) j pos3) pos4)) p2) (.ref a) (.ref s3.heap.objs.size)) (EP X pins σ Q) X.xe { s3 with heap:=s3.heap.push { cls:=.type "slice",data:=.fields #[.none,.none,.int (-1) tk] } }
  rcases q1 with ⟨hx,q1⟩ | ⟨hx,q1⟩
  · obtain ⟨its,r,ht,hz⟩:=I4.tuple hx
    have hlen:=r.length
    refine tail_any (ops:=[.ref a,.ref s3.heap.objs.size]) ht.typeIs PyProof.Rows.slot_tuple_getitem.lookup (HT.getItem_tuple_rev ht (Heap.IsSliceOf.new ..) (by rw [List.size_toArray];omega) ?_) (by with_unfolding_all rfl)
    refine ⟨.ref _,_,I4.laid (t':=s3.toks) (o:=.tup xs.reverse) (fun b ob q=>Heap.get?_push_of_some _ q) (Nat.le_refl _) ?_,rfl,q1 _ (I4.hok.fresh (Nat.le_refl _))⟩
    exact ⟨by rw [List.length_reverse];exact hz,_,r.rev,IsTup.new _ _⟩
  · obtain ⟨its,r,ht,hz⟩:=I4.list hx
    have hlen:=r.length
    refine tail_any (ops:=[.ref a,.ref s3.heap.objs.size]) ht.isList.typeIs slot_list_getitem.lookup (wpAny_getItem_list_slice ht.isList (Heap.IsSliceOf.new ..) .none .none (.int (-1) tk) (by simp) ?_ (by rw [List.size_toArray];omega)) (by with_unfolding_all rfl)
    rw [slicePick_rev]
    refine ⟨.ref _,_,I4.laid (t':=s3.toks) (o:=.lst xs.reverse) (fun b ob q=>Heap.get?_push_of_some _ q) (Nat.le_refl _) ?_,rfl,q1 _ (I4.hok.fresh (Nat.le_refl _))⟩
    exact ⟨by rw [List.length_reverse];exact hz,_,0,r.rev,Heap.get?_push_size _ rfl⟩
end
end L2
namespace LP
open PySem PySem.Spec PyProof.Rows L2
def Bd (i:Int):Prop:=i.natAbs < 2 ^ 8990
theorem Bd.log {i:Int} (h:Bd i):i.natAbs.log2 < 8990:=by
  by_cases h0:i.natAbs=0
  · rw [h0];decide
  · exact (Nat.log2_lt h0).mpr h
theorem Bd.bits {i:Int} (h:Bd i):Builtin.Int.intBits i≤2 ^ 20:=by
  unfold Builtin.Int.intBits
  have:=h.log
  have e:(2:Nat) ^ 20=1048576:=by decide
  split<;>omega
def MulOk (i j:Int):Prop:=Bd i∧Bd j
def DivOk (_ j:Int):Prop:=j≠0∧Bd j
section
variable {X:Cx} {EX:XK} {pos:Pos}
theorem opr_mul:OpR X (binaryOp .Mult) (rI MulOk fun i j=>.int (i*j)):=opI fun _ _ _ _ _ _ _ hc q=>mul_int q (IntMulOk.of_bits hc.1.bits hc.2.bits)
theorem opr_fdiv:OpR X (binaryOp .FloorDiv) (rI DivOk fun i j=>.int (i.fdiv j)):=opI fun _ _ _ _ _ _ _ hc q=>floordiv_int hc.1 q (.inl (PyProof.noPylong_of_log2 (by have:=hc.2.log;omega)))
def gI2 (C:Int→Int→Prop) (kd:Int→Int→D):G2:=fun x y Q=>match x,y with
  | .int i,.int j=>C i j∧Q (kd i j)
  | _,_=>False
theorem gI2.mono {C:Int→Int→Prop} {kd:Int→Int→D}:∀ x y P P',(∀ d,P d→P' d)→gI2 C kd x y P→gI2 C kd x y P':=fun x y P P' hp hg=>by
  unfold gI2 at hg ⊢
  split at hg
  · exact ⟨hg.1,hp _ hg.2⟩
  · exact hg.elim
theorem gI2.get {C:Int→Int→Prop} {kd:Int→Int→D} {x y:D} {Q:D→Prop} (h:gI2 C kd x y Q):∃ i j,x = .int i∧y = .int j∧C i j∧Q (kd i j):=by
  unfold gI2 at h
  split at h
  · exact ⟨_,_,rfl,rfl,h.1,h.2⟩
  · exact h.elim
theorem Zdy {f:Value→Value→Sem Value} {C:Int→Int→Prop} {k:Int→Int→V} {kd:Int→Int→D} (h:OpR X f (rI C k)) (hk:∀ W i j,Rep X.K W (k i j) (kd i j)):OpP X f (gI2 C kd):=
  ⟨⟨_,h,fun W H x y dx dy Q ok rx ry hg=>by
    obtain ⟨i,j,rfl,rfl,hc,q⟩:=hg.get
    cases rx;cases ry
    exact ⟨_,_,rfl,rfl,hc,q.now ok (hk _ _ _)⟩⟩,gI2.mono⟩
theorem rI0_rI {f:Value→Value→Sem Value} {k:Int→Int→V} (h:OpR X f (rI0 k)):OpR X f (rI (fun _ _=>True) k):=fun pins s σ H x y v u Q I rx ry ⟨i,j,e1,e2,_,q⟩=>h pins s σ H x y v u Q I rx ry ⟨i,j,e1,e2,q⟩
theorem ZdX:OpP X (binaryOp .Sub) (gI2 (fun _ _=>True) fun i j=>.int (i - j)):=Zdy (rI0_rI op_sub) fun _ _ _=>.int _
theorem o_mod:OpP X (binaryOp .Mod) (gI2 (fun _ j=>j≠0) fun i j=>.int (i.fmod j)):=Zdy op_modN fun _ _ _=>.int _
theorem o_fdiv:OpP X (binaryOp .FloorDiv) (gI2 DivOk fun i j=>.int (i.fdiv j)):=Zdy opr_fdiv fun _ _ _=>.int _
theorem o_pow:OpP X (binaryOp .Pow) (gI2 CPow fun i j=>.int (i ^ j.toNat)):=Zdy op_pow fun _ _ _=>.int _
theorem opr_lt:OpR X (compareOp .Lt) (rI0 fun i j=>.bl (decide (i < j))):=opB0 fun _ _ _ _ _ _ _ q=>lt_int q
theorem opr_le:OpR X (compareOp .LtE) (rI0 fun i j=>.bl (decide (i≤j))):=opB0 fun _ _ _ _ _ _ _ q=>le_int q
theorem opr_gt:OpR X (compareOp .Gt) (rI0 fun i j=>.bl (decide (i > j))):=opB0 fun _ _ _ _ _ _ _ q=>gt_int q
theorem opr_ge:OpR X (compareOp .GtE) (rI0 fun i j=>.bl (decide (i ≥ j))):=opB0 fun _ _ _ _ _ _ _ q=>ge_int q
theorem o_lt:OpP X (compareOp .Lt) (gI2 (fun _ _=>True) fun i j=>.bl (decide (i < j))):=Zdy (rI0_rI opr_lt) fun _ _ _=>.bl _
theorem o_le:OpP X (compareOp .LtE) (gI2 (fun _ _=>True) fun i j=>.bl (decide (i≤j))):=Zdy (rI0_rI opr_le) fun _ _ _=>.bl _
theorem o_gt:OpP X (compareOp .Gt) (gI2 (fun _ _=>True) fun i j=>.bl (decide (i > j))):=Zdy (rI0_rI opr_gt) fun _ _ _=>.bl _
theorem o_ge:OpP X (compareOp .GtE) (gI2 (fun _ _=>True) fun i j=>.bl (decide (i ≥ j))):=Zdy (rI0_rI opr_ge) fun _ _ _=>.bl _
theorem u_neg:UnP X (unaryOp .USub) (fun x Q=>isI (fun i=>Q (.int (-i))) x):=
  ⟨⟨_,un_neg,fun W H x dx Q ok rx hg=>by
    obtain ⟨i,rfl,q⟩:=Zeh hg
    cases rx
    exact ⟨i,rfl,q.now ok (.int _)⟩⟩,fun x P P' hp h=>isI.mono (fun i hi=>hp _ hi) x h⟩
mutual
def toP:D→Option PyData
  | .non=>some .none
  | .bl b=>some (.bool b)
  | .int i=>some (.int i)
  | .str x=>some (.str x)
  | .tup xs=>(toPs xs).map .tuple
  | .lst xs=>(toPs xs).map .list
  | .dic=>none
  | .pen=>none
  | .cls _=>none
  | .exc _=>none
  | .ty _=>none
  | .scr _=>none
def toPs:List D→Option (List PyData)
  | []=>some []
  | x::r=>match toP x,toPs r with
    | some a,some b=>some (a::b)
    | _,_=>none
end
variable {pins:List (Addr×Obj)} {σ:L2.St} {H:Hp} {s:Shared} {W:Wd}
mutual
theorem Zen (I:Inv X pins σ H s) (ok:WOk W H):∀ {v:V} {d:D} {u:Value} {p:PyData},Rep X.K W v d→RelV v u→toP d=some p→∃ as,Reads s.heap u p as
  | _,_,u,p,.non,r,e=>by cases e;cases r;exact ⟨_,.none⟩
  | _,_,u,p,.bl b,r,e=>by cases e;cases r;exact ⟨_,.bool b⟩
  | _,_,u,p,.int i,r,e=>by cases e;obtain ⟨t,rfl⟩:=r;exact ⟨_,.int i t⟩
  | _,_,u,p,.str x,r,e=>by cases e;obtain ⟨t,rfl⟩:=r;exact ⟨_,.str x t⟩
  | .ref a,.tup ds,u,p,.tup e0 rs,r,e=>by
    cases r
    cases q:toPs ds with
    | none=>rw [toP,q] at e;cases e
    | some ps=>
      rw [toP,q] at e
      cases e
      obtain ⟨its,rv,⟨o,h1,h2,n,h3⟩,_⟩:=I.tuple (xs:=_) (SqT.of (ok.g _ _ e0))
      obtain ⟨as,ra⟩:=Zeo I ok rs rv q
      exact ⟨_,.tuple h1 h2 h3 (by simpa using ra)⟩
  | .ref a,.tup ds,u,p,.ktup e0 rs,r,e=>by
    cases r
    cases q:toPs ds with
    | none=>rw [toP,q] at e;cases e
    | some ps=>
      rw [toP,q] at e
      cases e
      obtain ⟨its,rv,⟨o,h1,h2,n,h3⟩,_⟩:=I.tuple (xs:=_) (.inr e0)
      obtain ⟨as,ra⟩:=Zeo I ok rs rv q
      exact ⟨_,.tuple h1 h2 h3 (by simpa using ra)⟩
  | .ref a,.lst ds,u,p,.lst e0 rs,r,e=>by
    cases r
    cases q:toPs ds with
    | none=>rw [toP,q] at e;cases e
    | some ps=>
      rw [toP,q] at e
      cases e
      obtain ⟨its,rv,⟨o,n,h1,h2,h3,h4⟩,_⟩:=I.list (xs:=_) (SqL.of (ok.g _ _ e0))
      obtain ⟨as,ra⟩:=Zeo I ok rs rv q
      exact ⟨_,.list h1 h2 h4 (by simpa using ra)⟩
  | _,_,u,p,.dic _,r,e=>by rw [toP] at e;cases e
  | _,_,u,p,.pen _,r,e=>by rw [toP] at e;cases e
  | _,_,u,p,.cls _,r,e=>by rw [toP] at e;cases e
  | _,_,u,p,.exc _ _ _,r,e=>by rw [toP] at e;cases e
  | _,_,u,p,.ty _,r,e=>by rw [toP] at e;cases e
  | _,_,u,p,.scr _ _,r,e=>by rw [toP] at e;cases e
theorem Zeo (I:Inv X pins σ H s) (ok:WOk W H):∀ {vs:List V} {ds:List D} {us:List Value} {ps:List PyData},Reps X.K W vs ds→Vals vs us→toPs ds=some ps→∃ as,ReadsAll s.heap us ps as
  | _,_,us,ps,.nil,r,e=>by rw [toPs] at e;cases e;cases r;exact ⟨_,.nil⟩
  | _,d::ds,us,ps,.cons rd rs,r,e=>by
    rw [toPs] at e
    cases q1:toP d with
    | none=>rw [q1] at e;cases e
    | some a=>
      cases q2:toPs ds with
      | none=>rw [q1,q2] at e;cases e
      | some b=>
        rw [q1,q2] at e
        cases e
        cases r with
        | cons r1 r2=>
          obtain ⟨as,ra⟩:=Zen I ok rd r1 q1
          obtain ⟨bs,rb⟩:=Zeo I ok rs r2 q2
          exact ⟨_,.cons ra rb⟩
end
def gEq (neg:Bool):G2:=fun x y Q=>∃ p q,toP x=some p∧toP y=some q∧PySem.SeqAt.shaped p=true∧PySem.SeqAt.shaped q=true∧Q (.bl (if neg then !PyData.eqv p q else PyData.eqv p q))
theorem gEq.mono {neg:Bool}:∀ x y P P',(∀ d,P d→P' d)→gEq neg x y P→gEq neg x y P':=fun x y P P' hp ⟨p,q,h1,h2,h3,h4,h5⟩=>⟨p,q,h1,h2,h3,h4,hp _ h5⟩
theorem o_eq (hu:X.A.units+64 < cLine):OpP X (compareOp .Eq) (gEq false):=by
  refine ⟨⟨fun x y H Q=>∃ W dx dy,WOk W H∧Rep X.K W x dx∧Rep X.K W y dy∧gEq false dx dy (RQ X.K W H Q),?_,fun W H x y dx dy Q ok rx ry hg=>⟨W,dx,dy,ok,rx,ry,hg⟩⟩,gEq.mono⟩
  rintro pins s σ H x y v u Q I rx ry ⟨W,dx,dy,ok,r1,r2,p,q,h1,h2,h3,h4,h5⟩
  obtain ⟨as,ra⟩:=Zen I ok r1 rx h1
  obtain ⟨bs,rb⟩:=Zen I ok r2 ry h2
  exact eq_dataH ra rb h3 h4 hu ⟨.bl _,H,I,rfl,h5.now ok (.bl _)⟩
theorem o_ne (hu:X.A.units+64 < cLine):OpP X (compareOp .NotEq) (gEq true):=by
  refine ⟨⟨fun x y H Q=>∃ W dx dy,WOk W H∧Rep X.K W x dx∧Rep X.K W y dy∧gEq true dx dy (RQ X.K W H Q),?_,fun W H x y dx dy Q ok rx ry hg=>⟨W,dx,dy,ok,rx,ry,hg⟩⟩,gEq.mono⟩
  rintro pins s σ H x y v u Q I rx ry ⟨W,dx,dy,ok,r1,r2,p,q,h1,h2,h3,h4,h5⟩
  obtain ⟨as,ra⟩:=Zen I ok r1 rx h1
  obtain ⟨bs,rb⟩:=Zen I ok r2 ry h2
  exact ne_dataH ra rb h3 h4 hu ⟨.bl _,H,I,rfl,h5.now ok (.bl _)⟩
end
section
variable {X:Cx} {EX:XK} {pos p2:Pos} {a:Expr} {wa:WE}
def gAdd:G2:=fun x y Q=>match x,y with
  | .int i,.int j=>Q (.int (i+j))
  | .lst xs,.lst ys=>xs.length+ys.length≤small∧Q (.lst (xs++ys))
  | .tup xs,.tup ys=>xs.length+ys.length≤small∧Q (.tup (xs++ys))
  | _,_=>False
theorem gAdd.mono:∀ x y P P',(∀ d,P d→P' d)→gAdd x y P→gAdd x y P':=fun x y P P' hp hg=>by
  unfold gAdd at hg ⊢
  split at hg
  · exact hp _ hg
  · exact ⟨hg.1,hp _ hg.2⟩
  · exact ⟨hg.1,hp _ hg.2⟩
  · exact hg.elim
def rCatS (K:PySem.W.Frag):R2:=fun x y H Q=>∃ l b xs zs,x = .ref l∧y = .ref b∧SqL K H l xs∧SqL K H b zs∧xs.length+zs.length≤sizeLine∧∀ p,H p=none→Q (.ref p) (upd H p (.lst (xs++zs)))
theorem op_catS:OpR X (binaryOp .Add) (rCatS X.K):=by
  intro pins s σ H x y v u Q I rx ry h
  obtain ⟨l,b,xs,zs,rfl,rfl,hH,hB,hz,q⟩:=h
  cases rx
  cases ry
  obtain ⟨its,r,pl,z⟩:=I.list hH
  obtain ⟨its2,r2,pl2,z2⟩:=I.list hB
  have hl:=r.length
  have hl2:=r2.length
  obtain ⟨⟨cls,dd,data,sl⟩,n,ho,hc,_,hd⟩:=pl
  obtain ⟨⟨cls2,dd2,data2,sl2⟩,n2,ho2,hc2,_,hd2⟩:=pl2
  simp only at hc hd hc2 hd2
  subst hc hd hc2 hd2
  have e:its.toArray++its2.toArray=(its++its2).toArray:=by simp
  refine concat_meets ⟨_,ho,rfl⟩ ⟨_,ho2,rfl⟩ noFill_list_add seq_list_add PySem.F.slot_list_add PySem.F.entry_list_add (PySem.F.args_list_add_2 _ _) (list_addW l b its.toArray its2.toArray n n2 dd dd2 sl sl2 (by simp;omega)) ⟨ho,ho2,?_⟩
  rw [e]
  exact ⟨.ref _,_,I.lnew (t':=s.toks) (r.append r2) (by rw [List.length_append];omega),rfl,q _ I.fresh⟩
def rCatTT (K:PySem.W.Frag):R2:=fun x y H Q=>∃ a b xs ys,x = .ref a∧y = .ref b∧SqT K H a xs∧SqT K H b ys∧xs.length+ys.length≤sizeLine∧
  (xs=[]→Q (.ref b) H)∧(ys=[]→Q (.ref a) H)∧∀ p,H p=none→Q (.ref p) (upd H p (.tup (xs++ys)))
theorem op_catTT:OpR X (binaryOp .Add) (rCatTT X.K):=by
  intro pins s σ H x y v u Q I rx ry h
  obtain ⟨a,b,xs,ys,rfl,rfl,ha,hb,hz,q1,q2,q3⟩:=h
  by_cases hx:xs=[]
  · cases rx
    cases ry
    obtain ⟨its,r1,p1,_⟩:=I.tuple ha
    obtain ⟨its2,r2,p2,_⟩:=I.tuple hb
    have hi:its=[]:=r1.nil_iff.mpr hx
    obtain ⟨⟨cls,dd,data,sl⟩,ho,hc,n,hd⟩:=id p1
    obtain ⟨⟨cls2,dd2,data2,sl2⟩,ho2,hc2,n2,hd2⟩:=id p2
    simp only at hc hd hc2 hd2
    subst hc hd hc2 hd2
    exact concat_meets ⟨_,ho,rfl⟩ ⟨_,ho2,rfl⟩ noFill_tuple_add seq_tuple_add PySem.F.slot_tuple_add PySem.F.entry_tuple_add (PySem.F.args_tuple_add_2 _ _)
      (tuple_addW0 a b its.toArray its2.toArray n n2 dd dd2 sl sl2 (by simp [hi])) ⟨ho,ho2,⟨.ref b,H,I,rfl,q1 hx⟩⟩
  · exact op_catT pins s σ H _ _ v u Q I rx ry ⟨a,b,xs,ys,rfl,rfl,ha,hb,hx,hz,q2,fun _=>q3⟩
theorem ZcD:OpP X (binaryOp .Add) gAdd:=by
  refine ⟨⟨_,(rI0_rI op_add).or (op_catS.or op_catTT),fun W H x y dx dy Q ok rx ry hg=>?_⟩,gAdd.mono⟩
  unfold gAdd at hg
  split at hg
  · cases rx;cases ry
    exact .inl ⟨_,_,rfl,rfl,trivial,hg.now ok (.int _)⟩
  · obtain ⟨p,vs,rfl,h1,r1⟩:=rx.sql ok
    obtain ⟨q,us,rfl,h2,r2⟩:=ry.sql ok
    refine .inr (.inl ⟨p,q,vs,us,rfl,rfl,h1,h2,by rw [r1.length,r2.length];exact ZaV hg.1,fun a ha=>hg.2.lst ok (r1.append r2) ha⟩)
  · obtain ⟨p,vs,rfl,h1,r1⟩:=rx.sqt ok
    obtain ⟨q,us,rfl,h2,r2⟩:=ry.sqt ok
    rename_i xs ys
    refine .inr (.inr ⟨p,q,vs,us,rfl,rfl,h1,h2,by rw [r1.length,r2.length];exact ZaV hg.1,fun e=>?_,fun e=>?_,fun a ha=>hg.2.tup ok (r1.append r2) ha⟩)
    · subst e
      cases r1
      exact hg.2.now ok ry
    · subst e
      cases r2
      rw [List.append_nil] at hg
      exact hg.2.now ok rx
  · exact hg.elim
def gMul:G2:=fun x y Q=>match x,y with
  | .int i,.int j=>MulOk i j∧Q (.int (i*j))
  | .lst xs,.int k=>k < 1000∧-1000 < k∧xs.length*k.toNat≤small∧Q (.lst (List.replicate k.toNat xs).flatten)
  | _,_=>False
theorem gMul.mono:∀ x y P P',(∀ d,P d→P' d)→gMul x y P→gMul x y P':=fun x y P P' hp hg=>by
  unfold gMul at hg ⊢
  split at hg
  · exact ⟨hg.1,hp _ hg.2⟩
  · exact ⟨hg.1,hg.2.1,hg.2.2.1,hp _ hg.2.2.2⟩
  · exact hg.elim
theorem reps_rep {K:PySem.W.Frag} {W:Wd} {vs:List V} {ds:List D} (r:Reps K W vs ds) (n:Nat):Reps K W (List.replicate n vs).flatten (List.replicate n ds).flatten:=by
  induction n with
  | zero=>exact .nil
  | succ n ih=>rw [List.replicate_succ,List.replicate_succ,List.flatten_cons,List.flatten_cons];exact r.append ih
theorem ZcW:OpP X (binaryOp .Mult) gMul:=by
  refine ⟨⟨_,opr_mul.or op_rep,fun W H x y dx dy Q ok rx ry hg=>?_⟩,gMul.mono⟩
  unfold gMul at hg
  split at hg
  · cases rx;cases ry
    exact .inl ⟨_,_,rfl,rfl,hg.1,hg.2.now ok (.int _)⟩
  · cases ry
    cases rx with
    | @lst l vs _ e r=>
      refine .inr ⟨l,_,vs,rfl,rfl,ok.g _ _ e,by omega,by omega,?_,fun p hp=>hg.2.2.2.lst ok (reps_rep r _) hp⟩
      rw [r.length]
      exact ZaV hg.2.2.1
  · exact hg.elim
theorem atI_of {vs:List V} {xs:List D} {K:PySem.W.Frag} {W:Wd} (r:Reps K W vs xs) {i:Int} {d:D} (h:atI xs i=some d):∃ v,atI vs i=some v∧Rep K W v d:=by
  unfold atI at h ⊢
  rw [r.length]
  cases q:ixN xs.length i with
  | none=>rw [q] at h;cases h
  | some k=>
    rw [q] at h
    obtain ⟨v,e,rv⟩:=r.get (show xs[k]? = some d from h)
    exact ⟨v,e,rv⟩
def gIx:G2:=fun x y Q=>isI (fun i=>match x with
  | .tup xs=>∃ d,atI xs i=some d∧Q d
  | .lst xs=>∃ d,atI xs i=some d∧Q d
  | .scr xs=>∃ d,atI xs i=some d∧Q d
  | _=>False) y
theorem gIx.mono:∀ x y P P',(∀ d,P d→P' d)→gIx x y P→gIx x y P':=fun x y P P' hp hg=>isI.mono (fun i h=>by
  split at h
  · obtain ⟨d,e,q⟩:=h;exact ⟨d,e,hp _ q⟩
  · obtain ⟨d,e,q⟩:=h;exact ⟨d,e,hp _ q⟩
  · obtain ⟨d,e,q⟩:=h;exact ⟨d,e,hp _ q⟩
  · exact h.elim) y hg
theorem i_ix:IxP X gIx:=by
  refine ⟨⟨_,ix_seq,fun W H x y dx dy Q ok rx ry hg=>?_⟩,gIx.mono⟩
  obtain ⟨i,rfl,h⟩:=Zeh hg
  cases ry
  split at h
  · obtain ⟨d,e,q⟩:=h
    obtain ⟨p,vs,rfl,h1,r1⟩:=rx.sqt ok
    obtain ⟨v,e1,rv⟩:=atI_of r1 e
    exact .inr (.inl ⟨p,vs,i,v,rfl,rfl,h1,e1,q.now ok rv⟩)
  · obtain ⟨d,e,q⟩:=h
    obtain ⟨p,vs,rfl,h1,r1⟩:=rx.sql ok
    obtain ⟨v,e1,rv⟩:=atI_of r1 e
    exact .inl ⟨p,vs,i,v,rfl,rfl,h1,e1,q.now ok rv⟩
  · obtain ⟨d,e,q⟩:=h
    obtain ⟨p,vs,rfl,h1,r1⟩:=rx.sqs ok
    obtain ⟨v,e1,rv⟩:=atI_of r1 e
    exact .inl ⟨p,vs,i,v,rfl,rfl,h1,e1,q.now ok rv⟩
  · exact h.elim
theorem Reps.cut {K:PySem.W.Frag} {W:Wd} {vs:List V} {ds:List D} (r:Reps K W vs ds) (lo hi:Option Int):Reps K W (cutV vs lo hi) (cutD ds lo hi):=by
  unfold cutV cutD
  rw [r.length]
  exact (r.drop _).take _
theorem cut_whole {xs:List D} {lo hi:Option Int} (h:HT.sIx xs.length 0 lo=0∧HT.sIx xs.length xs.length hi=xs.length):cutD xs lo hi=xs:=by
  unfold cutD
  rw [h.1,h.2]
  simp
theorem gCut.mono {lo hi:Option Int}:∀ x P P',(∀ d,P d→P' d)→gCut x lo hi P→gCut x lo hi P':=fun x P P' hp hg=>by
  unfold gCut at hg ⊢
  split at hg
  · exact hp _ hg
  · exact hp _ hg
  · exact hp _ hg
  · exact hg.elim
def wCut (wa:WE) (wl wh:(Ex→Prop)→Rho→(Option Int→Prop)→Prop):WE:=fun E ρ Q=>wa E ρ fun x=>wl E ρ fun l=>wh E ρ fun h=>gCut x l h Q
theorem ZcF {lo hi:Option Expr} {wl wh} (ha:PX X EX a wa) (hl:PXO X EX lo wl) (hh:PXO X EX hi wh):PX X EX (.Subscript a (.Slice lo hi none p2) pos) (wCut wa wl wh):=by
  obtain ⟨ta,pa,ka⟩:=ha.t
  obtain ⟨tl,pl,kl⟩:=hl.t
  obtain ⟨th,ph,kh⟩:=hh.t
  refine ⟨⟨_,pe_slice (sl_list.or (sl_tup.or sl_tupW)) pa pl ph,fun W0 H0 W σ H ρ E Q s eo h=>?_⟩,fun E ρ P P' hp h=>ha.mono _ _ _ _ (fun x hx=>hl.mono _ _ _ _ (fun l hl'=>hh.mono _ _ _ _ (fun u hu=>gCut.mono x _ _ hp hu) hl') hx) h⟩
  refine ka W0 H0 W σ H ρ E _ s eo (ha.mono _ _ _ _ (fun dx hx v W1 H1 x1 r1=>?_) h)
  refine kl W0 H0 W1 σ H1 ρ E _ (s.step x1) eo (hl.mono _ _ _ _ (fun l hl' W2 H2 x2=>?_) hx)
  refine kh W0 H0 W2 σ H2 ρ E _ ((s.step x1).step x2) eo (hh.mono _ _ _ _ (fun u hu W3 H3 x3=>?_) hl')
  have r3:=(x2.trans x3).rep r1
  have hu':=gCut.mono dx _ _ (fun d hd=>RQ.ext hd (x1.trans (x2.trans x3))) hu
  unfold gCut at hu'
  split at hu'
  · obtain ⟨p,vs,rfl,h1,rr⟩:=r3.sqt x3.ok
    rename_i xs
    by_cases hw:HT.sIx vs.length 0 l=0∧HT.sIx vs.length vs.length u=vs.length
    · refine .inr (.inr ⟨p,vs,rfl,h1,hw,?_⟩)
      rw [rr.length] at hw
      rw [cut_whole hw] at hu'
      exact hu'.now x3.ok r3
    · exact .inr (.inl ⟨p,vs,rfl,h1,hw,fun q hq=>hu'.tup x3.ok (rr.cut l u) hq⟩)
  · obtain ⟨p,vs,rfl,h1,rr⟩:=r3.sql x3.ok
    exact .inl ⟨p,vs,rfl,h1,fun q hq=>hu'.lst x3.ok (rr.cut l u) hq⟩
  · obtain ⟨p,vs,rfl,h1,rr⟩:=r3.sqs x3.ok
    exact .inl ⟨p,vs,rfl,h1,fun q hq=>hu'.lst x3.ok (rr.cut l u) hq⟩
  · exact hu'.elim
def gRev:D→(D→Prop)→Prop:=fun x Q=>match x with
  | .tup xs=>Q (.tup xs.reverse)
  | .lst xs=>Q (.lst xs.reverse)
  | _=>False
theorem gRev.mono:∀ x P P',(∀ d,P d→P' d)→gRev x P→gRev x P':=fun x P P' hp hg=>by
  unfold gRev at hg ⊢
  split at hg
  · exact hp _ hg
  · exact hp _ hg
  · exact hg.elim
theorem px_rev {j pos3 pos4} (ha:PX X EX a wa):PX X EX (.Subscript a (.Slice none none (some (.UnaryOp .USub (.Constant (.int 1) j pos3) pos4)) p2) pos) (w1 gRev wa):=by
  obtain ⟨ta,pa,ka⟩:=ha.t
  refine ⟨⟨_,pe_rev pa,fun W0 H0 W σ H ρ E Q s eo h=>?_⟩,fun E ρ P P' hp h=>ha.mono _ _ _ _ (fun x hx=>gRev.mono x _ _ hp hx) h⟩
  refine ka W0 H0 W σ H ρ E _ s eo (ha.mono _ _ _ _ (fun dx hx v W1 H1 x1 r1=>?_) h)
  have hu':=gRev.mono dx _ _ (fun d hd=>RQ.ext hd x1) hx
  unfold gRev at hu'
  split at hu'
  · obtain ⟨p,vs,rfl,h1,rr⟩:=r1.sqt x1.ok
    exact ⟨p,vs,rfl,.inl ⟨h1,fun q hq=>hu'.tup x1.ok rr.rev hq⟩⟩
  · obtain ⟨p,vs,rfl,h1,rr⟩:=r1.sql x1.ok
    exact ⟨p,vs,rfl,.inr ⟨h1,fun q hq=>hu'.lst x1.ok rr.rev hq⟩⟩
  · exact hu'.elim
def gLen:List D→(D→Prop)→Prop:=fun ds Q=>match ds with
  | [.tup xs]=>Q (.int xs.length)
  | [.lst xs]=>Q (.int xs.length)
  | [.scr xs]=>Q (.int xs.length)
  | _=>False
theorem Zcn:CallP X (.builtin "len") gLen:=by
  refine ⟨⟨_,call_len_seq,fun W H vs ds Q ok r hg=>?_⟩,fun ds P P' hp hg=>?_⟩
  · unfold gLen at hg
    split at hg
    · obtain ⟨v,rfl,rv⟩:=r.one
      obtain ⟨p,us,rfl,h1,rr⟩:=rv.sqt ok
      exact ⟨p,us,rfl,.inr h1,by rw [rr.length];exact hg.now ok (.int _)⟩
    · obtain ⟨v,rfl,rv⟩:=r.one
      obtain ⟨p,us,rfl,h1,rr⟩:=rv.sql ok
      exact ⟨p,us,rfl,.inl h1,by rw [rr.length];exact hg.now ok (.int _)⟩
    · obtain ⟨v,rfl,rv⟩:=r.one
      obtain ⟨p,us,rfl,h1,rr⟩:=rv.sqs ok
      exact ⟨p,us,rfl,.inl h1,by rw [rr.length];exact hg.now ok (.int _)⟩
    · exact hg.elim
  · unfold gLen at hg ⊢
    split at hg
    · exact hp _ hg
    · exact hp _ hg
    · exact hp _ hg
    · exact hg.elim
def gSeq {α:Type}:List D→(List D→Prop)→Prop:=fun ds Q=>match ds with
  | [.tup xs]=>Q xs
  | [.lst xs]=>Q xs
  | [.scr xs]=>Q xs
  | _=>False
theorem c_list:CallL X (.type "list") (gSeq (α:=Unit)):=by
  refine ⟨⟨_,call_list_of,fun W H vs ds Q ok r hg=>?_⟩,fun ds P P' hp hg=>?_⟩
  · unfold gSeq at hg
    split at hg
    · obtain ⟨v,rfl,rv⟩:=r.one
      obtain ⟨p,us,rfl,h1,rr⟩:=rv.sqt ok
      exact ⟨p,us,rfl,.inr h1,fun l hl=>hg l us hl rr⟩
    · obtain ⟨v,rfl,rv⟩:=r.one
      obtain ⟨p,us,rfl,h1,rr⟩:=rv.sql ok
      exact ⟨p,us,rfl,.inl h1,fun l hl=>hg l us hl rr⟩
    · obtain ⟨v,rfl,rv⟩:=r.one
      obtain ⟨p,us,rfl,h1,rr⟩:=rv.sqs ok
      exact ⟨p,us,rfl,.inl h1,fun l hl=>hg l us hl rr⟩
    · exact hg.elim
  · unfold gSeq at hg ⊢
    split at hg
    · exact hp _ hg
    · exact hp _ hg
    · exact hp _ hg
    · exact hg.elim
def ZbM:List D→(D→Prop)→Prop:=fun ds Q=>match ds with
  | [.tup xs]=>Q (.tup xs)
  | [.lst xs]=>Q (.tup xs)
  | _=>False
theorem Zc9:CallP X (.type "tuple") ZbM:=by
  refine ⟨⟨_,call_tuple_of,fun W H vs ds Q ok r hg=>?_⟩,fun ds P P' hp hg=>?_⟩
  · unfold ZbM at hg
    split at hg
    · obtain ⟨v,rfl,rv⟩:=r.one
      obtain ⟨p,us,rfl,h1,rr⟩:=rv.sqt ok
      exact ⟨p,us,rfl,.inr ⟨h1,hg.now ok rv⟩⟩
    · obtain ⟨v,rfl,rv⟩:=r.one
      obtain ⟨p,us,rfl,h1,rr⟩:=rv.sql ok
      exact ⟨p,us,rfl,.inl ⟨h1,fun l hl=>hg.tup ok rr hl⟩⟩
    · exact hg.elim
  · unfold ZbM at hg ⊢
    split at hg
    · exact hp _ hg
    · exact hp _ hg
    · exact hg.elim
def gAbs:List D→(D→Prop)→Prop:=fun ds Q=>match ds with
  | [.int i]=>Q (.int (if i < 0 then -i else i))
  | _=>False
theorem c_abs:CallP X (.builtin "abs") gAbs:=by
  refine ⟨⟨_,call_abs,fun W H vs ds Q ok r hg=>?_⟩,fun ds P P' hp hg=>?_⟩
  · unfold gAbs at hg
    split at hg
    · obtain ⟨v,rfl,rv⟩:=r.one
      cases rv
      exact ⟨_,rfl,hg.now ok (.int _)⟩
    · exact hg.elim
  · unfold gAbs at hg ⊢
    split at hg
    · exact hp _ hg
    · exact hg.elim
def gMax:List D→(D→Prop)→Prop:=fun ds Q=>match ds with
  | [.int i,.int j]=>Q (.int (if j > i then j else i))
  | _=>False
theorem c_max (hc:X.calm=true):CallP X (.builtin "max") gMax:=by
  refine ⟨⟨_,call_max2 hc,fun W H vs ds Q ok r hg=>?_⟩,fun ds P P' hp hg=>?_⟩
  · unfold gMax at hg
    split at hg
    · obtain ⟨v,u,rfl,rv,ru⟩:=r.two
      cases rv;cases ru
      exact ⟨_,_,rfl,hg.now ok (.int _)⟩
    · exact hg.elim
  · unfold gMax at hg ⊢
    split at hg
    · exact hp _ hg
    · exact hg.elim
def gInt:List D→(D→Prop)→Prop:=fun ds Q=>match ds with
  | [.int i]=>Q (.int i)
  | [.bl b]=>Q (.int (if b then 1 else 0))
  | _=>False
theorem c_int:CallP X (.type "int") gInt:=by
  refine ⟨⟨_,call_int1,fun W H vs ds Q ok r hg=>?_⟩,fun ds P P' hp hg=>?_⟩
  · unfold gInt at hg
    split at hg
    · obtain ⟨v,rfl,rv⟩:=r.one
      cases rv
      exact .inl ⟨_,rfl,hg.now ok (.int _)⟩
    · obtain ⟨v,rfl,rv⟩:=r.one
      cases rv
      exact .inr ⟨_,rfl,hg.now ok (.int _)⟩
    · exact hg.elim
  · unfold gInt at hg ⊢
    split at hg
    · exact hp _ hg
    · exact hp _ hg
    · exact hg.elim
end
section
variable {X:Cx} {EX:XK} {pos p2:Pos} {a:Expr} {wa:WE}
def tyD:D→Option String
  | .non=>some "NoneType" | .bl _=>some "bool" | .int _=>some "int" | .str _=>some "str" | .tup _=>some "tuple" | .lst _=>some "list" | .dic=>some "dict"
  | .pen=>none | .cls _=>none | .exc _=>none | .ty _=>none | .scr _=>none
def isTy (t T:String):Bool:=t == T || (t == "bool" && T == "int")
def tys:List String:=["int", "bool", "str", "tuple", "list"]
theorem kit_ty (K:PySem.W.Frag) {d:D} {t T:String} (ht:tyD d=some t) (hT:T∈tys):PySem.W.kitOne K (.type t) (.type T)=some (isTy t T):=by
  simp only [tys,List.mem_cons,List.not_mem_nil,or_false] at hT
  cases d<;>first
    | (cases ht;done)
    | (cases ht;rcases hT with rfl | rfl | rfl | rfl | rfl<;>rfl)
def gIs:List D→(D→Prop)→Prop:=fun ds Q=>match ds with
  | [x,.ty T]=>∃ t,tyD x=some t∧T∈tys∧Q (.bl (isTy t T))
  | _=>False
theorem gIs.mono:∀ ds P P',(∀ d,P d→P' d)→gIs ds P→gIs ds P':=fun ds P P' hp hg=>by
  unfold gIs at hg ⊢
  split at hg
  · obtain ⟨t,h1,h2,h3⟩:=hg;exact ⟨t,h1,h2,hp _ h3⟩
  · exact hg.elim
theorem ZeC:CallP X (.builtin "isinstance") gIs:=by
  refine ⟨⟨fun vs H Q=>∃ W ds,WOk W H∧Reps X.K W vs ds∧gIs ds (RQ X.K W H Q),?_,fun W H vs ds Q ok r hg=>⟨W,ds,ok,r,hg⟩⟩,gIs.mono⟩
  rintro pins s σ H vs us Q I rv ⟨W,ds,ok,rs,hg⟩
  unfold gIs at hg
  split at hg
  · rename_i x T
    obtain ⟨t,h1,h2,q⟩:=hg
    obtain ⟨v,w',rfl,r1,r2⟩:=rs.two
    cases r2
    obtain ⟨u,u2,rfl,ru,ru2⟩:=vals2 rv
    obtain rfl:u2=Value.type T:=ru2
    have e:=kit_ty X.K h1 h2
    have fin:∀ tk,EP X pins σ Q (.bool (isTy t T)) { s with toks:=tk }:=fun tk=>⟨.bl _,H,I.tok tk,rfl,q.now ok (.bl _)⟩
    cases r1 with
    | non=>cases h1;cases ru;exact PySem.W.kia_one PySem.W.kitx_none I.kIn True.intro e (fun z=>nomatch z) fin
    | bl b=>cases h1;cases ru;exact PySem.W.kia_one PySem.W.kitx_bool I.kIn True.intro e (fun z=>nomatch z) fin
    | int i=>cases h1;obtain ⟨t',rfl⟩:=ru;exact PySem.W.kia_one PySem.W.kitx_int I.kIn True.intro e (fun z=>nomatch z) fin
    | str i=>cases h1;obtain ⟨t',rfl⟩:=ru;exact PySem.W.kia_one PySem.W.kitx_str I.kIn True.intro e (fun z=>nomatch z) fin
    | tup e0 rr=>
      cases h1;cases ru
      obtain ⟨its,_,⟨o,h1,h2,_⟩,_⟩:=I.tuple (SqT.of (ok.g _ _ e0))
      exact PySem.W.kia_one PySem.W.kitx_tuple I.kIn ⟨o,h1,h2⟩ e (fun z=>nomatch z) fin
    | ktup e0 rr=>
      cases h1;cases ru
      obtain ⟨its,_,⟨o,h1,h2,_⟩,_⟩:=I.tuple (.inr e0)
      exact PySem.W.kia_one PySem.W.kitx_tuple I.kIn ⟨o,h1,h2⟩ e (fun z=>nomatch z) fin
    | lst e0 rr=>
      cases h1;cases ru
      obtain ⟨its,_,⟨o,n,h1,h2,_⟩,_⟩:=I.list (SqL.of (ok.g _ _ e0))
      exact PySem.W.kia_one PySem.W.kitx_list I.kIn ⟨o,h1,h2⟩ e (fun z=>nomatch z) fin
    | @dic a e0=>
      cases h1;cases ru
      obtain ⟨_,_,vs,_,p⟩:=(show ObjOk X.prog X.w H s.heap a (.dK []) from I.hok a _ (ok.g _ _ e0))
      obtain ⟨o,es,ep,h1,h2,_⟩:=p
      exact PySem.W.kia_one PySem.W.kitx_dict I.kIn ⟨o,h1,h2.1⟩ e (fun z=>nomatch z) fin
    | pen _=>cases h1
    | cls _=>cases h1
    | exc _ _=>cases h1
    | ty _=>cases h1
    | scr _ _=>cases h1
  · exact hg.elim
theorem call_all_bl (hc:X.calm=true):CallR X (.builtin "all") (fun xs H Q=>∃ (p:Addr) (bs:List Bool),xs=[.ref p]∧SqL X.K H p (bs.map V.bl)∧Q (.bl (bs.all id)) H):=by
  intro pins s σ H xs us Q I r h
  obtain ⟨p,bs,rfl,hq,q⟩:=h
  obtain ⟨u,rfl,ru⟩:=vals1 r
  cases ru
  obtain ⟨its,rv,pl,hz⟩:=I.list hq
  have hpl:p < s.heap.objs.size:=by obtain ⟨o,n,e,_⟩:=pl;exact Heap.lt_size e
  have hits:its=bs.map Value.bool:=by
    clear hz pl hq q
    induction bs generalizing its with
    | nil=>cases rv;rfl
    | cons b bs ih=>
      cases rv with
      | cons r1 r2=>
        obtain rfl:_=Value.bool b:=r1
        rw [List.map_cons,ih _ r2]
  subst hits
  refine call_all_walk (wpAny_pyIter_list pl.isList ?_)
  have hh:X.A.in1.handled=none:=I.ok.hd hc
  refine ⟨s.heap.objs.size,_,_,_,_,_,fun i=>(bs[i]?).getD true,rfl,Walks.list hh _ p (Nat.ne_of_lt hpl) (bs.map Value.bool).toArray,⟨⟨_,Heap.get?_push_size _ rfl,rfl,rfl⟩,pl.isList.at fun o e=>Heap.get?_push_of_some _ e⟩,fun i v s' Q' E' hP hQ=>?_,fun h' tk hk=>?_⟩
  · have hP':(bs.map Value.bool)[i]? = some v:=by simpa using hP
    rw [List.getElem?_map] at hP'
    cases e:bs[i]? with
    | none=>rw [e] at hP';cases hP'
    | some b=>
      rw [e] at hP'
      have:v=Value.bool b:=(Option.some.inj hP').symm
      subst this
      refine wpAny_truthy_bool ?_
      have e2:(bs[i]?).getD true=b:=by rw [e];rfl
      dsimp only at hQ
      rw [e2] at hQ
      exact hQ
  · have e:((List.range (bs.map Value.bool).toArray.size).all fun i=>(bs[i]?).getD true)=bs.all id:=by
      rw [List.size_toArray,List.length_map,Bool.eq_iff_iff,List.all_eq_true,List.all_eq_true]
      constructor
      · intro h b hb
        obtain ⟨i,hi,e⟩:=List.mem_iff_getElem.mp hb
        have:=h i (List.mem_range.mpr hi)
        rw [List.getElem?_eq_getElem hi] at this
        rw [← e]
        exact this
      · intro h i hi
        have hi':=List.mem_range.mp hi
        rw [List.getElem?_eq_getElem hi']
        exact h _ (List.getElem_mem hi')
    rw [e]
    refine ⟨.bl (bs.all id),H,?_,rfl,q⟩
    refine I.kept fun b o e=>hk b o ?_ (Heap.get?_push_of_some _ e)
    intro z
    have:b=s.heap.objs.size:=by simpa using z
    exact absurd (Heap.lt_size e) (by rw [this];exact Nat.lt_irrefl _)
def gAll:List D→(D→Prop)→Prop:=fun ds Q=>match ds with
  | [.lst xs]=>∃ bs:List Bool,xs=bs.map D.bl∧Q (.bl (bs.all id))
  | _=>False
theorem reps_bl {K:PySem.W.Frag} {W:Wd}:∀ {vs:List V} {bs:List Bool},Reps K W vs (bs.map D.bl)→vs=bs.map V.bl
  | _,[],.nil=>rfl
  | _,b::bs,.cons r t=>by cases r;rw [List.map_cons,reps_bl t]
theorem c_all (hc:X.calm=true):CallP X (.builtin "all") gAll:=by
  refine ⟨⟨_,call_all_bl hc,fun W H vs ds Q ok r hg=>?_⟩,fun ds P P' hp hg=>?_⟩
  · unfold gAll at hg
    split at hg
    · obtain ⟨bs,rfl,q⟩:=hg
      obtain ⟨v,rfl,rv⟩:=r.one
      obtain ⟨p,us,rfl,h1,rr⟩:=rv.sql ok
      rw [reps_bl rr] at h1
      exact ⟨p,bs,rfl,h1,q.now ok (.bl _)⟩
    · exact hg.elim
  · unfold gAll at hg ⊢
    split at hg
    · obtain ⟨bs,e,q⟩:=hg;exact ⟨bs,e,hp _ q⟩
    · exact hg.elim
end
section
variable {K:PySem.W.Frag} {W0 W:Wd} {H0 H:Hp} {σ:L2.St} {ρ:Rho}
theorem SOk.set (s:SOk K W0 H0 W σ H ρ) {i:Nat} {v:V} {x:D} (r:Rep K W v x):SOk K W0 H0 W (σ.set i (some v)) H (ρ.set i (.d x)) where
  ext:=s.ext
  len:=by rw [List.length_set,List.length_set];exact s.len
  d:=fun j y e=>by
    by_cases h:i=j
    · subst h
      by_cases hi:i < ρ.length
      · rw [List.getElem?_set_self hi] at e
        cases e
        exact ⟨v,List.getElem?_set_self (by rw [← s.len];exact hi),r⟩
      · rw [List.getElem?_eq_none (by rw [List.length_set];omega)] at e;cases e
    · rw [List.getElem?_set_ne h] at e ⊢;exact s.d j y e
  o:=fun j ys e=>by
    by_cases h:i=j
    · subst h
      by_cases hi:i < ρ.length
      · rw [List.getElem?_set_self hi] at e;cases e
      · rw [List.getElem?_eq_none (by rw [List.length_set];omega)] at e;cases e
    · rw [List.getElem?_set_ne h] at e ⊢;exact s.o j ys e
  ne:=fun j k xs ys a hjk e1 e2 e3=>by
    have nj:i≠j:=fun h=>by
      subst h
      by_cases hi:i < ρ.length
      · rw [List.getElem?_set_self hi] at e1;cases e1
      · rw [List.getElem?_eq_none (by rw [List.length_set];omega)] at e1;cases e1
    have nk:i≠k:=fun h=>by
      subst h
      by_cases hi:i < ρ.length
      · rw [List.getElem?_set_self hi] at e2;cases e2
      · rw [List.getElem?_eq_none (by rw [List.length_set];omega)] at e2;cases e2
    rw [List.getElem?_set_ne nj] at e1 e3
    rw [List.getElem?_set_ne nk] at e2 ⊢
    exact s.ne j k xs ys a hjk e1 e2 e3
  oo:=s.oo.set (fun _ h=>by cases h) (fun j h=>List.getElem?_set_ne h) fun _ _ h=>by cases h
theorem SOk.own {W1:Wd} {H1:Hp} (s1:SOk K W0 H0 W1 σ H1 ρ) (x:Ext W1 H1 W H) {i:Nat} {a:Addr} {vs:List V} {xs:List D} (hz:H1 a=none) (h1:H a=some (.lst vs)) (h2:W.G a=none) (h3:¬ W.Pn a) (r:Reps K W vs xs):SOk K W0 H0 W (σ.set i (some (.ref a))) H (ρ.set i (.ow xs)):=by
 have s:=s1.step x
 have h4:H0 a=none:=s1.ext.isN hz
 have hn:∀ (j:Nat) ys b,j≠i→ρ[j]? = some (SV.ow ys)→σ[j]? = some (some (V.ref b))→b≠a:=fun j ys b _ ej eb q=>by
  obtain ⟨b',us,q1,q2,_⟩:=s1.o j ys ej
  rw [eb] at q1
  cases q1
  rw [q,hz] at q2
  cases q2
 exact {
  ext:=s.ext
  len:=by rw [List.length_set,List.length_set];exact s.len
  d:=fun j y e=>by
    by_cases h:i=j
    · subst h
      by_cases hi:i < ρ.length
      · rw [List.getElem?_set_self hi] at e;cases e
      · rw [List.getElem?_eq_none (by rw [List.length_set];omega)] at e;cases e
    · rw [List.getElem?_set_ne h] at e ⊢;exact s.d j y e
  o:=fun j ys e=>by
    by_cases h:i=j
    · subst h
      by_cases hi:i < ρ.length
      · rw [List.getElem?_set_self hi] at e
        cases e
        exact ⟨a,vs,List.getElem?_set_self (by rw [← s.len];exact hi),h1,h2,h3,h4,r⟩
      · rw [List.getElem?_eq_none (by rw [List.length_set];omega)] at e;cases e
    · rw [List.getElem?_set_ne h] at e ⊢;exact s.o j ys e
  ne:=fun j k ys zs b hjk e1 e2 e3 e4=>by
    by_cases hj:i=j
    · subst hj
      by_cases hi:i < ρ.length
      · rw [List.getElem?_set_self (by rw [← s.len];exact hi)] at e3
        cases e3
        rw [List.getElem?_set_ne hjk] at e2 e4
        exact hn k zs _ (Ne.symm hjk) e2 e4 rfl
      · rw [List.getElem?_eq_none (by rw [List.length_set];omega)] at e1;cases e1
    · by_cases hk:i=k
      · subst hk
        by_cases hi:i < ρ.length
        · rw [List.getElem?_set_self (by rw [← s.len];exact hi)] at e4
          cases e4
          rw [List.getElem?_set_ne hj] at e1 e3
          exact hn j ys _ (Ne.symm hj) e1 e3 rfl
        · rw [List.getElem?_eq_none (by rw [List.length_set];omega)] at e2;cases e2
      · rw [List.getElem?_set_ne hj] at e1 e3
        rw [List.getElem?_set_ne hk] at e2 e4
        exact s.ne j k ys zs b hjk e1 e2 e3 e4
  oo:=by
    refine ⟨fun j xss e=>?_,fun j k xss yss e1 e2=>?_⟩
    · have h:i≠j:=fun h=>by
        subst h
        by_cases hi:i < ρ.length
        · rw [List.getElem?_set_self hi] at e;cases e
        · rw [List.getElem?_eq_none (by rw [List.length_set];omega)] at e;cases e
      rw [List.getElem?_set_ne h] at e
      obtain ⟨a',bs,e1,q,n⟩:=s1.oo.t j xss e
      refine ⟨a',bs,by rw [List.getElem?_set_ne h];exact e1,q.step x,fun k ys c ek ec=>?_⟩
      by_cases hk:i=k
      · subst hk
        by_cases hi:i < ρ.length
        · rw [List.getElem?_set_self (by rw [← s.len];exact hi)] at ec
          cases ec
          exact q.here hz
        · rw [List.getElem?_eq_none (by rw [List.length_set];omega)] at ek;cases ek
      · rw [List.getElem?_set_ne hk] at ek ec
        exact n k ys c ek ec
    · have g:∀ {j:Nat} {xss:List (List D)},(ρ.set i (.ow xs))[j]? = some (SV.oo xss)→ρ[j]? = some (SV.oo xss):=fun {j xss} e=>by
        by_cases h:i=j
        · subst h
          by_cases hi:i < ρ.length
          · rw [List.getElem?_set_self hi] at e;cases e
          · rw [List.getElem?_eq_none (by rw [List.length_set];omega)] at e;cases e
        · rw [List.getElem?_set_ne h] at e;exact e
      exact s.oo.u j k xss yss (g e1) (g e2) }
def pub (i:Nat) (ρ:Rho):Rho:=match ρ[i]? with
  | some (.ow xs)=>ρ.set i (.d (.lst xs))
  | _=>ρ
theorem SOk.pub (s:SOk K W0 H0 W σ H ρ) (i:Nat):∃ W',SOk K W0 H0 W' σ H (LP.pub i ρ)∧Wle W W':=by
  unfold LP.pub
  split
  · rename_i xs e
    obtain ⟨a,vs,e1,e2,e3,e4,e5,r⟩:=s.o i xs e
    have hi:i < ρ.length:=(List.getElem?_eq_some_iff.mp e).1
    refine ⟨W.put a (.lst vs),⟨s.ext.pub e5 e2 e4 e3,by rw [List.length_set];exact s.len,fun j y ej=>?_,fun j ys ej=>?_,fun j k ys zs b hjk ej ek e6=>?_,?_⟩,⟨Zcm e3,fun _ z=>z⟩⟩
    · by_cases h:i=j
      · subst h
        rw [List.getElem?_set_self hi] at ej
        cases ej
        exact ⟨_,e1,.lst (by unfold Wd.put;dsimp only;rw [upd_same]) (r.mono (Zcm e3) fun _ z=>z)⟩
      · rw [List.getElem?_set_ne h] at ej
        obtain ⟨v,q1,q2⟩:=s.d j y ej
        exact ⟨v,q1,q2.mono (Zcm e3) fun _ z=>z⟩
    · have h:i≠j:=fun h=>by subst h;rw [List.getElem?_set_self hi] at ej;cases ej
      rw [List.getElem?_set_ne h] at ej
      obtain ⟨b,us,q1,q2,q3,q4,q5,rr⟩:=s.o j ys ej
      have hba:b≠a:=fun z=>s.ne i j xs ys a h e ej e1 (by rw [← z];exact q1)
      refine ⟨b,us,q1,q2,?_,q4,q5,rr.mono (Zcm e3) fun _ z=>z⟩
      unfold Wd.put
      dsimp only
      rw [upd_ne hba]
      exact q3
    · have h:i≠j:=fun h=>by subst h;rw [List.getElem?_set_self hi] at ej;cases ej
      have h':i≠k:=fun h=>by subst h;rw [List.getElem?_set_self hi] at ek;cases ek
      rw [List.getElem?_set_ne h] at ej
      rw [List.getElem?_set_ne h'] at ek
      exact s.ne j k ys zs b hjk ej ek e6
    · exact OOs.set ⟨fun j xss ej=>let ⟨a',bs,q1,q,n⟩:=s.oo.t j xss ej;⟨a',bs,q1,q.put (n i xs a e e1) e3,n⟩,s.oo.u⟩ (fun _ h=>by cases h) (fun _ _=>rfl) fun _ _ h=>by cases h
  · exact ⟨W,s,.refl W⟩
theorem SOk.chg (s:SOk K W0 H0 W σ H ρ) {i:Nat} {a:Addr} {xs ys:List D} {us:List V} (e:ρ[i]? = some (.ow xs)) (e1:σ[i]? = some (some (.ref a))) (r:Reps K W us ys):SOk K W0 H0 W σ (upd H a (.lst us)) (ρ.set i (.ow ys)):=by
  obtain ⟨a',vs,q1,q2,q3,q4,q5,rr⟩:=s.o i xs e
  rw [e1] at q1
  cases q1
  have hi:i < ρ.length:=(List.getElem?_eq_some_iff.mp e).1
  refine ⟨s.ext.chg q5 q2 q4 q3,by rw [List.length_set];exact s.len,fun j y ej=>?_,fun j zs ej=>?_,fun j k ys' zs b hjk ej ek e6=>?_,OOs.set ⟨fun j xss ej=>let ⟨a',bs,p1,q,n⟩:=s.oo.t j xss ej;⟨a',bs,p1,q.upd (n i xs a e e1),n⟩,s.oo.u⟩ (fun _ h=>by cases h) (fun _ _=>rfl) fun ys c _ ec j xss a' bs _ ej ea _ n=>n i xs c e ec⟩
  · have h:i≠j:=fun h=>by subst h;rw [List.getElem?_set_self hi] at ej;cases ej
    rw [List.getElem?_set_ne h] at ej
    exact s.d j y ej
  · by_cases h:i=j
    · subst h
      rw [List.getElem?_set_self hi] at ej
      cases ej
      exact ⟨a,us,e1,upd_same,q3,q4,q5,r⟩
    · rw [List.getElem?_set_ne h] at ej
      obtain ⟨b,ws,p1,p2,p3,p4,p5,pr⟩:=s.o j zs ej
      have hba:b≠a:=fun z=>s.ne i j xs zs a h e ej e1 (by rw [← z];exact p1)
      exact ⟨b,ws,p1,by rw [upd_ne hba];exact p2,p3,p4,p5,pr⟩
  · by_cases h:i=j
    · subst h
      rw [List.getElem?_set_ne hjk] at ek
      exact s.ne i k xs zs b hjk e ek e6
    · rw [List.getElem?_set_ne h] at ej
      by_cases h':i=k
      · subst h'
        intro z
        exact s.ne i j xs ys' b h e ej z e6
      · rw [List.getElem?_set_ne h'] at ek
        exact s.ne j k ys' zs b hjk ej ek e6
end
section
variable {X:Cx} {EX:XK} {pos:Pos} {st:Stmt} {rest:List Stmt} {e a b c:Expr} {w wa wb:WE} {z z':WS}
def zNx:WS:=fun _ N ρ=>N.nx ρ
def zSeq (z z':WS):WS:=fun E N ρ=>z E { N with nx:=z' E N } ρ
theorem Nds.le_nx {N N':Nds} (h:N.le N') {n n':Rho→Prop} (hn:∀ ρ,n ρ→n' ρ):Nds.le { N with nx:=n } { N' with nx:=n' }:=⟨hn,h.rt,h.bk,h.ct⟩
theorem Zar:PZs X EX [] zNx:=⟨⟨_,pss_nil,fun _ _ _ W σ H ρ _ Dn N s fl _ no h=>no.nx W σ H ρ s fl h⟩,fun _ _ _ _ hl h=>hl.nx _ h⟩
theorem Zad (h1:PZ X EX st z) (h2:PZs X EX rest z'):PZs X EX (st::rest) (zSeq z z'):=by
  obtain ⟨t1,p1,k1⟩:=h1.t
  obtain ⟨t2,p2,k2⟩:=h2.t
  refine ⟨⟨_,pss_cons p1 p2,fun W0 H0 F W σ H ρ E Dn N s fl eo no h=>?_⟩,fun E ρ N N' hl h=>h1.mono _ _ _ _ (Nds.le_nx hl fun ρ' h'=>h2.mono _ _ _ _ hl h') h⟩
  exact k1 W0 H0 F W σ H ρ E _ { N with nx:=z' E N } s fl eo ⟨fun W1 σ1 H1 ρ1 s1 f1 hn=>k2 W0 H0 F W1 σ1 H1 ρ1 E Dn N s1 f1 eo no hn,no.rt,no.bk,no.ct⟩ h
theorem Zaf (h1:PZ X EX st z):PZs X EX [st] z:=by
  obtain ⟨t1,p1,k1⟩:=h1.t
  exact ⟨⟨_,pss_one p1,k1⟩,h1.mono⟩
def zPub (i:Nat) (z:WS):WS:=fun E N ρ=>z E N (pub i ρ)
theorem Zc4 (i:Nat) {sts:List Stmt} (h:PZs X EX sts z):PZs X EX sts (zPub i z):=by
  obtain ⟨t,p,k⟩:=h.t
  refine ⟨⟨t,p,fun W0 H0 F W σ H ρ E Dn N s fl eo no h=>?_⟩,fun E ρ N N' hl q=>h.mono _ _ _ _ hl q⟩
  obtain ⟨W',s',f'⟩:=s.pub i
  exact k W0 H0 F W' σ H _ E Dn N s' (fl.trans f') eo no h
def ZbQ (w:WE):WS:=fun E N ρ=>w E ρ fun _=>N.nx ρ
theorem ZeQ (he:PX X EX e w) (hs:swapsWith e none pos.line X.env=pure false:=by rfl):PZ X EX (.Expr e pos) (ZbQ w):=by
  obtain ⟨t,p,k⟩:=he.t
  refine ⟨⟨_,ps_expr p hs,fun W0 H0 F W σ H ρ E Dn N s fl eo no h=>?_⟩,fun E ρ N N' hl q=>he.mono _ _ _ _ (fun _=>hl.nx ρ) q⟩
  exact k W0 H0 W σ H ρ E _ s eo (he.mono _ _ _ _ (fun d hd v W1 H1 x1 r1=>no.nx W1 σ H1 ρ (s.step x1) (fl.ext x1) hd) h)
def zRet (w:WE):WS:=fun E N ρ=>w E ρ N.rt
theorem Zah (he:PX X EX e w):PZ X EX (.Return (some e) pos) (zRet w):=by
  obtain ⟨t,p,k⟩:=he.t
  refine ⟨⟨_,ps_ret p,fun W0 H0 F W σ H ρ E Dn N s fl eo no h=>?_⟩,fun E ρ N N' hl q=>he.mono _ _ _ _ hl.rt q⟩
  exact k W0 H0 W σ H ρ E _ s eo (he.mono _ _ _ _ (fun d hd v W1 H1 x1 r1=>no.rt d v W1 H1 (s.ext.trans x1) r1 hd) h)
def zIf (w:WT) (z z':WS):WS:=fun E N ρ=>w E ρ fun b=>if b=true then z E N ρ else z' E N ρ
theorem ZbF {w:WT} {as bs:List Stmt} (hc:PXT X EX c w) (ha:PZs X EX as z) (hb:PZs X EX bs z'):PZ X EX (.If c as bs pos) (zIf w z z'):=by
  obtain ⟨t,p,k⟩:=hc.t
  obtain ⟨ta,pa,ka⟩:=ha.t
  obtain ⟨tb,pb,kb⟩:=hb.t
  refine ⟨⟨_,ps_if p pa pb,fun W0 H0 F W σ H ρ E Dn N s fl eo no h=>?_⟩,fun E ρ N N' hl q=>hc.mono _ _ _ _ (fun b hb'=>?_) q⟩
  · refine k W0 H0 W σ H ρ E _ s eo (hc.mono _ _ _ _ (fun b hb' W1 H1 x1=>?_) h)
    cases b with
    | true=>rw [if_pos rfl] at hb' ⊢;exact ka W0 H0 F W1 σ H1 ρ E Dn N (s.step x1) (fl.ext x1) eo no hb'
    | false=>rw [if_neg (by decide)] at hb' ⊢;exact kb W0 H0 F W1 σ H1 ρ E Dn N (s.step x1) (fl.ext x1) eo no hb'
  · cases b with
    | true=>rw [if_pos rfl] at hb' ⊢;exact ha.mono _ _ _ _ hl hb'
    | false=>rw [if_neg (by decide)] at hb' ⊢;exact hb.mono _ _ _ _ hl hb'
def zSet (i:Nat) (w:WE):WS:=fun E N ρ=>w E ρ fun x=>N.nx (ρ.set i (.d x))
theorem ZaB (i:Nat) {x:Str} {pos':Pos} (he:PX X EX e w) (hN:X.N.Nodup) (hi:X.N[i]? = some x:=by rfl) (hx:Loc X.env.scope x:=by first | exact Or.inl rfl | exact Or.inr rfl) (hs:swapsWith e (some (.Name x pos')) pos.line X.env=pure false:=by rfl)
    (hf:X.fn x=true∨X.env.scope.names.lookup x=some .local:=by first | exact .inl rfl | exact .inr rfl | assumption):PZ X EX (.Assign [.Name x pos'] e pos) (zSet i w):=by
  obtain ⟨t,p,k⟩:=he.t
  refine ⟨⟨_,ps_set hN hi hx p hs hf,fun W0 H0 F W σ H ρ E Dn N s fl eo no h=>?_⟩,fun E ρ N N' hl q=>he.mono _ _ _ _ (fun _=>hl.nx _) q⟩
  exact k W0 H0 W σ H ρ E _ s eo (he.mono _ _ _ _ (fun d hd v W1 H1 x1 r1=>no.nx W1 _ H1 _ ((s.step x1).set r1) (fl.ext x1) hd) h)
def zOwn (i:Nat) (t:WA):WS:=fun E N ρ=>t E ρ fun xs=>N.nx (ρ.set i (.ow xs))
theorem pz_own (i:Nat) {t:WA} {x:Str} {pos':Pos} (he:PXL X EX e t) (hN:X.N.Nodup) (hi:X.N[i]? = some x:=by rfl) (hx:Loc X.env.scope x:=by first | exact Or.inl rfl | exact Or.inr rfl) (hs:swapsWith e (some (.Name x pos')) pos.line X.env=pure false:=by rfl)
    (hf:X.fn x=true∨X.env.scope.names.lookup x=some .local:=by first | exact .inl rfl | exact .inr rfl | assumption):PZ X EX (.Assign [.Name x pos'] e pos) (zOwn i t):=by
  obtain ⟨t,p,k⟩:=he.t
  refine ⟨⟨_,ps_set hN hi hx p hs hf,fun W0 H0 F W σ H ρ E Dn N s fl eo no h=>?_⟩,fun E ρ N N' hl q=>he.mono _ _ _ _ (fun _=>hl.nx _) q⟩
  refine k W0 H0 W σ H ρ E _ s eo (he.mono _ _ _ _ (fun xs hd a vs W1 H1 x1 e1 e2 e3 e4 r1=>no.nx W1 _ H1 _ (s.own x1 e4 e1 e2 e3 r1) (fl.ext x1) hd) h)
end
def ItOk (K:PySem.W.Frag) (W:Wd) (J:It) (ds:List D):Prop:=
  ∀ W2 H2 (i:Nat),(∀ a o,W.G a=some o→W2.G a=some o)→(∀ a,W.Pn a→W2.Pn a)→WOk W2 H2→
    (∀ d,ds[i]? = some d→J.go i H2∧∀ x H3,J.yld i H2 x H3→∃ W3,Ext W2 H2 W3 H3∧Rep K W3 x d)∧(ds.length≤i→J.stop i H2)
structure PXI (X:Cx) (EX:XK) (tg iter:Expr) (w:WA):Prop where
  t:∃ t,PI X tg iter t∧∀ W0 H0 W σ H ρ E R,SOk X.K W0 H0 W σ H ρ→EOk X.K W0 H0 E EX→w E ρ (fun ds=>∀ W' H' J,Ext W H W' H'→ItOk X.K W' J ds→R J H')→t σ H R
  mono:∀ E ρ P P',(∀ d,P d→P' d)→w E ρ P→w E ρ P'
section
variable {X:Cx} {EX:XK} {pos p:Pos} {tg e a b:Expr} {w wa:WE}
def isL (Q:List D→Prop):D→Prop
  | .lst xs=>Q xs
  | _=>False
theorem isL_get {Q:List D→Prop} {d:D} (h:isL Q d):∃ xs,d = .lst xs∧Q xs:=by
  cases d with
  | lst xs=>exact ⟨xs,rfl,h⟩
  | _=>exact h.elim
theorem isL.mono {Q Q':List D→Prop} (h:∀ b,Q b→Q' b):∀ d,isL Q d→isL Q' d:=fun d z=>by
  obtain ⟨xs,rfl,q⟩:=isL_get z
  exact h _ q
def isT (Q:List D→Prop):D→Prop
  | .tup xs=>Q xs
  | _=>False
theorem isT_get {Q:List D→Prop} {d:D} (h:isT Q d):∃ xs,d = .tup xs∧Q xs:=by
  cases d with
  | tup xs=>exact ⟨xs,rfl,h⟩
  | _=>exact h.elim
theorem isT.mono {Q Q':List D→Prop} (h:∀ b,Q b→Q' b):∀ d,isT Q d→isT Q' d:=fun d z=>by
  obtain ⟨xs,rfl,q⟩:=isT_get z
  exact h _ q
def iL (w:WE):WA:=fun E ρ Q=>w E ρ (isL Q)
def iT (w:WE):WA:=fun E ρ Q=>w E ρ (isT Q)
def rng (lo:Int) (n:Nat):List D:=(List.range n).map fun (k:Nat)=>D.int (lo+k)
theorem it_rng {K:PySem.W.Frag} {W:Wd} (lo:Int) (n:Nat):ItOk K W (Itr lo n) (rng lo n):=by
  intro W2 H2 i g2 p2 ok2
  refine ⟨fun d hd=>?_,fun hi=>?_⟩
  · unfold rng at hd
    rw [List.getElem?_map] at hd
    by_cases hi:i < n
    · rw [List.getElem?_range hi] at hd
      cases hd
      refine ⟨hi,fun x H3 y=>?_⟩
      obtain ⟨rfl,rfl⟩:=y
      exact ⟨W2,.refl ok2,.int _⟩
    · rw [List.getElem?_eq_none (by simpa using hi)] at hd;cases hd
  · have:(rng lo n).length=n:=by unfold rng;simp
    rw [this] at hi
    exact hi
def i1 (Q:List D→Prop):List D→Prop
  | [.int j]=>-10000≤j∧j < 10000∧Q (rng 0 j.toNat)
  | _=>False
def i2 (Q:List D→Prop):List D→Prop
  | [.int i,.int j]=>(-10000≤i∧i < 10000∧-10000≤j∧j < 10000)∧Q (rng i (j - i).toNat)
  | _=>False
theorem i1.mono {Q Q':List D→Prop} (h:∀ b,Q b→Q' b):∀ d,i1 Q d→i1 Q' d:=fun d z=>by
  unfold i1 at z ⊢
  split at z
  · exact ⟨z.1,z.2.1,h _ z.2.2⟩
  · exact z.elim
theorem i2.mono {Q Q':List D→Prop} (h:∀ b,Q b→Q' b):∀ d,i2 Q d→i2 Q' d:=fun d z=>by
  unfold i2 at z ⊢
  split at z
  · exact ⟨z.1,h _ z.2⟩
  · exact z.elim
def iR1 (t:WA):WA:=fun E ρ Q=>t E ρ (i1 Q)
def iR2 (t:WA):WA:=fun E ρ Q=>t E ρ (i2 Q)
theorem Zb8 {t:WA} (hm:X.mg "range" = none) (ha:PXA X EX [a] t) (hg:Gl X "range" :=by rfl) (hs:starEach [a] X.env=[(false,eval a X.env)]:=by rfl):PXI X EX tg (.Call (.Name "range" p) [a] [] pos) (iR1 t):=by
  obtain ⟨t,q,k⟩:=ha.t
  refine ⟨⟨_,pi_range1 hg hm q hs,fun W0 H0 W σ H ρ E R s eo h=>?_⟩,fun E ρ P P' hp h=>ha.mono _ _ _ _ (i1.mono hp) h⟩
  refine k W0 H0 W σ H ρ E _ s eo (ha.mono _ _ _ _ (fun ds hd vs W1 H1 x1 r1=>?_) h)
  unfold i1 at hd
  split at hd
  · obtain ⟨v,rfl,rv⟩:=r1.one
    cases rv
    exact ⟨_,rfl,by omega,by omega,hd.2.2 W1 H1 _ x1 (it_rng _ _)⟩
  · exact hd.elim
theorem ZcT {t:WA} (hm:X.mg "range" = none) (ha:PXA X EX [a,b] t) (hg:Gl X "range" :=by rfl) (hs:starEach [a,b] X.env=[(false,eval a X.env),(false,eval b X.env)]:=by rfl) (hs2:starEach [b] X.env=[(false,eval b X.env)]:=by rfl) :
    PXI X EX tg (.Call (.Name "range" p) [a,b] [] pos) (iR2 t):=by
  obtain ⟨t,q,k⟩:=ha.t
  refine ⟨⟨_,pi_range2 hg hm q hs hs2,fun W0 H0 W σ H ρ E R s eo h=>?_⟩,fun E ρ P P' hp h=>ha.mono _ _ _ _ (i2.mono hp) h⟩
  refine k W0 H0 W σ H ρ E _ s eo (ha.mono _ _ _ _ (fun ds hd vs W1 H1 x1 r1=>?_) h)
  unfold i2 at hd
  split at hd
  · obtain ⟨v,u,rfl,rv,ru⟩:=r1.two
    cases rv;cases ru
    exact ⟨_,_,rfl,⟨by omega,by omega,by omega,by omega⟩,hd.2 W1 H1 _ x1 (it_rng _ _)⟩
  · exact hd.elim
end
abbrev WG:=D→Rho→(Rho→Prop)→Prop
def noOwn (ρ:Rho):Prop:=∀ (i:Nat),(∀ xs,ρ[i]?≠some (SV.ow xs))∧∀ xss,ρ[i]?≠some (SV.oo xss)
structure PXG (X:Cx) (tg:Expr) (g:WG):Prop where
  t:∃ t,PG X tg t∧∀ W0 H0 W σ H ρ d v Q,SOk X.K W0 H0 W σ H ρ→Rep X.K W v d→g d ρ (fun ρ'=>∀ σ',SOk X.K W0 H0 W σ' H ρ'→Q σ' H)→t v σ H Q
  mono:∀ d ρ P P',(∀ r,P r→P' r)→g d ρ P→g d ρ P'
  own:∀ d ρ P,noOwn ρ→g d ρ P→g d ρ (fun r=>noOwn r∧P r)
section
variable {X:Cx} {pos:Pos}
theorem noOwn.set {ρ:Rho} (h:noOwn ρ) (i:Nat) (d:D):noOwn (ρ.set i (.d d)):=fun j=>by
  by_cases hj:i=j
  · subst hj
    by_cases hi:i < ρ.length
    · rw [List.getElem?_set_self hi];exact ⟨fun _ e=>(by cases e),fun _ e=>(by cases e)⟩
    · rw [List.getElem?_eq_none (by rw [List.length_set];omega)];exact ⟨fun _ e=>(by cases e),fun _ e=>(by cases e)⟩
  · rw [List.getElem?_set_ne hj];exact h j
def gN (i:Nat):WG:=fun d ρ k=>k (ρ.set i (.d d))
theorem Zaz (i:Nat) {x:Str} (hN:X.N.Nodup) (hi:X.N[i]? = some x:=by rfl) (hx:Loc X.env.scope x:=by first | exact Or.inl rfl | exact Or.inr rfl) (hf:X.fn x=true∨X.env.scope.names.lookup x=some .local:=by first | exact .inl rfl | exact .inr rfl | assumption) :
    PXG X (.Name x pos) (gN i):=
  ⟨⟨_,pg_name hN hi hx hf,fun W0 H0 W σ H ρ d v Q s r h=>h _ (s.set r)⟩,fun d ρ P P' hp h=>hp _ h,fun d ρ P ho h=>⟨ho.set i d,h⟩⟩
end
def Zbz (nv:Nat) (sel:List Nat) (ρ:Rho):Rho:=List.replicate nv .un++sel.map fun j=>match ρ[j]? with
  | some (.d x)=>.d x
  | _=>.un
theorem Zbz.own (nv:Nat) (sel:List Nat) (ρ:Rho):noOwn (Zbz nv sel ρ):=fun i=>by
  have key:∀ sv,(Zbz nv sel ρ)[i]? = some sv→sv = .un∨∃ x,sv = .d x:=fun sv e=>by
    unfold Zbz at e
    rcases Nat.lt_or_ge i nv with h | h
    · rw [List.getElem?_append_left (by simpa using h),List.getElem?_replicate] at e
      rw [if_pos h] at e
      cases e
      exact .inl rfl
    · rw [List.getElem?_append_right (by simpa using h),List.getElem?_map] at e
      cases q:sel[i - (List.replicate nv SV.un).length]? with
      | none=>rw [q] at e;cases e
      | some j=>
        rw [q] at e
        have e':=Option.some.inj e
        dsimp only at e'
        split at e'
        · exact .inr ⟨_,e'.symm⟩
        · exact .inl e'.symm
  refine ⟨fun xs e=>?_,fun xs e=>?_⟩
  · rcases key _ e with z | ⟨x,z⟩<;>cases z
  · rcases key _ e with z | ⟨x,z⟩<;>cases z
def No:Ex→Prop:=fun _=>False
def lcW (g:WG) (wf:WT) (we:WE):List D→Rho→List D→(List D→Prop)→Prop
  | [],_,acc,Q=>Q acc
  | d::ds,ρ,acc,Q=>g d ρ fun ρ2=>wf No ρ2 fun b=>if b=true then we No ρ2 fun y=>acc.length < small∧lcW g wf we ds ρ2 (acc++[y]) Q else lcW g wf we ds ρ2 acc Q
structure PXF (X:Cx) (EX:XK) (ifs:List Expr) (w:WT):Prop where
  t:∃ t,PF X ifs t∧∀ W0 H0 W σ H ρ E Q,SOk X.K W0 H0 W σ H ρ→EOk X.K W0 H0 E EX→w E ρ (fun b=>∀ W' H',Ext W H W' H'→Q b H')→t σ H Q
  mono:∀ E ρ P P',(∀ d,P d→P' d)→w E ρ P→w E ρ P'
def ZaN:WT:=fun _ _ Q=>Q true
section
variable {X:Cx} {EX:XK} {pos:Pos} {sc:Scope} {vars:List Str} {sel:List Nat} {elt target iter c:Expr} {ifs:List Expr} {g:WG} {wf:WT} {we:WE} {wi:WA}
theorem ZbK:PXF X EX [] ZaN:=⟨⟨_,pf_nil,fun _ _ W _ H _ _ _ s _ h=>h W H (.refl s.ok)⟩,fun _ _ _ _ hp h=>hp _ h⟩
theorem pxf_one (h:PXT X EX c wf):PXF X EX [c] wf:=let ⟨t,q,k⟩:=h.t;⟨⟨t,pf_one q,k⟩,h.mono⟩
theorem lcW.mono (hg:∀ d ρ P P',(∀ r,P r→P' r)→g d ρ P→g d ρ P') (hf:∀ E ρ P P',(∀ d,P d→P' d)→wf E ρ P→wf E ρ P') (he:∀ E ρ P P',(∀ d,P d→P' d)→we E ρ P→we E ρ P') :
    ∀ ds ρ acc P P',(∀ xs,P xs→P' xs)→lcW g wf we ds ρ acc P→lcW g wf we ds ρ acc P'
  | [],_,acc,P,P',hp,h=>hp _ h
  | d::ds,ρ,acc,P,P',hp,h=>hg _ _ _ _ (fun r hr=>hf _ _ _ _ (fun b hb=>by
      cases b with
      | true=>rw [if_pos rfl] at hb ⊢;exact he _ _ _ _ (fun y hy=>⟨hy.1,lcW.mono hg hf he ds r _ P P' hp hy.2⟩) hb
      | false=>rw [if_neg (by decide)] at hb ⊢;exact lcW.mono hg hf he ds r _ P P' hp hb) hr) h
def aLC (wi:WA) (nv:Nat) (sel:List Nat) (g:WG) (wf:WT) (we:WE):WA:=fun E ρ Q=>wi E ρ fun ds=>lcW g wf we ds (Zbz nv sel ρ) [] Q
theorem aLC.mono (hi:PXI X EX target iter wi) (hg:∀ d ρ P P',(∀ r,P r→P' r)→g d ρ P→g d ρ P') (hf:∀ E ρ P P',(∀ d,P d→P' d)→wf E ρ P→wf E ρ P') (he:∀ E ρ P P',(∀ d,P d→P' d)→we E ρ P→we E ρ P') :
    ∀ E ρ P P',(∀ d,P d→P' d)→aLC wi vars.length sel g wf we E ρ P→aLC wi vars.length sel g wf we E ρ P':=fun E ρ P P' hp h=>hi.mono _ _ _ _ (fun ds hds=>lcW.mono hg hf he ds _ _ _ _ hp hds) h
theorem SOk.lc {W0 W:Wd} {H0 H:Hp} {σ:L2.St} {ρ:Rho} (s:SOk X.K W0 H0 W σ H ρ) (nv:Nat) (sel:List Nat):SOk X.K W0 H0 W (lcSt nv sel σ) H (Zbz nv sel ρ) where
  ext:=s.ext
  len:=by unfold Zbz lcSt;simp
  d:=fun i x e=>by
    unfold Zbz at e
    rcases Nat.lt_or_ge i nv with h | h
    · rw [List.getElem?_append_left (by simpa using h),List.getElem?_replicate] at e
      split at e<;>cases e
    · rw [List.getElem?_append_right (by simpa using h),List.getElem?_map,List.length_replicate] at e
      cases q:sel[i - nv]? with
      | none=>rw [q] at e;cases e
      | some j=>
        rw [q] at e
        have e':=Option.some.inj e
        dsimp only at e'
        split at e'
        · rename_i y ey
          cases e'
          obtain ⟨v,ev,r⟩:=s.d j x ey
          refine ⟨v,?_,r⟩
          unfold lcSt
          rw [List.getElem?_append_right (by simpa using h),List.length_replicate,List.getElem?_map,q]
          show some ((σ[j]?).getD none)=_
          rw [ev]
          rfl
        · cases e'
  o:=fun i xs e=>absurd e ((Zbz.own nv sel ρ i).1 xs)
  ne:=fun i j xs ys a _ e=>absurd e ((Zbz.own nv sel ρ i).1 xs)
  oo:=.none fun i=>(Zbz.own nv sel ρ i).2
theorem SOk.chgD {K:PySem.W.Frag} {W0 W:Wd} {H0 H:Hp} {σ:L2.St} {ρ:Rho} {a:Addr} {o o':HO} (s:SOk K W0 H0 W σ H ρ) (ho:noOwn ρ) (h0:H0 a=none) (h1:H a=some o) (h2:¬ W.Pn a) (h3:W.G a=none):SOk K W0 H0 W σ (upd H a o') ρ:=
  ⟨s.ext.chg h0 h1 h2 h3,s.len,s.d,fun i xs e=>absurd e ((ho i).1 xs),fun i j xs ys a _ e=>absurd e ((ho i).1 xs),.none fun i=>(ho i).2⟩
theorem lc_read (hi:PXI X EX target iter wi) (hg:∀ s H fp,PXG (X.lc sc vars sel s H fp) target g) (hf:∀ s H fp,PXF (X.lc sc vars sel s H fp) E0 ifs wf) (he:∀ s H fp,PX (X.lc sc vars sel s H fp) E0 elt we) :
    ∃ (ti:TI) (tg:TG) (tf:TT) (te:TE),PI X target iter ti∧(∀ s H fp,PG (X.lc sc vars sel s H fp) target tg)∧(∀ s H fp,PF (X.lc sc vars sel s H fp) ifs tf)∧(∀ s H fp,PE (X.lc sc vars sel s H fp) elt te)∧
      ∀ W0 H0 W σ H ρ E Q,SOk X.K W0 H0 W σ H ρ→EOk X.K W0 H0 E EX→
        aLC wi vars.length sel g wf we E ρ (fun ds=>∀ a vs W' H',Ext W H W' H'→H' a=some (.lst vs)→W'.G a=none→¬ W'.Pn a→H a=none→Reps X.K W' vs ds→Q (.ref a) H')→tLC ti vars.length sel tg tf te σ H Q:=by
  obtain ⟨ti,pi,ki⟩:=hi.t
  refine ⟨ti,fun v σ H Q=>∃ W0 H0 W ρ d,SOk X.K W0 H0 W σ H ρ∧Rep X.K W v d∧g d ρ (fun ρ'=>∀ σ',SOk X.K W0 H0 W σ' H ρ'→Q σ' H),
    fun σ H Q=>∃ W0 H0 W ρ,SOk X.K W0 H0 W σ H ρ∧wf No ρ (fun b=>∀ W' H',Ext W H W' H'→Q b H'),
    fun σ H Q=>∃ W0 H0 W ρ,SOk X.K W0 H0 W σ H ρ∧we No ρ (RQ X.K W H Q),pi,fun s1 H1 fp=>?_,fun s1 H1 fp=>?_,fun s1 H1 fp=>?_,?_⟩
  · obtain ⟨t,q,k⟩:=(hg s1 H1 fp).t
    rintro pins s σ H v u Q I r ⟨W0,H0,W,ρ,d,s',r',h⟩
    exact q pins s σ H v u Q I r (k W0 H0 W σ H ρ d v Q s' r' h)
  · obtain ⟨t,q,k⟩:=(hf s1 H1 fp).t
    rintro pins s σ H Q I ⟨W0,H0,W,ρ,s',h⟩
    exact q pins s σ H Q I (k W0 H0 W σ H ρ No Q s' (fun _ _ _ _ _ z=>z.elim) h)
  · obtain ⟨t,q,k⟩:=(he s1 H1 fp).t
    rintro pins s σ H Q I ⟨W0,H0,W,ρ,s',h⟩
    exact q pins s σ H Q I (k W0 H0 W σ H ρ No Q s' (fun _ _ _ _ _ z=>z.elim) h)
  · have gm:=(hg {} (fun _=>none) []).mono
    have go:=(hg {} (fun _=>none) []).own
    have fm:=(hf {} (fun _=>none) []).mono
    have em:=(he {} (fun _=>none) []).mono
    intro W0 H0 W σ H ρ E Q s eo h
    refine ki W0 H0 W σ H ρ E _ s eo (hi.mono _ _ _ _ (fun ds hds W1 H1 J x1 it D hD=>?_) h)
    have hDf:=x1.ok.fresh hD
    have hD0:H0 D=none:=s.ext.isN (x1.isN hD)
    refine ⟨fun i m ys σ2 H2=>m=ds.length - i∧i≤ds.length∧∃ W2 ρ2 acc,Ext W1 H1 W2 H2∧SOk X.K W0 H0 W2 σ2 H2 ρ2∧noOwn ρ2∧H2 D=some (.lst ys)∧W2.G D=none∧¬ W2.Pn D∧Reps X.K W2 ys acc∧
      lcW g wf we (ds.drop i) ρ2 acc (fun ds=>∀ a vs W' H',Ext W H W' H'→H' a=some (.lst vs)→W'.G a=none→¬ W'.Pn a→H a=none→Reps X.K W' vs ds→Q (.ref a) H'),⟨_,rfl,Nat.zero_le _,W1,_,[],.new x1.ok hD,?_,Zbz.own _ _ ρ,upd_same,hDf.1,hDf.2,.nil,by rw [List.drop_zero];exact hds⟩,?_⟩
    · exact (((s.step x1).step (.new x1.ok hD)).lc vars.length sel)
    · rintro i m ys σ2 H2 ⟨rfl,hi',W2,ρ2,acc,x2,s2,no2,hD2,g2,p2,r2,q2⟩
      refine ⟨hD2,?_⟩
      obtain ⟨itg,its⟩:=it W2 H2 i x2.g x2.p x2.ok
      rcases Nat.lt_or_ge i ds.length with hlt | hge
      · have hd:ds[i]? = some ds[i]:=List.getElem?_eq_getElem hlt
        obtain ⟨go',yl⟩:=itg _ hd
        refine .inr ⟨go',fun x H3 y=>?_⟩
        obtain ⟨W3,x3,r3⟩:=yl x H3 y
        rw [List.drop_eq_getElem_cons hlt] at q2
        have keepD:∀ {W' H'},Ext W2 H2 W' H'→H' D=some (.lst ys)∧W'.G D=none∧¬ W'.Pn D:=fun {W' H'} x'=>by
          refine ⟨x'.h D _ hD2 p2,?_,fun z=>?_⟩
          · cases q:W'.G D with
            | none=>rfl
            | some o=>have:=x'.gf D g2 (by rw [q];simp);rw [hD2] at this;cases this
          · have:=x'.pf D p2 z;rw [hD2] at this;cases this
        refine ⟨W0,H0,W3,ρ2,ds[i],s2.step x3,r3,gm _ _ _ _ (fun ρ4 hr σ4 s4=>?_) (go _ _ _ no2 q2)⟩
        obtain ⟨no4,hr⟩:=hr
        refine ⟨W0,H0,W3,ρ4,s4,fm _ _ _ _ (fun b hb W5 H5 x5=>?_) hr⟩
        cases b with
        | false=>
          rw [if_neg (by decide)] at hb ⊢
          have kD:=keepD (x3.trans x5)
          exact ⟨ds.length - (i+1),by omega,rfl,hlt,W5,ρ4,acc,x2.trans (x3.trans x5),s4.step x5,no4,kD.1,kD.2.1,kD.2.2,(x3.trans x5).reps r2,hb⟩
        | true=>
          rw [if_pos rfl] at hb ⊢
          refine ⟨W0,H0,W5,ρ4,s4.step x5,em _ _ _ _ (fun y hy v W6 H6 x6 r6=>?_) hb⟩
          have xx:=x3.trans (x5.trans x6)
          have kD:=keepD xx
          have hl:ys.length=acc.length:=r2.length
          refine ⟨kD.1,by rw [hl];exact Nat.lt_of_lt_of_le hy.1 (ZaV (Nat.le_refl _)),ds.length - (i+1),by omega,rfl,hlt,W6,ρ4,acc++[y],(x2.trans xx).chg hD kD.1 kD.2.2 kD.2.1,?_,no4,upd_same,kD.2.1,kD.2.2,(xx.reps r2).append (.cons r6 .nil),hy.2⟩
          exact ((s4.step x5).step x6).chgD no4 hD0 kD.1 kD.2.2 kD.2.1
      · have e:i=ds.length:=by omega
        refine .inl ⟨its hge,?_⟩
        rw [List.drop_of_length_le hge] at q2
        exact q2 D ys W2 H2 (x1.trans x2) hD2 g2 p2 (x1.isN hD) r2
theorem Zcu (vars:List Str) (sel:List Nat) (hc:X.calm=true) (hi:PXI X EX target iter wi) (hg:∀ s H fp,PXG (X.lc sc vars sel s H fp) target g) (hf:∀ s H fp,PXF (X.lc sc vars sel s H fp) E0 ifs wf) (he:∀ s H fp,PX (X.lc sc vars sel s H fp) E0 elt we)
    (ok:ZdC sc X.env.scope=true:=by rfl) (so:selOk X.N sc sel=true:=by rfl) (hs:∀ x,foldedSetIterable iter X.env x=pure x:=by intro _;rfl):PXL X EX (.ListComp elt [⟨target,iter,ifs,0⟩] sc pos) (aLC wi vars.length sel g wf we):=by
  obtain ⟨ti,tg,tf,te,pi,pg,pf,pe,k⟩:=lc_read hi hg hf he
  exact ⟨⟨_,pe_lc vars sel hc pi ok so pg pf pe hs,k⟩,aLC.mono hi (hg {} (fun _=>none) []).mono (hf {} (fun _=>none) []).mono (he {} (fun _=>none) []).mono⟩
theorem pz_lc (i:Nat) {x:Str} {pos' spos:Pos} (vars:List Str) (sel:List Nat) (hc:X.calm=true) (hN:X.N.Nodup) (hi:PXI X EX target iter wi) (hg:∀ s H fp,PXG (X.lc sc vars sel s H fp) target g) (hf:∀ s H fp,PXF (X.lc sc vars sel s H fp) E0 ifs wf) (he:∀ s H fp,PX (X.lc sc vars sel s H fp) E0 elt we)
    (hix:X.N[i]? = some x:=by rfl) (hx:Loc X.env.scope x:=by first | exact Or.inl rfl | exact Or.inr rfl)
    (hsw:swapsWith (.ListComp elt [⟨target,iter,ifs,0⟩] sc pos) (some (.Name x pos')) spos.line X.env=pure true:=by rfl)
    (ok:ZdC sc X.env.scope=true:=by rfl) (so:selOk X.N sc sel=true:=by rfl) (hs:∀ x,foldedSetIterable iter X.env x=pure x:=by intro _;rfl) (hfn:X.fn x=true∨X.env.scope.names.lookup x=some .local:=by first | exact .inl rfl | exact .inr rfl | assumption) :
    PZ X EX (.Assign [.Name x pos'] (.ListComp elt [⟨target,iter,ifs,0⟩] sc pos) spos) (zOwn i (aLC wi vars.length sel g wf we)):=by
  obtain ⟨ti,tg,tf,te,pi,pg,pf,pe,k⟩:=lc_read hi hg hf he
  have am:=aLC.mono (vars:=vars) (sel:=sel) hi (hg {} (fun _=>none) []).mono (hf {} (fun _=>none) []).mono (he {} (fun _=>none) []).mono
  refine ⟨⟨_,ps_lc vars sel hc hN hix hx pi ok so pg pf pe hsw hs hfn,fun W0 H0 F W σ H ρ E Dn N s fl eo no h=>?_⟩,fun E ρ N N' hl q=>am _ _ _ _ (fun _=>hl.nx _) q⟩
  refine k W0 H0 W σ H ρ E _ s eo (am _ _ _ _ (fun xs hd a vs W1 H1 x1 e1 e2 e3 e4 r1=>no.nx W1 _ H1 _ (s.own x1 e4 e1 e2 e3 r1) (fl.ext x1) hd) h)
def ZaW (g:WG) (zb:WS) (E:Ex→Prop) (N:Nds):List D→Rho→Prop
  | [],ρ=>N.nx ρ
  | d::ds,ρ=>g d ρ fun ρ1=>zb E { nx:=ZaW g zb E N ds,rt:=N.rt,bk:=N.nx,ct:=ZaW g zb E N ds } ρ1
def zFor (wi:WA) (g:WG) (zb:WS):WS:=fun E N ρ=>wi E ρ fun ds=>ZaW g zb E N ds ρ
theorem ZaW.mono {zb:WS} (hg:∀ d ρ P P',(∀ r,P r→P' r)→g d ρ P→g d ρ P') (hb:∀ E ρ N N',N.le N'→zb E N ρ→zb E N' ρ) {E:Ex→Prop} {N N':Nds} (hl:N.le N'):∀ ds ρ,ZaW g zb E N ds ρ→ZaW g zb E N' ds ρ
  | [],ρ,h=>hl.nx _ h
  | d::ds,ρ,h=>hg _ _ _ _ (fun r hr=>hb E r { nx:=ZaW g zb E N ds,rt:=N.rt,bk:=N.nx,ct:=ZaW g zb E N ds } _ ⟨ZaW.mono hg hb hl ds,hl.rt,hl.nx,ZaW.mono hg hb hl ds⟩ hr) h
theorem Zdw {body:List Stmt} {zb:WS} (hp:PassesOwn (model X.prog X.w) X.A X.env X.xe) (hc:X.calm=true) (hi:PXI X EX target iter wi) (hg:PXG X target g) (hb:PZs X EX body zb)
    (hs:∀ x,foldedSetIterable iter X.env x=pure x:=by intro _;rfl):PZ X EX (.For target iter body [] pos) (zFor wi g zb):=by
  obtain ⟨ti,pi,ki⟩:=hi.t
  obtain ⟨tg,pg,kg⟩:=hg.t
  obtain ⟨tb,pb,kb⟩:=hb.t
  refine ⟨⟨_,ps_for hp hc pi pg pb hs,fun W0 H0 F W σ H ρ E Dn N s fl eo no h=>?_⟩,fun E ρ N N' hl q=>hi.mono _ _ _ _ (fun ds hds=>ZaW.mono hg.mono hb.mono hl ds ρ hds) q⟩
  refine ki W0 H0 W σ H ρ E _ s eo (hi.mono _ _ _ _ (fun ds hds W1 H1 J x1 it=>?_) h)
  refine ⟨fun i m σ2 H2=>m=ds.length - i∧i≤ds.length∧∃ W2 ρ2,SOk X.K W0 H0 W2 σ2 H2 ρ2∧Wle W1 W2∧ZaW g zb E N (ds.drop i) ρ2,⟨_,rfl,Nat.zero_le _,W1,ρ,s.step x1,.refl W1,by rw [List.drop_zero];exact hds⟩,?_⟩
  rintro i m σ2 H2 ⟨rfl,hi',W2,ρ2,s2,f2,q2⟩
  obtain ⟨itg,its⟩:=it W2 H2 i f2.g f2.p s2.ok
  have fF:∀ {V:Wd},Wle W1 V→Wle F V:=fun f=>(fl.ext x1).trans f
  rcases Nat.lt_or_ge i ds.length with hlt | hge
  · have hd:ds[i]? = some ds[i]:=List.getElem?_eq_getElem hlt
    obtain ⟨go',yl⟩:=itg _ hd
    rw [List.drop_eq_getElem_cons hlt] at q2
    refine .inr ⟨go',fun σ3 H3=>∃ W3 ρ3,SOk X.K W0 H0 W3 σ3 H3 ρ3∧Wle W1 W3∧ZaW g zb E N (ds.drop (i+1)) ρ3,fun σ3 H3 ⟨W3,ρ3,s3,f3,q3⟩=>⟨ds.length - (i+1),by omega,rfl,hlt,W3,ρ3,s3,f3,q3⟩,fun x H3 y=>?_⟩
    obtain ⟨W3,x3,r3⟩:=yl x H3 y
    refine kg W0 H0 W3 σ2 H3 ρ2 ds[i] x _ (s2.step x3) r3 (hg.mono _ _ _ _ (fun ρ4 hr σ4 s4=>?_) q2)
    refine kb W0 H0 W1 W3 σ4 H3 ρ4 E _ { nx:=ZaW g zb E N (ds.drop (i+1)),rt:=N.rt,bk:=N.nx,ct:=ZaW g zb E N (ds.drop (i+1)) } s4 (f2.ext x3) eo ⟨fun W5 σ5 H5 ρ5 s5 f5 h5=>⟨W5,ρ5,s5,f5,h5⟩,no.rt,fun W5 σ5 H5 ρ5 s5 f5 h5=>no.nx W5 σ5 H5 ρ5 s5 (fF f5) h5,fun W5 σ5 H5 ρ5 s5 f5 h5=>⟨W5,ρ5,s5,f5,h5⟩⟩ hr
  · have e:i=ds.length:=by omega
    refine .inl ⟨its hge,?_⟩
    rw [List.drop_of_length_le hge] at q2
    exact no.nx W2 σ2 H2 ρ2 s2 (fF f2) q2
end
end LP
namespace L2
open PySem PySem.Spec PyProof.Rows
namespace Fl
def Firm (P:Obj→Prop):Prop:=∀ (o:Obj) f,P o→P (o.mapFields f)
theorem map_dict (o:Obj) (f:Array Value→Array Value):(o.mapFields f).dict=o.dict:=by
  unfold Obj.mapFields
  split<;>rfl
def Is (cls:Value) (dx:Option Addr) (o:Obj):Prop:=o.cls=cls∧o.dict=dx
theorem Is.firm {cls:Value} {dx:Option Addr}:Firm (Is cls dx):=fun o f h=>⟨(Obj.cls_mapFields o f).trans h.1,(map_dict o f).trans h.2⟩
def Tr (P:Obj→Prop) (base:Heap) (e:Addr) (fl:Value) (h:Heap):Prop:=
  ∃ (oe:Obj) (vs:Array Value) (T:Addr) (oT:Obj) (ts:Array Value),h.get? e=some oe∧P oe∧oe.data = .fields vs∧vs[1]? = some (.ref T)∧base.get? T=none∧T≠e∧h.get? T=some oT∧oT.data = .fields ts∧ts[3]? = some fl
structure Up (P:Obj→Prop) (base:Heap) (l:List Env) (e:Addr) (fl:Value) (h:Heap):Prop where
  st:base.StaysIn h
  new:base.get? e=none
  fr:h.FunFrames base l
  tr:Tr P base e fl h
section
variable {M:Model} {A:Around} {E:Value→Shared→Prop} {s:Shared} {P:Obj→Prop} {base:Heap} {env:Env} {outer l:List Env} {L e:Addr} {fl:Value} {Q:Unit→Shared→Prop}
theorem entry (hP:Firm P) {oe:Obj} {vs:Array Value} {head:Value} {b:Bool} (hA:A.frames=some (env::outer)) (hl:s.heap.FunFrames base (env::outer)) (hf:env.frame=some L) (he:s.heap.get? e=some oe) (hp:P oe)
    (st:base.StaysIn s.heap) (new:base.get? e=none) (hd:oe.data = .fields vs) (hz:1 < vs.size) (k:∀ h',Up P base (env::outer) e (rawInt L) h'→s.heap.UpToSlots h'→Q () { s with heap:=h' }) :
    wpAny M A (do let a ← frameOf env;let pl ← entryPlaceOf L b;let c ← EntryCells.newEntry head a .none (rawInt L) .none pl;setField (.ref e) 1 c) Q E s:=by
  have out:e∉(env::outer).filterMap (·.frame):=fun z=>by
    obtain ⟨_,o,ho,nf⟩:=hl.mem z
    cases he.symm.trans ho
    exact nf vs hd
  refine wpAny_bind (wpAny_frameOf_fun hA hl hf fun h1 so=>?_)
  refine wpAny_bind (wpAny_entryPlaceOf fun pl place=>?_)
  unfold EntryCells.newEntry newFields
  refine wpAny_bind (wpAny_newObj_type ?_ (place.sizeOk5 _ _ _ _ _))
  generalize ho:({ cls:=.type "traceback",dict:=none,data:=.fields ([head,.ref L,.none,rawInt L,.none]++(if pl.isEmpty then List.replicate 6 Value.none else pl)).toArray }:Obj)=ob
  have e1:h1.get? e=some oe:=(so.2.1 e out).trans he
  have ne:h1.objs.size≠e:=Nat.ne_of_gt (Heap.lt_size e1)
  have e2:(h1.push ob).get? e=some oe:=Heap.get?_push_of_some ob e1
  have fr0:ob.isFreed=false:=by rw [← ho];exact Obj.isFreed_of_fields rfl
  refine wpAny_setField e2 hd hz (k _ ?_ ?_)
  · have e3:=Heap.get?_update_self (Obj.mapFields (·.setIfInBounds 1 (Value.ref h1.objs.size))) e2 (Obj.isFreed_of_fields (Obj.data_mapFields hd _))
    have oth:∀ {c o},c≠e→h1.get? c=some o→((h1.push ob).update e (Obj.mapFields (·.setIfInBounds 1 (Value.ref h1.objs.size)))).get? c=some o:=fun ne hc=>(Heap.get?_update_other _ _ (Ne.symm ne)).trans (Heap.get?_push_of_some ob hc)
    refine ⟨fun c o hc=>?_,new,hl.of_keeps fun c o hc nf=>?_,_,_,h1.objs.size,ob,_,e3,hP _ _ hp,Obj.data_mapFields hd _,by simp [hz],?_,ne,(Heap.get?_update_other _ _ (Ne.symm ne)).trans (Heap.get?_push_size h1 fr0),by rw [← ho],?_⟩
    · exact oth (fun z=>by rw [z,new] at hc;cases hc) ((so.2.1 c fun z=>by rw [(hl.mem z).1] at hc;cases hc).trans (st c o hc))
    · obtain ⟨sl,hs⟩:=so.2.2 c o hc
      exact ⟨_,oth (fun z=>by rw [z,he] at hc;cases hc;exact nf vs hd) hs,rfl⟩
    · cases q:base.get? h1.objs.size with
      | none=>rfl
      | some o=>
        have:h1.get? h1.objs.size=some o:=(so.2.1 _ fun z=>by rw [(hl.mem z).1] at q;cases q).trans (st _ o q)
        exact absurd (Heap.lt_size this) (Nat.lt_irrefl _)
    · rcases place with rfl | ⟨_,_,_,_,_,_,_,rfl⟩<;>simp
  · intro c o hc nf
    obtain ⟨sl,hs⟩:=so.2.2 c o hc
    exact ⟨sl,(Heap.get?_update_other _ _ (Ne.symm fun z=>by rw [z,he] at hc;cases hc;exact nf vs hd)).trans (Heap.get?_push_of_some ob hs)⟩
theorem note_new (hP:Firm P) {oe:Obj} {vs:Array Value} (hA:A.frames=some (env::outer)) (hl:s.heap.FunFrames base (env::outer)) (hf:env.frame=some L) (he:s.heap.get? e=some oe) (hp:P oe)
    (st:base.StaysIn s.heap) (new:base.get? e=none) (hd:oe.data = .fields vs) (h1:vs[1]? = some .none) (k:∀ h',Up P base (env::outer) e (rawInt L) h'→s.heap.UpToSlots h'→Q () { s with heap:=h' }) :
    wpAny M A (noteFrame (.ref e) env) Q E s:=by
  unfold noteFrame
  simp only [hf]
  refine wpAny_bind (wpAny_field he hd h1 ?_)
  rw [if_neg (by decide)]
  exact entry hP hA hl hf he hp st new hd (Array.getElem?_eq_some_iff.mp h1).1 k
theorem note (hP:Firm P) (hA:A.frames=some (env::outer)) (hf:env.frame=some L) (u:Up P base (env::outer) e .none s.heap)
    (k:∀ h',Up P base (env::outer) e (rawInt L) h'→s.heap.UpToSlots h'→Q () { s with heap:=h' }):wpAny M A (noteFrame (.ref e) env) Q E s:=by
  obtain ⟨st,new,fr,oe,vs,T,oT,ts,he,hp,hd,h1,nT,Te,hT,dT,h3⟩:=u
  unfold noteFrame
  simp only [hf]
  refine wpAny_bind (wpAny_field he hd h1 ?_)
  rw [if_pos (show (Value.ref T != Value.none)=true from by simp)]
  refine wpAny_bind (wpAny_field hT dT h3 ?_)
  rw [if_neg (by simp [rawInt])]
  refine wpAny_bind (wpAny_setField hT dT (Array.getElem?_eq_some_iff.mp h3).1 ?_)
  have oth:∀ {c o},c≠T→s.heap.get? c=some o→(s.heap.update T (Obj.mapFields (·.setIfInBounds 3 Value.none))).get? c=some o:=fun ne hc=>(Heap.get?_update_other _ _ (Ne.symm ne)).trans hc
  have notT:∀ {c o},s.heap.get? c=some o→(∀ vs,o.data≠.fields vs)→c≠T:=fun hc nf z=>by
    rw [z,hT] at hc
    cases hc
    exact nf ts dT
  refine entry hP hA (fr.of_keeps fun c o hc nf=>⟨o,oth (notT hc nf) hc,rfl⟩) hf (oth (Ne.symm Te) he) hp (fun c o hc=>oth (fun z=>by rw [z,nT] at hc;cases hc) (st c o hc)) new hd (Array.getElem?_eq_some_iff.mp h1).1 fun h' u' up=>k h' u' fun c o hc nf=>up c o (oth (notT hc nf) hc) nf
theorem lands (u:Up P base l e fl s.heap) (k:∀ h',Up P base l e .none h'→s.heap.UpToSlots h'→Q () { s with heap:=h' }):wpAny M A (setFlight (.ref e) none) Q E s:=by
  obtain ⟨st,new,fr,oe,vs,T,oT,ts,he,hp,hd,h1,nT,Te,hT,dT,h3⟩:=u
  have oth:∀ {c o},c≠T→s.heap.get? c=some o→(s.heap.update T (Obj.mapFields (·.setIfInBounds 3 ((none:Option Addr).elim Value.none fun f=>rawInt f)))).get? c=some o:=fun ne hc=>(Heap.get?_update_other _ _ (Ne.symm ne)).trans hc
  have notT:∀ {c o},s.heap.get? c=some o→(∀ vs,o.data≠.fields vs)→c≠T:=fun hc nf z=>by
    rw [z,hT] at hc
    cases hc
    exact nf ts dT
  have z3:=(Array.getElem?_eq_some_iff.mp h3).1
  unfold setFlight
  refine wpAny_bind (wpAny_field he hd h1 ?_)
  rw [if_pos (show (Value.ref T != Value.none)=true from by simp)]
  refine wpAny_setField hT dT z3 (k _ ⟨fun c o hc=>oth (fun z=>by rw [z,nT] at hc;cases hc) (st c o hc),new,fr.of_keeps fun c o hc nf=>⟨o,oth (notT hc nf) hc,rfl⟩,oe,vs,T,_,_,oth (Ne.symm Te) he,hp,hd,h1,nT,Te,Heap.get?_update_self _ hT (Obj.isFreed_of_fields (Obj.data_mapFields dT _)),Obj.data_mapFields dT _,by simp [z3]⟩ fun c o hc nf=>⟨o.slots,oth (notT hc nf) hc⟩)
theorem Up.out (u:Up P base (env::outer) e fl s.heap):Up P base outer e fl s.heap:=⟨u.st,u.new,u.fr.2.2,u.tr⟩
theorem Up.there {h:Heap} (u:Up P base l e fl h):∃ ob,h.get? e=some ob∧P ob∧∃ vs,ob.data = .fields vs:=by
  obtain ⟨oe,vs,_,_,_,he,hp,hd,_⟩:=u.tr
  exact ⟨oe,he,hp,vs,hd⟩
theorem leaves (hP:Firm P) (hA:A.frames=some (env::outer)) (hf:env.frame=some L) (u:Up P base (env::outer) e .none s.heap) (k:∀ h',Up P base outer e .none h'→s.heap.UpToSlots h'→Q () { s with heap:=h' }) :
    wpAny M A (leaving env (.ref e)) Q E s:=by
  unfold leaving
  exact wpAny_bind (note hP hA hf u fun h1 u1 up1=>lands (s:={ s with heap:=h1 }) u1 fun h2 u2 up2=>k h2 ⟨u2.st,u2.new,u2.fr.2.2,u2.tr⟩ (up1.trans up2))
theorem leaves_new (hP:Firm P) {oe:Obj} {vs:Array Value} (hA:A.frames=some (env::outer)) (hl:s.heap.FunFrames base (env::outer)) (hf:env.frame=some L) (he:s.heap.get? e=some oe) (hp:P oe)
    (st:base.StaysIn s.heap) (new:base.get? e=none) (hd:oe.data = .fields vs) (h1:vs[1]? = some .none) (k:∀ h',Up P base outer e .none h'→s.heap.UpToSlots h'→Q () { s with heap:=h' }):wpAny M A (leaving env (.ref e)) Q E s:=by
  unfold leaving
  exact wpAny_bind (note_new hP hA hl hf he hp st new hd h1 fun h1 u1 up1=>lands (s:={ s with heap:=h1 }) u1 fun h2 u2 up2=>k h2 ⟨u2.st,u2.new,u2.fr.2.2,u2.tr⟩ (up1.trans up2))
end
end Fl
namespace Fl
section
variable {M:Model} {prog:Program} {w:World} {A:Around} {E:Value→Shared→Prop} {env:Env} {h:Heap} {g:Array GenState} {d:Drawn} {t:Nat} {os:OsState} {s:Shared}
variable {nm q:Str} {C N fI:Addr} {bs bm bmB:List Value} {hdct:Bool} {sn:List Str} {sub:List Value} {ab:Bool} {col:Option Bool} {dd:Option Addr} {k0 k1 k2 k3 k5:Option Value} {B newId initId:String} {mN:Str→Option Value} {rest:List Value} {oI:Obj}
end
end Fl
namespace Fl
open PySem.Builtin PySem.Builtin.ObjectAttr
inductive Tl (h:Heap) (ns:List Str) (bmB:List Value):List Value→Prop
  | last:Tl h ns bmB bmB
  | more {a:Addr} {c:Value} {dd:Option Addr} {cd:ClassData} {sl:Array (Option Value)} {m:Str→Option Value} {l:List Value}:h.get? a=some ⟨c,dd,.cls cd,sl⟩→h.Ns cd.ns m→(∀ n∈ns,m n=none)→Tl h ns bmB l→Tl h ns bmB (.ref a::l)
section
variable {h h':Heap} {ns:List Str} {bmB l:List Value}
theorem Tl.keeps (T:Tl h ns bmB l) (k:∀ b o,h.get? b=some o→h'.get? b=some o):Tl h' ns bmB l:=by
  induction T with
  | last=>exact .last
  | more a b c _ ih=>exact .more (k _ _ a) (b.keeps k) c ih
theorem Tl.own (T:Tl h ns bmB l) (i:("__init__" : Str)∈ns):OwnTail h bmB l:=by
  induction T with
  | last=>exact .base
  | more a b c _ ih=>exact .own a b (c _ i) ih
end
section
variable {M:Model} {prog:Program} {w:World} {A:Around} {E:Value→Shared→Prop} {h:Heap} {g:Array GenState} {d:Drawn} {t:Nat} {os:OsState}
variable {nm q:Str} {C N x:Addr} {bs bm bmB:List Value} {hdct:Bool} {sn:List Str} {sub:List Value} {ab:Bool} {col:Option Bool} {dd:Option Addr} {k0 k1 k2 k3 k5:Option Value} {B newId sa owner:String} {mN:Str→Option Value} {ns:List Str}
theorem along {l:List Value} {n:Str} {y:Option Value} {Q:Option Value→Shared→Prop} (T:Tl h ns bmB l) (i:n∈ns) (r:lookupAlong bmB n=pure y) (k:Q y ⟨h,g,d,t,os⟩):wpAny M A (lookupAlong l n) Q E ⟨h,g,d,t,os⟩:=by
  induction T with
  | last=>
    rw [r]
    exact wpAny_pure k
  | more a b c _ ih=>
    rw [lookupAlong_cons]
    refine wpAny_bind (wpAny_classOwn_cls a b ?_)
    rw [c n i]
    exact ih
end
end Fl
namespace Fl
section
variable {M:Model} {prog:Program} {w:World} {A:Around} {E:Value→Shared→Prop} {h:Heap} {g:Array GenState} {d:Drawn} {t:Nat} {os:OsState}
variable {nm q:Str} {C N a dx:Addr} {bs bm bmB:List Value} {hdct:Bool} {sn:List Str} {sub:List Value} {ab:Bool} {col:Option Bool} {dd:Option Addr} {k0 k1 k2 k3 k5:Option Value} {B newId:String} {mN m:Str→Option Value} {ns:List Str} {name:Str} {v:Value} {o:Obj}
end
end Fl
def CXv (P:Program) (w:World):CXT:=fun outer H s E e s'=>∃ (ea:Addr) (cls:Value) (dx:Option Addr) (H':Hp) (B:Heap),e = .ref ea∧Fl.Up (Fl.Is cls dx) B outer ea .none s'.heap∧s'.os=s.os∧AllBare s'.gens∧Un (frs outer) [] H H' s.heap s'.heap∧HOk P w H' s'.heap∧
  (∀ b o,s.heap.get? b=some o→b∉frs outer→∃ o',B.get? b=some o')∧(∀ b u,H' b=some u→∃ o,B.get? b=some o)∧E cls dx H'
theorem ZbL {P:Program} {w:World} {X:Cx}:Passes (CXv P w) X E0:=fun _ _ _ _ _ _ _ ⟨_,_,_,_,_,_,_,_,_,_,_,_,_,z⟩=>z.elim
theorem HOk.through {P:Program} {w:World} {H:Hp} {B h h2:Heap} (hok:HOk P w H h) (hT:∀ b u,H b=some u→∃ o,B.get? b=some o) (s1:B.StaysIn h) (s2:B.StaysIn h2):HOk P w H h2:=fun a o e=>(hok a o e).stay (fun b u hb q=>by
    have hb':∃ v,H b=some v:=by
      rcases hb with rfl | hb
      · exact ⟨_,e⟩
      · exact ⟨_,hb⟩
    obtain ⟨v,hv⟩:=hb'
    obtain ⟨o',eB⟩:=hT b v hv
    have:=s1 b o' eB
    rw [q] at this
    cases this
    exact s2 b _ eB) (fun _ z=>z) fun _ _ z=>z
section
variable {P:Program} {w:World} {K:PySem.W.Frag} {mg:Str→Option Value} {base:Heap} {N:List Str} {qual:Str} {scope:Scope} {f:Addr} {cd:Value} {A:Around} {outer:List Env} {s:Shared} {H:Hp} {E:XK}
theorem frs_cons {env:Env} {l:List Env} {b:Addr} (h:b∈frs l):b∈frs (env::l):=by
  unfold frs at h ⊢
  obtain ⟨e,h1,h2⟩:=List.mem_filterMap.mp h
  exact List.mem_filterMap.mpr ⟨e,List.mem_cons_of_mem _ h1,h2⟩
theorem pass_cx:Passes (CXv P w) (cxOf (CXv P w) P w K mg base N qual scope f cd A outer s H E) E:=by
  rintro pins σ H1 s1 _ s' I ⟨ea,cls,dx,H',B,rfl,fl,hos,hbare,un,hok,hB,hT,hE⟩
  have nostk:∀ b o,s.heap.get? b=some o→b∉frs outer→b∉frs (envOfC qual scope s.heap.objs.size f cd::outer):=fun b o e hb hm=>by
    rcases List.mem_cons.mp (I.stkSub b hm) with z | z
    · have l1:=Heap.lt_size e
      have l2:s.heap.objs.size≤(envOfC qual scope s.heap.objs.size f cd).locals:=I.ok.above
      have z':b=(envOfC qual scope s.heap.objs.size f cd).locals:=z
      rw [← z'] at l2
      exact absurd (Nat.lt_of_lt_of_le l1 l2) (Nat.lt_irrefl _)
    · exact hb z
  have ib:Un (frs outer) [] H H1 s.heap s1.heap:=I.base
  show wpAny (model P w) (A.deeper (envOfC qual scope s.heap.objs.size f cd)) (leaving (envOfC qual scope s.heap.objs.size f cd) (.ref ea)) (fun _ s''=>CXv P w outer H s E (.ref ea) s'') _ s'
  refine Fl.leaves Fl.Is.firm I.ok.frames rfl fl fun h2 fl2 up=>?_
  have frm:∀ b,b∈frs (envOfC qual scope s.heap.objs.size f cd::outer)→∃ o,s'.heap.get? b=some o∧∀ vs,o.data≠.fields vs:=fun b hb=>(fl.fr.mem hb).2
  refine ⟨ea,cls,dx,H',B,rfl,fl2,hos.trans I.os,hbare,⟨fun b o e n hb _=>?_,fun b o e n hb _=>?_,fun b o e n _=>?_,fun b o e _=>?_,fun b xs e=>un.tups b xs (ib.tups b xs e),fun b o xs e=>un.frzs b o xs (ib.frzs b o xs e),fun b ps e=>?_⟩,hok.through hT fl.st fl2.st,fun b o e hb=>?_,hT,hE⟩
  · have e1:=ib.keep b o e n hb (by simp)
    have n1:=ib.free b o e n (by simp)
    have e2:=un.keep b o e1 n1 (nostk b o e hb) (by simp)
    obtain ⟨o',eB⟩:=hB b o e1 (nostk b o e hb)
    have:=fl.st b o' eB
    rw [e2] at this
    cases this
    exact fl2.st b _ eB
  · obtain ⟨sl,e1⟩:=ib.slot b o e n hb (by simp)
    have n1:=ib.free b o e n (by simp)
    obtain ⟨sl',e2⟩:=un.slot b _ e1 n1 (frs_cons hb) (by simp)
    obtain ⟨o3,e3,nf⟩:=frm b (frs_cons hb)
    rw [e2] at e3
    cases e3
    obtain ⟨sl3,e4⟩:=up b _ e2 nf
    exact ⟨sl3,e4⟩
  · obtain ⟨o',e1⟩:=ib.there b o e (by simp)
    exact un.free b o' e1 (ib.free b o e n (by simp)) (by simp)
  · obtain ⟨o',e1⟩:=ib.there b o e (by simp)
    by_cases hb:b∈frs (envOfC qual scope s.heap.objs.size f cd::outer)
    · obtain ⟨o3,e3,nf⟩:=frm b hb
      obtain ⟨sl3,e4⟩:=up b _ e3 nf
      exact ⟨_,e4⟩
    · obtain ⟨o2,eB⟩:=hB b o' e1 hb
      exact ⟨o2,fl2.st b _ eB⟩
  · obtain ⟨m1,e1⟩:=ib.tbls b ps e
    obtain ⟨m2,e2⟩:=un.tbls b _ e1
    exact ⟨m1++m2,by rw [e2,Array.append_assoc]⟩
  · obtain ⟨o',e1⟩:=ib.there b o e (by simp)
    exact hB b o' e1 (nostk b o e hb)
def Rais (X:Cx) (E:XK):Prop:=∀ (pins:List (Addr×Obj)) (σ:St) (H:Hp) (s:Shared) (h':Heap) (e:Addr) (cls:Value) (args:List Value),Inv X pins σ H s→Heap.MadeExcOf s.heap h' e cls args→E cls none H→X.xe (.ref e) { s with heap:=h' }
theorem rais_cx:Rais (cxOf (CXv P w) P w K mg base N qual scope f cd A outer s H E) E:=by
  intro pins σ H1 s1 h2 e cls args I hx hE
  have ib:Un (frs outer) [] H H1 s.heap s1.heap:=I.base
  have neL:∀ b o,s.heap.get? b=some o→b∉frs outer→b∉frs (envOfC qual scope s.heap.objs.size f cd::outer):=fun b o e hb hm=>by
    rcases List.mem_cons.mp (I.stkSub b hm) with z | z
    · have l1:=Heap.lt_size e
      have l2:s.heap.objs.size≤(envOfC qual scope s.heap.objs.size f cd).locals:=I.ok.above
      have z':b=(envOfC qual scope s.heap.objs.size f cd).locals:=z
      rw [← z'] at l2
      exact absurd (Nat.lt_of_lt_of_le l1 l2) (Nat.lt_irrefl _)
    · exact hb z
  have stk:s1.heap.FunFrames base (envOfC qual scope s.heap.objs.size f cd::outer):=I.stack
  have frm:∀ b,b∈frs (envOfC qual scope s.heap.objs.size f cd::outer)→∃ o,s1.heap.get? b=some o∧∀ vs,o.data≠.fields vs:=fun b hb=>(stk.mem hb).2
  have inB:∀ {b o},s1.heap.get? b=some o→b∉frs (envOfC qual scope s.heap.objs.size f cd::outer)→(PySem.W.hideAll s1.heap (frs (envOfC qual scope s.heap.objs.size f cd::outer))).get? b=some o:=fun e hb=>PySem.W.hideAll_get _ e hb
  have hT:∀ b u,H1 b=some u→∃ o,(PySem.W.hideAll s1.heap (frs (envOfC qual scope s.heap.objs.size f cd::outer))).get? b=some o:=fun b u hu=>by
    have hb:b∉frs (envOfC qual scope s.heap.objs.size f cd::outer):=fun hm=>by
      have:=I.stkFree b hm
      rw [hu] at this;cases this
    have l:=I.hok.lt hu
    have:∃ o,s1.heap.get? b=some o:=by
      have q:=I.hok b u hu
      cases u with
      | lst xs=>obtain ⟨_,_,_,_,e⟩:=q;exact ⟨_,e⟩
      | tup xs=>obtain ⟨_,_,_,o,e,_⟩:=q;exact ⟨_,e⟩
      | dK kvs=>obtain ⟨_,_,_,_,o,_,_,e,_⟩:=q;exact ⟨_,e⟩
      | dT kvs=>obtain ⟨_,_,_,_,o,_,_,e,_⟩:=q;exact ⟨_,e⟩
      | set S n=>obtain ⟨o,_,_,_,e,_⟩:=q;exact ⟨_,e⟩
      | ins C dx fs=>obtain ⟨_,_,_,e,_⟩:=q;exact ⟨_,e⟩
      | own y=>obtain ⟨o,e⟩:=q;exact ⟨_,e⟩
      | xd fs=>obtain ⟨_,⟨o,_,_,e,_⟩,_⟩:=q;exact ⟨_,e⟩
      | rng lo hi=>obtain ⟨_,_,_,e⟩:=q;exact ⟨_,e⟩
      | frz ob u=>obtain ⟨e,_⟩:=q;exact ⟨_,e⟩
      | tbl ps=>exact ⟨_,(show s1.heap.get? b=some _ from q)⟩
      | met f y=>exact ⟨_,(show s1.heap.get? b=some _ from q)⟩
      | ext φ=>obtain ⟨_,⟨o,e⟩,_⟩:=q;exact ⟨_,e⟩
    obtain ⟨o,e⟩:=this
    exact ⟨o,inB e hb⟩
  show wpAny (model P w) (A.deeper (envOfC qual scope s.heap.objs.size f cd)) (leaving (envOfC qual scope s.heap.objs.size f cd) (.ref e)) (fun _ s''=>CXv P w outer H s E (.ref e) s'') _ _
  obtain ⟨tt,he,_,_⟩:=hx.there
  have newB:(PySem.W.hideAll s1.heap (frs (envOfC qual scope s.heap.objs.size f cd::outer))).get? e=none:=by
    cases q:(PySem.W.hideAll s1.heap (frs (envOfC qual scope s.heap.objs.size f cd::outer))).get? e with
    | none=>rfl
    | some o=>
      have:=PySem.W.of_hideAll _ q
      rw [hx.new] at this
      cases this
  refine Fl.leaves_new (P:=Fl.Is cls none) (base:=PySem.W.hideAll s1.heap (frs (envOfC qual scope s.heap.objs.size f cd::outer))) Fl.Is.firm I.ok.frames ((PySem.W.funFrames_hide stk fun env he b hb=>List.mem_filterMap.mpr ⟨env,he,hb⟩).of_keeps fun b o hb _=>⟨o,hx.keeps b o hb,rfl⟩) rfl he ⟨rfl,rfl⟩
    (fun b o q=>hx.keeps b o (PySem.W.of_hideAll _ q)) newB rfl rfl fun h3 fl up=>?_
  have st1:(PySem.W.hideAll s1.heap (frs (envOfC qual scope s.heap.objs.size f cd::outer))).StaysIn s1.heap:=fun b o q=>PySem.W.of_hideAll _ q
  refine ⟨e,cls,none,H1,_,rfl,fl,I.os,I.bare,⟨fun b o e n hb _=>?_,fun b o e n hb _=>?_,fun b o e n _=>ib.free b o e n (by simp),fun b o e _=>?_,fun b xs e=>ib.tups b xs e,fun b o xs e=>ib.frzs b o xs e,fun b ps e=>ib.tbls b ps e⟩,I.hok.through hT st1 fl.st,fun b o e hb=>?_,hT,hE⟩
  · exact fl.st b o (inB (ib.keep b o e n hb (by simp)) (neL b o e hb))
  · obtain ⟨sl,e1⟩:=ib.slot b o e n hb (by simp)
    obtain ⟨o3,e3,nf⟩:=frm b (frs_cons hb)
    rw [e1] at e3
    cases e3
    obtain ⟨sl3,e4⟩:=up b _ (hx.keeps b _ e1) nf
    exact ⟨sl3,e4⟩
  · obtain ⟨o',e1⟩:=ib.there b o e (by simp)
    by_cases hb:b∈frs (envOfC qual scope s.heap.objs.size f cd::outer)
    · obtain ⟨o3,e3,nf⟩:=frm b hb
      obtain ⟨sl3,e4⟩:=up b _ (hx.keeps b _ e3) nf
      exact ⟨_,e4⟩
    · exact ⟨o',fl.st b o' (inB e1 hb)⟩
  · obtain ⟨o',e1⟩:=ib.there b o e (by simp)
    exact ⟨o',inB e1 (neL b o e hb)⟩
end
end L2
namespace LP
open PySem PySem.Spec PyProof.Rows L2
def rho (N:List Str) (ds:List D):Rho:=ds.map .d++List.replicate (N.length - ds.length) .un
theorem sok_start {K:PySem.W.Frag} {W:Wd} {H:Hp} {N:List Str} {vs:List V} {ds:List D} (ok:WOk W H) (r:Reps K W vs ds):SOk K W H W (start N vs) H (rho N ds) where
  ext:=.refl ok
  len:=by unfold rho L2.start;simp [r.length]
  d:=fun i x e=>by
    unfold rho at e
    rcases Nat.lt_or_ge i ds.length with h | h
    · rw [List.getElem?_append_left (by simpa using h),List.getElem?_map] at e
      cases q:ds[i]? with
      | none=>rw [q] at e;cases e
      | some y=>
        rw [q] at e
        cases e
        obtain ⟨v,ev,rv⟩:=r.get q
        refine ⟨v,?_,rv⟩
        unfold L2.start
        rw [List.getElem?_append_left (by rw [List.length_map,r.length];exact h),List.getElem?_map,ev]
        rfl
    · rw [List.getElem?_append_right (by simpa using h),List.getElem?_replicate] at e
      split at e<;>cases e
  o:=fun i xs e=>by
    unfold rho at e
    rcases Nat.lt_or_ge i ds.length with h | h
    · rw [List.getElem?_append_left (by simpa using h),List.getElem?_map] at e
      cases q:ds[i]? with
      | none=>rw [q] at e;cases e
      | some y=>rw [q] at e;cases e
    · rw [List.getElem?_append_right (by simpa using h),List.getElem?_replicate] at e
      split at e<;>cases e
  ne:=fun i j xs ys a _ e=>by
    unfold rho at e
    rcases Nat.lt_or_ge i ds.length with h | h
    · rw [List.getElem?_append_left (by simpa using h),List.getElem?_map] at e
      cases q:ds[i]? with
      | none=>rw [q] at e;cases e
      | some y=>rw [q] at e;cases e
    · rw [List.getElem?_append_right (by simpa using h),List.getElem?_replicate] at e
      split at e<;>cases e
  oo:=.none fun i xs e=>by
    unfold rho at e
    rcases Nat.lt_or_ge i ds.length with h | h
    · rw [List.getElem?_append_left (by simpa using h),List.getElem?_map] at e
      cases q:ds[i]? with
      | none=>rw [q] at e;cases e
      | some y=>rw [q] at e;cases e
    · rw [List.getElem?_append_right (by simpa using h),List.getElem?_replicate] at e
      split at e<;>cases e
section
variable {P:Program} {w:World} {K:PySem.W.Frag} {mg:Str→Option Value} {base:Heap}
theorem fnpx {x qual:Str} {st:Stmt} {f:Addr} {fd:FuncData} {N ps:List Str} {k:Nat} {S:Zaq} {z:WS} (F:Fun K x qual st f fd) (sc:FnScope N ps (defScope st)) (len:∀ ds E Q,S ds E Q→ds.length=ps.length)
    (hbody:∀ (cdv:Value) (A:Around) (outer:List Env) (s:Shared) (H:Hp) (E:XK),Room k (A.deeper (envOfC qual (defScope st) s.heap.objs.size f cdv))→
      Passes (CXv P w) (cxOf (CXv P w) P w K mg base N qual (defScope st) f cdv A outer s H E) E→Rais (cxOf (CXv P w) P w K mg base N qual (defScope st) f cdv A outer s H E) E→
      PZs (cxOf (CXv P w) P w K mg base N qual (defScope st) f cdv A outer s H E) E (defBody st) z)
    (h:∀ ds E Q,S ds E Q→z E { nx:=fun _=>Q .non,rt:=Q } (rho N ds)):FnOk P w K mg base (CXv P w) (k+1) f fd ps (spOf K S):=by
  obtain ⟨oc,od,kV,doc,pm,an,cdv,ct,osl,rfl,lk,hcd⟩:=F.ex
  refine fn_of lk hcd sc (fun vs H Q E hs=>?_) fun A outer s H vs Q E hr hs=>?_
  · obtain ⟨ds,W,_,r,hS⟩:=hs
    rw [r.length]
    exact len _ _ _ hS
  · obtain ⟨ds,W,ok,r,hS⟩:=hs
    obtain ⟨t,p,k⟩:=(hbody cdv A outer s H E hr pass_cx rais_cx).t
    refine ⟨t,p,k W H W W (start N vs) H (rho N ds) (fun ex=>∀ W' H' cls dx,Ext W H W' H'→ExRep K W' H' cls dx ex→E cls dx H') _ { nx:=fun _=>RQ K W H Q .non,rt:=RQ K W H Q } (sok_start ok r) (.refl W) (fun ex W' H' cls dx he x r=>he W' H' cls dx x r)
      ⟨fun W1 σ1 H1 ρ1 s1 _ q=>q _ W1 H1 s1.ext .non,fun d v W1 H1 x1 r1 q=>q v W1 H1 x1 r1,fun _ _ _ _ _ _ q=>q.elim,fun _ _ _ _ _ _ q=>q.elim⟩ (h ds _ _ hS)⟩
end
structure Fp (P:Program) (w:World) (K:PySem.W.Frag) (mg:Str→Option Value) (base:Heap) (k:Nat) (x:Str) (ps:List Str) (S:Zaq):Prop where
  ok:∃ f fd,FnOk P w K mg base (CXv P w) k f fd ps (spOf K S)∧mg x=some (.ref f)∧PySem.W.keepIn K (.ref f)=true∧Binds K fd ps []
  mono:PMono S
section
variable {X:Cx} {EX:XK} {pos p:Pos} {e:Expr} {es:List Expr} {t:WA} {x:Str} {k j:Nat} {ps:List Str} {S:Zaq}
theorem Zak (G:Fp X.prog X.w X.K X.mg X.base k x ps S) (hr:Room j X.A) (hx:Passes (CXv X.prog X.w) X EX) (ha:PXA X EX (e::es) t) (hk:k≤j:=by decide) (hg:Gl X x:=by rfl) (hdb:(x == ("__debug__" : Str))=false:=by decide) (he:starEach (e::es) X.env=(false,eval e X.env)::starEach es X.env:=by rfl) (hpl:(backTo pos (starEach es X.env)).any (·.1)=false:=by rfl) :
    PX X EX (.Call (.Name x p) (e::es) [] pos) (wF S t):=by
  obtain ⟨f,fd,F,hm,kp,hb⟩:=G.ok
  exact px_call F G.mono (hr.mono hk) hm kp hb hx ha hg hdb he hpl
def zNox (z:WS):WS:=fun _ N ρ=>z No N ρ
theorem ZcS {st:Stmt} {z:WS} (h:PZ X.nox E0 st z):PZ X EX st (zNox z):=by
  obtain ⟨t,p,k⟩:=h.t
  refine ⟨⟨t,fun pins s σ H D I hw=>wpAny_mono (p pins s σ H D (I.wish _) hw) (fun _ _ q=>q.unwish) fun _ _ z=>False.elim z,fun W0 H0 F W σ H ρ E Dn N s fl eo no q=>k W0 H0 F W σ H ρ No Dn N s fl (fun _ _ _ _ _ z=>z.elim) no q⟩,fun E ρ N N' hl q=>h.mono _ _ _ _ hl q⟩
end
end LP
namespace L2
open PySem PySem.Spec PyProof.Rows
section
variable {X:Cx} {tg:Expr}
def iSeq (K:PySem.W.Frag) (tl:TE):TI:=fun σ H R=>tl σ H fun x H1=>∃ a,x = .ref a∧(((∃ xs,SqL K H1 a xs)∧R (Itl K a) H1)∨((∃ xs,SqT K H1 a xs)∧R (Itt K a) H1))
theorem pi_seq {l:Expr} {tl:TE} (hl:PE X l tl):PI X tg l (iSeq X.K tl):=by
  intro pins s σ H R I h
  refine thn (hl pins s σ H _ I h) fun v s1 ⟨x,H1,I1,r1,q1⟩=>?_
  obtain ⟨a,e,⟨⟨xs,hq⟩,q⟩ | ⟨⟨xs,hq⟩,q⟩⟩:=q1
  · subst e
    cases r1
    obtain ⟨its,rv,p,hz⟩:=I1.list hq
    refine wpAny_pyIter_list p.isList ?_
    refine ⟨s1.heap.objs.size,[s1.heap.objs.size],_,_,H1,rfl,I1.kept (t':=s1.toks) fun b o e=>Heap.get?_push_of_some _ e,turn_list a _,⟨_,Heap.get?_push_size _ rfl,rfl,rfl⟩,fun b hb=>?_,q⟩
    have e:b=s1.heap.objs.size:=by simpa using hb
    subst e
    exact I1.fpOk (Nat.le_refl _) (I1.hok.fresh (Nat.le_refl _))
  · subst e
    cases r1
    obtain ⟨its,rv,p,hz⟩:=I1.tuple hq
    refine wpAny_pyIter_tuple (show s1.heap.IsTuple a its.toArray from p) ?_
    refine ⟨s1.heap.objs.size,[s1.heap.objs.size],_,_,H1,rfl,I1.kept (t':=s1.toks) fun b o e=>Heap.get?_push_of_some _ e,turn_tuple a _,⟨_,Heap.get?_push_size _ rfl,rfl,rfl⟩,fun b hb=>?_,q⟩
    have e:b=s1.heap.objs.size:=by simpa using hb
    subst e
    exact I1.fpOk (Nat.le_refl _) (I1.hok.fresh (Nat.le_refl _))
end
end L2
namespace LP
open PySem PySem.Spec PyProof.Rows L2
section
variable {X:Cx} {EX:XK} {pos p:Pos} {tg e a b:Expr} {w wa:WE}
def isS (Q:List D→Prop):D→Prop
  | .lst xs=>Q xs
  | .tup xs=>Q xs
  | _=>False
theorem isS.mono {Q Q':List D→Prop} (h:∀ b,Q b→Q' b):∀ d,isS Q d→isS Q' d:=fun d z=>by
  cases d<;>first | exact h _ z | exact z
def iS (w:WE):WA:=fun E ρ Q=>w E ρ (isS Q)
theorem Zcv (he:PX X EX e w):PXI X EX tg e (iS w):=by
  obtain ⟨t,q,k⟩:=he.t
  refine ⟨⟨_,pi_seq q,fun W0 H0 W σ H ρ E R s eo h=>?_⟩,fun E ρ P P' hp h=>he.mono _ _ _ _ (isS.mono hp) h⟩
  refine k W0 H0 W σ H ρ E _ s eo (he.mono _ _ _ _ (fun d hd v W1 H1 x1 r1=>?_) h)
  have keyT:∀ {l:Addr} {vs:List V} {xs:List D},(∀ W' H' J,Ext W H W' H'→ItOk X.K W' J xs→R J H')→(∀ W2 H2,(∀ a o,W1.G a=some o→W2.G a=some o)→WOk W2 H2→SqT X.K H2 l vs)→Reps X.K W1 vs xs→(∃ ys,SqT X.K H1 l ys)∧R (Itt X.K l) H1:=by
    intro l vs xs hq sq rr
    refine ⟨⟨vs,sq W1 H1 (fun _ _ z=>z) x1.ok⟩,hq W1 H1 _ x1 fun W2 H2 i g2 p2 ok2=>⟨fun d hd=>?_,fun hi=>⟨vs,sq W2 H2 g2 ok2,by rw [rr.length];exact hi⟩⟩⟩
    obtain ⟨v,ev,rv⟩:=rr.get hd
    refine ⟨⟨vs,v,sq W2 H2 g2 ok2,ev⟩,fun x H3 y=>?_⟩
    obtain ⟨rfl,y⟩:=y
    have:=y vs (sq W2 _ g2 ok2)
    rw [ev] at this
    cases this
    exact ⟨W2,.refl ok2,rv.mono g2 p2⟩
  cases r1 with
  | @lst l vs xs e1 rr=>
    have hq:∀ W' H' J,Ext W H W' H'→ItOk X.K W' J xs→R J H':=hd
    refine ⟨l,rfl,.inl ⟨⟨vs,SqL.of (x1.ok.g _ _ e1)⟩,hq W1 H1 _ x1 fun W2 H2 i g2 p2 ok2=>⟨fun d hd=>?_,fun hi=>⟨vs,SqL.of (ok2.g _ _ (g2 _ _ e1)),by rw [rr.length];exact hi⟩⟩⟩⟩
    obtain ⟨v,ev,rv⟩:=rr.get hd
    have sq:SqL X.K H2 l vs:=SqL.of (ok2.g _ _ (g2 _ _ e1))
    refine ⟨⟨vs,v,sq,ev⟩,fun x H3 y=>?_⟩
    obtain ⟨rfl,y⟩:=y
    have:=y vs sq
    rw [ev] at this
    cases this
    exact ⟨W2,.refl ok2,rv.mono g2 p2⟩
  | tup e1 rr=>exact ⟨_,rfl,.inr (keyT hd (fun W2 H2 g2 ok2=>SqT.of (ok2.g _ _ (g2 _ _ e1))) rr)⟩
  | ktup e1 rr=>exact ⟨_,rfl,.inr (keyT hd (fun W2 H2 g2 ok2=>.inr e1) rr)⟩
  | non=>exact hd.elim
  | bl _=>exact hd.elim
  | int _=>exact hd.elim
  | str _=>exact hd.elim
  | dic _=>exact hd.elim
  | pen _=>exact hd.elim
  | cls _=>exact hd.elim
  | exc _ _=>exact hd.elim
  | ty _=>exact hd.elim
  | scr _ _=>exact hd.elim
theorem px_bty {x:Str} {T:String} (hm:X.mg x=none) (hv:bootBuiltins x=some (.type T)) (hg:Gl X x:=by rfl) (hn:x≠ "__name__" :=by decide) (hd:(x == ("__debug__" : Str))=false:=by decide):PX X EX (.Name x pos) (wC (.ty T)):=
  px_bltn (v:=.ty T) hm hv rfl (fun _=>.ty T) hg hn hd
theorem px_gint {x:Str} {i:Int} {t:Tok} (hm:X.mg x=some (.int i t)) (hg:Gl X x:=by rfl) (hd:(x == ("__debug__" : Str))=false:=by decide):PX X EX (.Name x pos) (wC (.int i)):=
  px_glob (v:=.int i) hm ⟨t,rfl⟩ (fun _=>.int i) hg hd
theorem px_gtup {x:Str} {a:Addr} {vs:List V} {ds:List D} (hm:X.mg x=some (.ref a)) (hk:KT X.K a vs) (hr:∀ W,Reps X.K W vs ds) (hg:Gl X x:=by rfl) (hd:(x == ("__debug__" : Str))=false:=by decide):PX X EX (.Name x pos) (wC (.tup ds)):=
  px_glob (v:=.ref a) hm rfl (fun W=>.ktup hk (hr W)) hg hd
end
def detS (n:Nat) (dom:List D→Prop) (val:List D→D):Zaq:=fun ds _ Q=>ds.length=n∧dom ds∧Q (val ds)
theorem detS.mono {n:Nat} {dom:List D→Prop} {val:List D→D}:PMono (detS n dom val):=fun ds E E' Q Q' _ hQ h=>⟨h.1,h.2.1,hQ _ h.2.2⟩
theorem detS.len {n:Nat} {dom:List D→Prop} {val:List D→D} {ps:List Str} (hp:ps.length=n):∀ ds E Q,detS n dom val ds E Q→ds.length=ps.length:=fun ds E Q h=>h.1.trans hp.symm
def ndS (n:Nat) (dom:List D→Prop) (rel:List D→D→Prop):Zaq:=fun ds _ Q=>ds.length=n∧dom ds∧∀ d,rel ds d→Q d
theorem ndS.mono {n:Nat} {dom:List D→Prop} {rel:List D→D→Prop}:PMono (ndS n dom rel):=fun ds E E' Q Q' _ hQ h=>⟨h.1,h.2.1,fun d r=>hQ _ (h.2.2 d r)⟩
theorem ndS.len {n:Nat} {dom:List D→Prop} {rel:List D→D→Prop} {ps:List Str} (hp:ps.length=n):∀ ds E Q,ndS n dom rel ds E Q→ds.length=ps.length:=fun ds E Q h=>h.1.trans hp.symm
theorem gEq_int {neg:Bool} {i j:Int} {Q:D→Prop} (h:Q (.bl (if neg then !(i == j) else i == j))):gEq neg (.int i) (.int j) Q:=by
  refine ⟨.int i,.int j,rfl,rfl,rfl,rfl,?_⟩
  exact h
theorem Zai {neg:Bool} {i j:Int} {Q:D→Prop}:gEq neg (.int i) (.int j) Q↔Q (.bl (if neg then !(i == j) else i == j)):=
  ⟨fun ⟨p,q,h1,h2,_,_,h⟩=>by cases h1;cases h2;exact h,gEq_int⟩
section
variable {X:Cx} {EX:XK} {pos:Pos} {tg e a b c:Expr} {es:List Expr} {w wa:WE} {g:WG}
abbrev WGs:=List D→Rho→(Rho→Prop)→Prop
structure PXGs (X:Cx) (ts:List Expr) (g:WGs):Prop where
  t:∃ t,PGs X ts t∧∀ W0 H0 W σ H ρ ds vs Q,SOk X.K W0 H0 W σ H ρ→Reps X.K W vs ds→g ds ρ (fun ρ'=>∀ σ',SOk X.K W0 H0 W σ' H ρ'→Q σ' H)→t vs σ H Q
  mono:∀ d ρ P P',(∀ r,P r→P' r)→g d ρ P→g d ρ P'
  own:∀ d ρ P,noOwn ρ→g d ρ P→g d ρ (fun r=>noOwn r∧P r)
def ZaZ:WGs:=fun ds ρ k=>match ds with
  | []=>k ρ
  | _=>False
def Zap (g:WG) (gs:WGs):WGs:=fun ds ρ k=>match ds with
  | d::ds=>g d ρ fun ρ'=>gs ds ρ' k
  | _=>False
theorem ZdN:PXGs X [] ZaZ:=by
  refine ⟨⟨_,pgs_nil,fun W0 H0 W σ H ρ ds vs Q s r h=>?_⟩,fun d ρ P P' hp h=>?_,fun d ρ P ho h=>?_⟩
  · cases r with
    | nil=>exact ⟨rfl,h σ s⟩
    | cons _ _=>exact h.elim
  · cases d with
    | nil=>exact hp _ h
    | cons _ _=>exact h.elim
  · cases d with
    | nil=>exact ⟨ho,h⟩
    | cons _ _=>exact h.elim
theorem ZaT {gs:WGs} (h1:PXG X e g) (h2:PXGs X es gs) (hs:(assignEach (e::es) X.env).map (·.2)=assign e X.env::(assignEach es X.env).map (·.2):=by rfl):PXGs X (e::es) (Zap g gs):=by
  obtain ⟨t1,p1,k1⟩:=h1.t
  obtain ⟨t2,p2,k2⟩:=h2.t
  refine ⟨⟨_,pgs_cons p1 p2 hs,fun W0 H0 W σ H ρ ds vs Q s r h=>?_⟩,fun d ρ P P' hp h=>?_,fun d ρ P ho h=>?_⟩
  · cases r with
    | nil=>exact h.elim
    | cons r rr=>exact ⟨_,_,rfl,k1 W0 H0 W σ H ρ _ _ _ s r (h1.mono _ _ _ _ (fun ρ' h' σ' s'=>k2 W0 H0 W σ' H ρ' _ _ Q s' rr h') h)⟩
  · cases d with
    | nil=>exact h.elim
    | cons d ds=>exact h1.mono _ _ _ _ (fun r hr=>h2.mono _ _ _ _ hp hr) h
  · cases d with
    | nil=>exact h.elim
    | cons d ds=>exact h1.mono _ _ _ _ (fun r hr=>h2.own _ _ _ hr.1 hr.2) (h1.own _ _ _ ho h)
def gTp (n:Nat) (gs:WGs):WG:=fun d ρ k=>match d with
  | .tup xs=>xs.length=n∧gs xs ρ k
  | _=>False
theorem ZeR {k n:Nat} {gs:WGs} (hc:X.calm=true) (h:PXGs X es gs) (hn:(assignEach es X.env).length=n:=by rfl) (hst:(assignEach es X.env).findIdx? (·.1)=none:=by rfl):PXG X (.Tuple es k pos) (gTp n gs):=by
  obtain ⟨t,p,kk⟩:=h.t
  refine ⟨⟨_,pg_tup hc p hn hst,fun W0 H0 W σ H ρ d v Q s r q=>?_⟩,fun d ρ P P' hp q=>?_,fun d ρ P ho q=>?_⟩
  · unfold gTp at q
    split at q
    · obtain ⟨a,vs,rfl,h1,rr⟩:=r.sqt s.ok
      exact ⟨a,vs,rfl,h1,rr.length.trans q.1,kk W0 H0 W σ H ρ _ _ Q s rr q.2⟩
    · exact q.elim
  · unfold gTp at q ⊢
    split at q
    · exact ⟨q.1,h.mono _ _ _ _ hp q.2⟩
    · exact q.elim
  · unfold gTp at q ⊢
    split at q
    · exact ⟨q.1,h.own _ _ _ ho q.2⟩
    · exact q.elim
def zAsg (w:WE) (g:WG):WS:=fun E N ρ=>w E ρ fun d=>g d ρ N.nx
theorem pz_asg (he:PX X EX e w) (hg:PXG X tg g) (hs:swapsWithSole [tg] e pos.line X.env=pure false:=by rfl) (hw:swappedStores [tg] e X.env=pure none:=by rfl)
    (h1:(assignEach [tg] X.env).map (·.2)=[assign tg X.env]:=by rfl):PZ X EX (.Assign [tg] e pos) (zAsg w g):=by
  obtain ⟨t,p,k⟩:=he.t
  obtain ⟨t2,p2,k2⟩:=hg.t
  refine ⟨⟨_,ps_asg p p2 hs hw h1,fun W0 H0 F W σ H ρ E Dn N s fl eo no h=>?_⟩,fun E ρ N N' hl q=>he.mono _ _ _ _ (fun d hd=>hg.mono _ _ _ _ hl.nx hd) q⟩
  refine k W0 H0 W σ H ρ E _ s eo (he.mono _ _ _ _ (fun d hd v W1 H1 x1 r1=>?_) h)
  exact k2 W0 H0 W1 σ H1 ρ d v _ (s.step x1) r1 (hg.mono _ _ _ _ (fun ρ' h' σ' s'=>no.nx W1 σ' H1 ρ' s' (fl.ext x1) h') hd)
def zPar (i j:Nat) (t:WA):WS:=fun E N ρ=>t E ρ fun ds=>match ds with
  | [x,y]=>N.nx ((ρ.set i (.d x)).set j (.d y))
  | _=>False
theorem pz_par (i j:Nat) {x y:Str} {t:WA} {px py pt:Pos} {kt k2 pt2} (hN:X.N.Nodup) (ha:PXA X EX [a,b] t) (hc:X.calm=true:=by rfl) (hi:X.N[i]? = some x:=by rfl) (hj:X.N[j]? = some y:=by rfl) (hij:i≠j:=by decide)
    (hx:X.env.scope.names.lookup x=some .local:=by rfl) (hy:X.env.scope.names.lookup y=some .local:=by rfl)
    (hw:swappedStores [.Tuple [.Name x px,.Name y py] kt pt] (.Tuple [a,b] k2 pt2) X.env=pure (some [x,y]):=by rfl)
    (hs:swapsWithSole [.Tuple [.Name x px,.Name y py] kt pt] (.Tuple [a,b] k2 pt2) pos.line X.env=pure false:=by rfl) :
    PZ X EX (.Assign [.Tuple [.Name x px,.Name y py] kt pt] (.Tuple [a,b] k2 pt2) pos) (zPar i j t):=by
  obtain ⟨ta,p,k⟩:=ha.t
  refine ⟨⟨_,ps_par hc hN hi hj hij hx hy p hw hs,fun W0 H0 F W σ H ρ E Dn N s fl eo no h=>?_⟩,fun E ρ N N' hl q=>ha.mono _ _ _ _ (fun ds hd=>?_) q⟩
  · refine k W0 H0 W σ H ρ E _ s eo (ha.mono _ _ _ _ (fun ds hd vs W1 H1 x1 r1=>?_) h)
    split at hd
    · obtain ⟨v,u,rfl,rv,ru⟩:=r1.two
      exact ⟨v,u,rfl,no.nx W1 _ H1 _ (((s.step x1).set rv).set ru) (fl.ext x1) hd⟩
    · exact hd.elim
  · split at hd
    · exact hl.nx _ hd
    · exact hd.elim
def zWhile (c:WT) (zb:WS):WS:=fun E N ρ=>∃ I:Nat→Rho→Prop,(∃ m,I m ρ)∧∀ m ρ,I m ρ→c E ρ fun b=>
  if b=true then zb E { nx:=fun ρ'=>∃ m',m' < m∧I m' ρ',rt:=N.rt,bk:=N.nx,ct:=fun ρ'=>∃ m',m' < m∧I m' ρ' } ρ else N.nx ρ
theorem pz_while {wt:WT} {zb:WS} {body:List Stmt} (hp:PassesOwn (model X.prog X.w) X.A X.env X.xe) (hc:PXT X EX c wt) (hb:PZs X EX body zb):PZ X EX (.While c body [] pos) (zWhile wt zb):=by
  obtain ⟨tc,pc,kc⟩:=hc.t
  obtain ⟨tb,pb,kb⟩:=hb.t
  refine ⟨⟨_,ps_while hp pc pb,fun W0 H0 F W σ H ρ E Dn N s fl eo no h=>?_⟩,fun E ρ N N' hl q=>?_⟩
  · obtain ⟨I,⟨m0,i0⟩,turn⟩:=h
    refine ⟨fun m σ H=>∃ W ρ,SOk X.K W0 H0 W σ H ρ∧Wle F W∧I m ρ,⟨m0,W,ρ,s,fl,i0⟩,?_⟩
    rintro m σ2 H2 ⟨W2,ρ2,s2,f2,i2⟩
    refine kc W0 H0 W2 σ2 H2 ρ2 E _ s2 eo (hc.mono _ _ _ _ (fun b hb' W3 H3 x3=>?_) (turn m ρ2 i2))
    cases b with
    | true=>
      rw [if_pos rfl] at hb' ⊢
      refine ⟨fun σ4 H4=>∃ m',m' < m∧∃ W ρ,SOk X.K W0 H0 W σ4 H4 ρ∧Wle F W∧I m' ρ,fun σ4 H4 ⟨m',hm,q⟩=>⟨m',hm,q⟩,?_⟩
      exact kb W0 H0 F W3 σ2 H3 ρ2 E _ { nx:=fun ρ'=>∃ m',m' < m∧I m' ρ',rt:=N.rt,bk:=N.nx,ct:=fun ρ'=>∃ m',m' < m∧I m' ρ' } (s2.step x3) (f2.ext x3) eo
        ⟨fun W5 σ5 H5 ρ5 s5 f5 ⟨m',hm,q⟩=>⟨m',hm,W5,ρ5,s5,f5,q⟩,no.rt,fun W5 σ5 H5 ρ5 s5 f5 q=>no.nx W5 σ5 H5 ρ5 s5 f5 q,fun W5 σ5 H5 ρ5 s5 f5 ⟨m',hm,q⟩=>⟨m',hm,W5,ρ5,s5,f5,q⟩⟩ hb'
    | false=>rw [if_neg (by decide)] at hb' ⊢;exact no.nx W3 σ2 H3 ρ2 (s2.step x3) (f2.ext x3) hb'
  · obtain ⟨I,i0,turn⟩:=q
    refine ⟨I,i0,fun m ρ i=>hc.mono _ _ _ _ (fun b hb'=>?_) (turn m ρ i)⟩
    cases b with
    | true=>rw [if_pos rfl] at hb' ⊢;exact hb.mono E ρ { nx:=fun ρ'=>∃ m',m' < m∧I m' ρ',rt:=N.rt,bk:=N.nx,ct:=fun ρ'=>∃ m',m' < m∧I m' ρ' } _ ⟨fun _ z=>z,hl.rt,hl.nx,fun _ z=>z⟩ hb'
    | false=>rw [if_neg (by decide)] at hb' ⊢;exact hl.nx _ hb'
theorem ps_assert {tc:TT} (hc:PT X c tc) (hs:exec (.Assert c none pos) X.env=(do standAt pos;if ← isTrue c X.env (eval c X.env) then pure .next else assertFails c.pos (evalOpt none X.env)):=by rfl):PS X (.Assert c none pos) (fun D σ H=>tc σ H fun b H1=>b=true∧D.nx σ H1):=by
  intro pins s σ H D I h
  rw [hs]
  refine wpAny_bind (wpAny_standAt (wpAny_bind (thn (hc pins s σ H _ I h) fun b s1 ⟨H1,I1,e,q⟩=>?_)))
  subst e
  rw [if_pos rfl]
  exact wpAny_pure ⟨σ,H1,I1,q⟩
def ZaI (c:WT):WS:=fun E N ρ=>c E ρ fun b=>b=true∧N.nx ρ
theorem pz_assert {wt:WT} (hc:PXT X EX c wt) (hs:exec (.Assert c none pos) X.env=(do standAt pos;if ← isTrue c X.env (eval c X.env) then pure .next else assertFails c.pos (evalOpt none X.env)):=by rfl):PZ X EX (.Assert c none pos) (ZaI wt):=by
  obtain ⟨tc,pc,kc⟩:=hc.t
  refine ⟨⟨_,ps_assert pc hs,fun W0 H0 F W σ H ρ E Dn N s fl eo no h=>?_⟩,fun E ρ N N' hl q=>hc.mono _ _ _ _ (fun b hb=>⟨hb.1,hl.nx _ hb.2⟩) q⟩
  exact kc W0 H0 W σ H ρ E _ s eo (hc.mono _ _ _ _ (fun b hb W1 H1 x1=>⟨hb.1,no.nx W1 σ H1 ρ (s.step x1) (fl.ext x1) hb.2⟩) h)
def zApp (i:Nat) (w:WE):WS:=fun E N ρ=>match ρ[i]? with
  | some (.ow xs)=>w E ρ fun d=>xs.length < small∧N.nx (ρ.set i (.ow (xs++[d])))
  | _=>False
theorem pz_append (i:Nat) {x:Str} {p apos cpos:Pos} (he:PX X EX e w) (hN:X.N[i]? = some x:=by rfl) (hv:Vis X.env.scope x:=by first | exact Or.inl rfl | exact Or.inr (Or.inl rfl) | exact Or.inr (Or.inr rfl)) (hd:(x == ("__debug__" : Str))=false:=by decide)
    (hcd:(x == ("__classdict__" : Str))=false:=by decide) (hbase:attributeBase (.Name x p) "append" X.env (eval (.Name x p) X.env)=eval (.Name x p) X.env:=by rfl)
    (hfew:((backTo cpos (starEach [e] X.env)).all (fun x=>!x.1) && (backToKw cpos (keywordEach [] X.env)).all (fun x=>x.1.isSome) && decide ([e].length+([]:List Keyword).length+(if ([]:List Keyword).isEmpty then 0 else 1) < 30))=true:=by rfl)
    (hline:(apos.endLine == cpos.line)=true:=by rfl) (hs:starEach [e] X.env=(false,eval e X.env)::starEach [] X.env:=by rfl) (hplain:(backTo cpos (starEach [] X.env)).any (·.1)=false:=by rfl)
    (hsw:swapsWith (.Call (.Attribute (.Name x p) "append" apos) [e] [] cpos) none pos.line X.env=pure false:=by rfl):PZ X EX (.Expr (.Call (.Attribute (.Name x p) "append" apos) [e] [] cpos) pos) (zApp i w):=by
  obtain ⟨t,pe,k⟩:=he.t
  refine ⟨⟨_,ps_expr (pe_bm PySem.F.plainAttrs_list PySem.F.slot_list_append PySem.F.type_list_append mt_append (pe_var hN hv hd hcd) (pa_cons pe pa_nil hs) hbase hfew hline hs hplain) hsw,fun W0 H0 F W σ H ρ E Dn N s fl eo no h=>?_⟩,fun E ρ N N' hl q=>?_⟩
  · unfold zApp at h
    split at h
    · rename_i xs ex
      obtain ⟨a,vs,e1,e2,e3,e4,e5,r⟩:=s.o i xs ex
      refine ⟨_,e1,.inl ⟨rfl,vs,SqL.of e2⟩,?_⟩
      refine k W0 H0 W σ H ρ E _ s eo (he.mono _ _ _ _ (fun d hd v W1 H1 x1 r1=>?_) h)
      have e2':=x1.h a _ e2 e4
      refine ⟨a,vs,v,rfl,rfl,e2',by rw [r.length];exact Nat.lt_of_lt_of_le hd.1 (ZaV (Nat.le_refl _)),?_⟩
      exact no.nx W1 σ _ _ ((s.step x1).chg ex e1 ((x1.reps r).append (.cons r1 .nil))) (fl.ext x1) hd.2
    · exact h.elim
  · unfold zApp at q ⊢
    split at q
    · exact he.mono _ _ _ _ (fun d hd=>⟨hd.1,hl.nx _ hd.2⟩) q
    · exact q.elim
end
end LP
namespace L2
open PySem PySem.Spec PyProof.Rows
theorem Inv.turnedL {X:Cx} {pins:List (Addr×Obj)} {σ:St} {H:Hp} {s:Shared} {h':Heap} {t':Nat} (ts:List Addr) (I:Inv X pins σ H s) (k:∀ b o,b∉ts→s.heap.get? b=some o→h'.get? b=some o)
    (hf:∀ b∈ts,FpOk X pins H b):Inv X pins σ H { s with heap:=h',toks:=t' }:=by
  refine I.step (g':=s.gens) (d':=s.drawn) (ch:=ts) (fun b hb=>?_) (fun b o _ _ hc e _=>k b o hc e) (fun b o _ _ hc e _=>⟨o.slots,k b o hc e⟩) (fun _ _ _ _ n=>n)
    (fun b o hc e=>⟨o,k b o hc e⟩) (fun _ _ e=>e) (fun _ _ _ e=>e) (fun b ps e=>⟨#[],by rw [e];simp⟩) (fun m hm=>?_) (fun b u e=>?_) I.bare
  · obtain ⟨_,f1,_,f3,f4,f5⟩:=hf b hb
    exact ⟨f3,f1,f4,f5⟩
  · obtain ⟨o,es,ep,ho,r⟩:=hm
    exact ⟨o,es,ep,k _ o (fun z=>(hf _ z).2.1 rfl) ho,r⟩
  · have nt:∀ c v,H c=some v→c∉ts:=fun c v q z=>by rw [(hf c z).1] at q;cases q
    refine (I.hok b u e).stay (fun c v hc q=>k c v ?_ q) (fun _ q=>q) fun _ _ q=>q
    rcases hc with z | z
    · rw [z];exact nt b u e
    · exact nt c _ z
def SIt (κ:Bool) (h:Heap) (it l:Addr) (i:Nat):Prop:=match κ with
  | true=>h.IsTupleIter it l i
  | false=>h.IsListIter it l i
def SSq (κ:Bool) (h:Heap) (l:Addr) (xs:Array Value):Prop:=match κ with
  | true=>h.IsTuple l xs
  | false=>h.IsList l xs
section
variable {κ:Bool} {h h':Heap} {it l a:Addr} {i:Nat} {xs:Array Value}
theorem SIt.keep (x:SIt κ h it l i) (k:∀ o,h.get? it=some o→h'.get? it=some o):SIt κ h' it l i:=by
  cases κ
  · exact Heap.IsListIter.at x k
  · exact Heap.IsTupleIter.at x k
theorem SIt.obj (x:SIt κ h it l i):∃ o,h.get? it=some o∧(∀ v,o.data≠.cell v):=by
  cases κ
  all_goals
    obtain ⟨o,e,_,d⟩:=x
    exact ⟨o,e,fun v z=>by rw [d] at z;cases z⟩
theorem SSq.keep (x:SSq κ h l xs) (k:∀ o,h.get? l=some o→h'.get? l=some o):SSq κ h' l xs:=by
  cases κ
  all_goals
    obtain ⟨o,e,r⟩:=x
    exact ⟨o,k o e,r⟩
end
section
variable {κ:Bool} {prog:Program} {w:World} {A:Around} {E:Value→Shared→Prop} {s:Shared} {it l:Addr} {i:Nat} {xs:Array Value} {x:Value}
theorem Zc7 {Q:Value→Shared→Prop} (hi:SIt κ s.heap it l i) (hl:SSq κ s.heap l xs) (hx:xs[i]? = some x) (q:∀ h',SIt κ h' it l (i+1)→Heap.SameBut it s.heap h'→Q x { s with heap:=h' }) :
    wpAny (model prog w) A (Builtin.SmallTypes.nextOf (.ref it)) Q E s:=by
  cases κ with
  | false=>exact wpAny_nextOf_list_item hi hl hx q
  | true=>
    have ht:s.heap.IsTupleIter it l i:=hi
    obtain ⟨ob,hob,hcl,hda⟩:=id ht
    obtain ⟨sq,hsq,_,nn,hds⟩:=(show s.heap.IsTuple l xs from hl)
    unfold Builtin.SmallTypes.nextOf
    refine wpAny_bind (wpAny_callSpecial?_slot (name:=Str.ofString "__next__") ht.typeIs F.slot_tuple_iterator_next (wpAny_call_entry F.slot_tuple_iterator_next ht.typeIs F.entry_tuple_iterator_next ?_ (F.args_tuple_iterator_next_1 _)))
    show wpAny _ _ (field (.ref it) 0 >>= _) _ E s
    refine wpAny_bind (wpAny_field hob hda (x:=.ref l) rfl ?_)
    show wpAny _ _ (if (Value.ref l == Value.none)=true then _ else _) _ E s
    rw [if_neg (show ¬ ((Value.ref l == Value.none)=true) by exact Bool.false_ne_true)]
    show wpAny _ _ (field (.ref it) 1 >>= _) _ E s
    refine wpAny_bind (wpAny_field hob hda (x:=.int i 0) rfl ?_)
    show wpAny _ _ (seqItems? (.ref l) >>= _) _ E s
    refine wpAny_bind (wpAny_seqItems hsq hds ?_)
    simp only [Int.toNat_natCast,hx]
    refine wpAny_bind (wpAny_setField hob hda (by simp) (wpAny_pure ⟨x,rfl,wpAny_pure (q _ ?_ (Heap.SameBut.update ..))⟩))
    exact ⟨_,Heap.get?_update_self _ hob (Obj.isFreed_of_fields (Obj.data_mapFields hda _)),(Obj.cls_mapFields ..).trans hcl,by rw [Obj.data_mapFields hda];simp [rawInt]⟩
theorem ZdP {Q:Value→Shared→Prop} (hh:A.handled=none) (hi:SIt κ s.heap it l i) (hl:SSq κ s.heap l xs) (hx:xs[i]? = none)
    (q:∀ h' e,Heap.ExtBut it s.heap h'→(∃ o,h'.get? e=some o∧o.cls = .type "StopIteration")→E (.ref e) { s with heap:=h' }) :
    wpAny (model prog w) A (Builtin.SmallTypes.nextOf (.ref it)) Q E s:=by
  cases κ with
  | false=>exact wpAny_nextOf_list_end hh hi hl hx q
  | true=>
    have ht:s.heap.IsTupleIter it l i:=hi
    obtain ⟨ob,hob,hcl,hda⟩:=id ht
    obtain ⟨sq,hsq,_,nn,hds⟩:=(show s.heap.IsTuple l xs from hl)
    unfold Builtin.SmallTypes.nextOf
    refine wpAny_bind (wpAny_callSpecial?_slot (name:=Str.ofString "__next__") ht.typeIs F.slot_tuple_iterator_next (wpAny_call_entry F.slot_tuple_iterator_next ht.typeIs F.entry_tuple_iterator_next ?_ (F.args_tuple_iterator_next_1 _)))
    show wpAny _ _ (field (.ref it) 0 >>= _) _ E s
    refine wpAny_bind (wpAny_field hob hda (x:=.ref l) rfl ?_)
    show wpAny _ _ (if (Value.ref l == Value.none)=true then _ else _) _ E s
    rw [if_neg (show ¬ ((Value.ref l == Value.none)=true) by exact Bool.false_ne_true)]
    show wpAny _ _ (field (.ref it) 1 >>= _) _ E s
    refine wpAny_bind (wpAny_field hob hda (x:=.int i 0) rfl ?_)
    show wpAny _ _ (seqItems? (.ref l) >>= _) _ E s
    refine wpAny_bind (wpAny_seqItems hsq hds ?_)
    simp only [Int.toNat_natCast,hx]
    refine wpAny_bind (wpAny_rule (wpAny_bind (wpAny_setField hob hda (by simp) ?_)))
    show wpAny _ _ (newExc (.type "StopIteration") [] >>= _) _ E _
    refine wpAny_bind ?_
    simp only [newExc,newTuple]
    refine wpAny_bind (wpAny_newObj_type ?_ (by size_fits))
    refine wpAny_bind (m:=firstArgMember _ _) (wpAny_of_eq (a:=Value.none) (by first | rfl | (rw [firstArgMember];rfl)) (wpAny_newObj_type ?_ (by size_fits)))
    simp only [raiseNew]
    refine wpAny_bind (wpAny_handled ?_)
    rw [show A.in1.handled=none from hh]
    exact wpAny_bind (wpAny_pure (wpAny_throw (q _ _ (((Heap.SameBut.update ..).extBut.push _).push _) ⟨_,Heap.get?_push_size _ rfl,rfl⟩)))
end
structure ZAp (z TI TO j1 j2:Addr):Prop where
  a:TI≠z
  b:TO≠z
  c:j1≠z
  d:j2≠z
  e:TI≠TO
  f:TI≠j1
  g:TI≠j2
  h:TO≠j1
  i:TO≠j2
  j:j1≠j2
def Out (z TI TO j1 j2 l:Addr):Prop:=l≠z∧l≠TI∧l≠TO∧l≠j1∧l≠j2
section
variable {κ κ':Bool} {prog:Program} {w:World} {A:Around} {E:Value→Shared→Prop} {s:Shared} {z TI TO j1 j2 l1 l2:Addr} {i:Nat} {xs ys:Array Value} {x y a b:Value}
theorem zip_item {Q:Value→Shared→Prop} (D:ZAp z TI TO j1 j2) (d1:Out z TI TO j1 j2 l1) (d2:Out z TI TO j1 j2 l2)
    (zz:IsZip s.heap z TI TO .none) (zi:IsPair s.heap TI (.ref j1) (.ref j2)) (zo:IsPair s.heap TO a b) (u1:SIt κ s.heap j1 l1 i) (u2:SIt κ' s.heap j2 l2 i) (v1:SSq κ s.heap l1 xs) (v2:SSq κ' s.heap l2 ys) (ex:xs[i]? = some x) (ey:ys[i]? = some y)
    (q:∀ h',IsZip h' z TI TO (rawInt s.heap.objs.size)→IsPair h' TO x y→SIt κ h' j1 l1 (i+1)→SIt κ' h' j2 l2 (i+1)→IsPair h' s.heap.objs.size x y→h'.objs.size=s.heap.objs.size+1→
      (∀ c o,c≠z→c≠TO→c≠j1→c≠j2→s.heap.get? c=some o→h'.get? c=some o)→Q (.ref s.heap.objs.size) { s with heap:=h' }) :
    wpAny (model prog w) A (Builtin.«zip.__next__» ⟨[.ref z],[]⟩) (fun fin s'=>∃ v,fin = .done (.ret v)∧Q v s') E s:=by
  obtain ⟨o1z,_,o1O,o11,o12⟩:=d1
  obtain ⟨o2z,_,o2O,o21,o22⟩:=d2
  show wpAny _ _ (field (.ref z) 2 >>= _) _ E _
  refine wpAny_bind (wpAny_field zz rfl (x:=.bool false) rfl ?_)
  show wpAny _ _ (field (.ref z) 3 >>= _) _ E _
  refine wpAny_bind (wpAny_field zz rfl (x:=.ref TI) rfl (wpAny_bind (wpAny_seqItems zi rfl ?_)))
  show wpAny _ _ (Builtin.SmallTypes.ownedTupleIsFree (.ref z) >>= _) _ E _
  refine wpAny_bind ?_
  unfold Builtin.SmallTypes.ownedTupleIsFree
  refine wpAny_bind (wpAny_field zz rfl (x:=.none) rfl (wpAny_pure ?_))
  simp only [if_true]
  refine wpAny_bind (wpAny_rule (wpAny_bind (wpAny_field zz rfl (x:=.ref TO) rfl (wpAny_bind (wpAny_setField_rec zz (by simp) fun g1 zz1 k1=>?_)))))
  replace zz1:IsZip g1 z TI TO .ellipsis:=zz1
  refine wpAny_bind ?_
  simp only [List.zipIdx_cons,List.zipIdx_nil,List.forIn_cons,List.forIn_nil]
  refine wpAny_bind (wpAny_bind (wpAny_onRaise ?_))
  show wpAny _ _ (Builtin.SmallTypes.nextOf (.ref j1) >>= _) _ _ _
  refine wpAny_bind (Zc7 (u1.keep fun o e=>k1.extBut _ o D.c e) (v1.keep fun o e=>k1.extBut _ o o1z e) ex fun g2 u1' k2=>wpAny_pure ?_)
  have zo2:IsPair g2 TO a b:=k2.extBut _ _ D.h (k1.extBut _ _ D.b zo)
  refine wpAny_bind (wpAny_seqItems zo2 rfl (wpAny_bind (wpAny_updateSeq_pair zo2 fun g3 zo3 k3=>?_)))
  replace zo3:IsPair g3 TO x b:=zo3
  refine wpAny_bind (wpAny_letGo (wpAny_pure ?_))
  refine wpAny_bind (wpAny_bind (wpAny_onRaise ?_))
  show wpAny _ _ (Builtin.SmallTypes.nextOf (.ref j2) >>= _) _ _ _
  refine wpAny_bind (Zc7 (u2.keep fun o e=>k3.extBut _ o D.i.symm (k2.extBut _ o D.j.symm (k1.extBut _ o D.d e))) (v2.keep fun o e=>k3.extBut _ o o2O (k2.extBut _ o o21 (k1.extBut _ o o2z e))) ey fun g4 u2' k4=>wpAny_pure ?_)
  have zo4:IsPair g4 TO x b:=k4.extBut _ _ D.i zo3
  refine wpAny_bind (wpAny_seqItems zo4 rfl (wpAny_bind (wpAny_updateSeq_pair zo4 fun g5 zo5 k5=>?_)))
  replace zo5:IsPair g5 TO x y:=zo5
  refine wpAny_bind (wpAny_letGo (wpAny_pure (wpAny_pure (wpAny_bind (wpAny_seqItems zo5 rfl (wpAny_bind (wpAny_newTuple ?_)))))))
  have sz:g5.objs.size=s.heap.objs.size:=by rw [k5.1,k4.1,k3.1,k2.1,k1.1]
  have zz5:IsZip g5 z TI TO .ellipsis:=k5.extBut _ _ D.b.symm (k4.extBut _ _ D.d.symm (k3.extBut _ _ D.b.symm (k2.extBut _ _ D.c.symm zz1)))
  have kk:∀ c o,c≠z→c≠TO→c≠j1→c≠j2→s.heap.get? c=some o→g5.get? c=some o:=fun c o c1 c2 c3 c4 e=>k5.extBut _ _ c2 (k4.extBut _ _ c4 (k3.extBut _ _ c2 (k2.extBut _ _ c3 (k1.extBut _ _ c1 e))))
  have r1:SIt κ g5 j1 l1 (i+1):=u1'.keep fun o e=>k5.extBut _ o D.h.symm (k4.extBut _ o D.j (k3.extBut _ o D.h.symm e))
  have r2:SIt κ' g5 j2 l2 (i+1):=u2'.keep fun o e=>k5.extBut _ o D.i.symm e
  have zlt:z < g5.objs.size:=Heap.lt_size zz5
  show wpAny _ _ (Builtin.SmallTypes.ownedTupleHandOut (.ref z) (.ref g5.objs.size) >>= _) _ E _
  refine wpAny_bind ?_
  unfold Builtin.SmallTypes.ownedTupleHandOut
  have zz6:IsZip (g5.push { cls:=.type "tuple",data:=.seq #[x,y] }) z TI TO .ellipsis:=Heap.get?_push_of_some _ zz5
  refine wpAny_bind (wpAny_setField_rec zz6 (by simp) fun g7 zz7 k7=>?_)
  replace zz7:IsZip g7 z TI TO (rawInt g5.objs.size):=zz7
  refine wpAny_setField_rec zz7 (by simp) fun g8 zz8 k8=>?_
  replace zz8:IsZip g8 z TI TO (rawInt g5.objs.size):=zz8
  have up:∀ c o,c≠z→g5.get? c=some o→g8.get? c=some o:=fun c o c1 e=>k8.extBut _ _ c1 (k7.extBut _ _ c1 (Heap.get?_push_of_some _ e))
  have tt8:IsPair g8 g5.objs.size x y:=k8.extBut _ _ (Nat.ne_of_gt zlt) (k7.extBut _ _ (Nat.ne_of_gt zlt) (Heap.get?_push_size _ rfl))
  have sz8:g8.objs.size=g5.objs.size+1:=by rw [k8.1,k7.1,Heap.size_push]
  rw [sz] at zz8 tt8 sz8
  refine wpAny_pure ⟨_,rfl,?_⟩
  show Q (.ref g5.objs.size) _
  rw [sz]
  exact q g8 zz8 (up _ _ D.b zo5) (r1.keep fun o e=>up _ o D.c e) (r2.keep fun o e=>up _ o D.d e) tt8 sz8 fun c o c1 c2 c3 c4 e=>up c o c1 (kk c o c1 c2 c3 c4 e)
theorem zip_end {Q:Fin→Shared→Prop} (hh:A.handled=none) (D:ZAp z TI TO j1 j2) (d1:Out z TI TO j1 j2 l1) (d2:Out z TI TO j1 j2 l2)
    (zz:IsZip s.heap z TI TO .none) (zi:IsPair s.heap TI (.ref j1) (.ref j2)) (zo:IsPair s.heap TO a b) (u1:SIt κ s.heap j1 l1 i) (u2:SIt κ' s.heap j2 l2 i) (v1:SSq κ s.heap l1 xs) (v2:SSq κ' s.heap l2 ys) (en:xs[i]? = none∨ys[i]? = none)
    (q:∀ h' e,(∀ c o,c≠z→c≠TO→c≠j1→c≠j2→s.heap.get? c=some o→h'.get? c=some o)→(∃ o,h'.get? e=some o∧o.cls = .type "StopIteration")→E (.ref e) { s with heap:=h' }) :
    wpAny (model prog w) A (Builtin.«zip.__next__» ⟨[.ref z],[]⟩) Q E s:=by
  obtain ⟨o1z,_,o1O,o11,o12⟩:=d1
  obtain ⟨o2z,_,o2O,o21,o22⟩:=d2
  show wpAny _ _ (field (.ref z) 2 >>= _) _ E _
  refine wpAny_bind (wpAny_field zz rfl (x:=.bool false) rfl ?_)
  show wpAny _ _ (field (.ref z) 3 >>= _) _ E _
  refine wpAny_bind (wpAny_field zz rfl (x:=.ref TI) rfl (wpAny_bind (wpAny_seqItems zi rfl ?_)))
  show wpAny _ _ (Builtin.SmallTypes.ownedTupleIsFree (.ref z) >>= _) _ E _
  refine wpAny_bind ?_
  unfold Builtin.SmallTypes.ownedTupleIsFree
  refine wpAny_bind (wpAny_field zz rfl (x:=.none) rfl (wpAny_pure ?_))
  simp only [if_true]
  refine wpAny_bind (wpAny_rule (wpAny_bind (wpAny_field zz rfl (x:=.ref TO) rfl (wpAny_bind (wpAny_setField_rec zz (by simp) fun g1 zz1 k1=>?_)))))
  replace zz1:IsZip g1 z TI TO .ellipsis:=zz1
  refine wpAny_bind ?_
  simp only [List.zipIdx_cons,List.zipIdx_nil,List.forIn_cons,List.forIn_nil]
  refine wpAny_bind (wpAny_bind (wpAny_onRaise ?_))
  show wpAny _ _ (Builtin.SmallTypes.nextOf (.ref j1) >>= _) _ _ _
  cases ex:xs[i]? with
  | none=>
    refine wpAny_bind (ZdP hh (u1.keep fun o e=>k1.extBut _ o D.c e) (v1.keep fun o e=>k1.extBut _ o o1z e) ex fun g2 e k2 ⟨oe,e1,e2⟩=>?_)
    have zz2:IsZip g2 z TI TO .ellipsis:=k2 _ _ D.c.symm zz1
    have ne:e≠z:=fun r=>by subst r;rw [zz2] at e1;cases e1;simp at e2
    exact wpAny_setField_rec zz2 (by simp) fun g3 _ k3=>q g3 e (fun c o c1 _ c3 _ r=>k3.extBut _ _ c1 (k2 _ _ c3 (k1.extBut _ _ c1 r))) ⟨oe,k3.extBut _ _ ne e1,e2⟩
  | some x=>
    have ey:ys[i]? = none:=en.elim (fun h=>by rw [ex] at h;cases h) id
    refine wpAny_bind (Zc7 (u1.keep fun o e=>k1.extBut _ o D.c e) (v1.keep fun o e=>k1.extBut _ o o1z e) ex fun g2 u1' k2=>wpAny_pure ?_)
    have zo2:IsPair g2 TO a b:=k2.extBut _ _ D.h (k1.extBut _ _ D.b zo)
    refine wpAny_bind (wpAny_seqItems zo2 rfl (wpAny_bind (wpAny_updateSeq_pair zo2 fun g3 zo3 k3=>?_)))
    refine wpAny_bind (wpAny_letGo (wpAny_pure ?_))
    refine wpAny_bind (wpAny_bind (wpAny_onRaise ?_))
    show wpAny _ _ (Builtin.SmallTypes.nextOf (.ref j2) >>= _) _ _ _
    refine wpAny_bind (ZdP hh (u2.keep fun o e=>k3.extBut _ o D.i.symm (k2.extBut _ o D.j.symm (k1.extBut _ o D.d e))) (v2.keep fun o e=>k3.extBut _ o o2O (k2.extBut _ o o21 (k1.extBut _ o o2z e))) ey fun g4 e k4 ⟨oe,e1,e2⟩=>?_)
    have zz4:IsZip g4 z TI TO .ellipsis:=k4 _ _ D.d.symm (k3.extBut _ _ D.b.symm (k2.extBut _ _ D.c.symm zz1))
    have ne:e≠z:=fun r=>by subst r;rw [zz4] at e1;cases e1;simp at e2
    exact wpAny_setField_rec zz4 (by simp) fun g5 _ k5=>q g5 e (fun c o c1 c2 c3 c4 r=>k5.extBut _ _ c1 (k4 _ _ c4 (k3.extBut _ _ c2 (k2.extBut _ _ c3 (k1.extBut _ _ c1 r))))) ⟨oe,k5.extBut _ _ ne e1,e2⟩
end
section
variable {X:Cx} {pins:List (Addr×Obj)} {σ:St} {H:Hp} {s:Shared} {h':Heap} {t':Nat}
theorem Inv.turnedN {a:Addr} {o:HO} (ts:List Addr) (I:Inv X pins σ H s) (k:∀ b o,b∉ts→s.heap.get? b=some o→h'.get? b=some o)
    (hf:∀ b∈ts,FpOk X pins H b) (hp:s.heap.objs.size≤a) (new:ObjOk X.prog X.w (upd H a o) h' a o):Inv X pins σ (upd H a o) { s with heap:=h',toks:=t' }:=by
  have hn:H a=none:=I.hok.fresh hp
  have nea:∀ b u,H b=some u→b≠a:=fun b u e z=>by rw [z,hn] at e;cases e
  have neb:∀ b u,s.heap.get? b=some u→b≠a:=fun b u e z=>by subst z;exact absurd (Nat.lt_of_lt_of_le (Heap.lt_size e) hp) (Nat.lt_irrefl _)
  refine I.step (g':=s.gens) (d':=s.drawn) (ch:=ts) (fun b hb=>?_) (fun b o _ _ hc e _=>k b o hc e) (fun b o _ _ hc e _=>⟨o.slots,k b o hc e⟩) (fun b u _ e n=>by rw [upd_ne (neb b u e)];exact n)
    (fun b o hc e=>⟨o,k b o hc e⟩) (fun b xs e=>by rw [upd_ne (nea _ _ e)];exact e) (fun b _ _ e=>by rw [upd_ne (nea _ _ e)];exact e) (fun b ps e=>⟨#[],by rw [upd_ne (nea _ _ e),e];simp⟩) (fun m hm=>?_) (fun b u e=>?_) I.bare
  · obtain ⟨_,f1,_,f3,f4,f5⟩:=hf b hb
    exact ⟨f3,f1,f4,f5⟩
  · obtain ⟨o,es,ep,ho,r⟩:=hm
    exact ⟨o,es,ep,k _ o (fun z=>(hf _ z).2.1 rfl) ho,r⟩
  · by_cases hb:b=a
    · subst hb;rw [upd_same] at e;cases e;exact new
    · rw [upd_ne hb] at e
      have nt:∀ c v,H c=some v→c∉ts:=fun c v q z=>by rw [(hf c z).1] at q;cases q
      refine (I.hok b u e).stay (fun c v hc q=>k c v ?_ q) (fun c q=>by rw [upd_ne (nea _ _ q)];exact q) fun c _ q=>by rw [upd_ne (nea _ _ q)];exact q
      rcases hc with z | z
      · rw [z];exact nt b u e
      · exact nt c _ z
def Sq (K:PySem.W.Frag) (κ:Bool) (H:Hp) (a:Addr) (xs:List V):Prop:=match κ with
  | true=>SqT K H a xs
  | false=>SqL K H a xs
theorem Inv.sq {κ:Bool} {a:Addr} {xs:List V} (I:Inv X pins σ H s) (h:Sq X.K κ H a xs):∃ its:List Value,Vals xs its∧SSq κ s.heap a its.toArray∧xs.length≤sizeLine:=by
  cases κ with
  | false=>obtain ⟨its,r,p,hz⟩:=I.list h;exact ⟨its,r,p.isList,hz⟩
  | true=>obtain ⟨its,r,p,hz⟩:=I.tuple h;exact ⟨its,r,(show s.heap.IsTuple a its.toArray from p),hz⟩
theorem Inv.sq_inj {κ:Bool} {a:Addr} {xs ys:List V} (I:Inv X pins σ H s) (h:Sq X.K κ H a xs) (h':Sq X.K κ H a ys):xs=ys:=by
  cases κ with
  | false=>exact I.list_inj h h'
  | true=>exact I.tuple_inj h h'
theorem Inv.sq_out {κ:Bool} {a b:Addr} {xs:List V} (I:Inv X pins σ H s) (h:Sq X.K κ H a xs) (f:FpOk X pins H b):a≠b:=by
  rintro rfl
  have hk:∀ o,X.K.lookup a=some o→False:=fun o e=>by
    have e1:=I.ok.mod.kin a o e
    rcases f.2.2.2.1 with z | z
    · exact I.ok.noex a o e1 z
    · exact absurd (Nat.lt_of_lt_of_le (Heap.lt_size (I.ok.bs a o e1).1) z) (Nat.lt_irrefl _)
  have hr:∀ u,Rd H a u→False:=fun u r=>by
    rcases r with r | ⟨o,r⟩
    · rw [f.1] at r;cases r
    · rw [f.1] at r;cases r
  cases κ with
  | false=>
    rcases h with h | ⟨o,_,_,e,_⟩
    · exact hr _ h
    · exact hk o e
  | true=>
    rcases h with h | ⟨o,_,_,e,_⟩
    · exact hr _ h
    · exact hk o e
end
def Itz (K:PySem.W.Frag) (κ κ':Bool) (a b:Addr):It:=
  ⟨fun i H=>∃ xs ys x y,Sq K κ H a xs∧Sq K κ' H b ys∧xs[i]? = some x∧ys[i]? = some y,
   fun i H v H'=>∃ p x y,v = .ref p∧H p=none∧H'=upd H p (.tup [x,y])∧(∀ xs,Sq K κ H a xs→xs[i]? = some x)∧(∀ ys,Sq K κ' H b ys→ys[i]? = some y),
   fun i H=>∃ xs ys,Sq K κ H a xs∧Sq K κ' H b ys∧(xs.length≤i∨ys.length≤i)⟩
theorem turn_zip {P:Program} {w:World} {K:PySem.W.Frag} {es:List Expr} {n1:Nat} {ps:Pos} {κ κ':Bool} (a b z TI TO j1 j2:Addr) (D:ZAp z TI TO j1 j2) :
    Turn P w K (.Tuple es n1 ps) (Itz K κ κ' a b) [z,TI,TO,j1,j2] z (fun i h=>IsZip h z TI TO .none∧IsPair h TI (.ref j1) (.ref j2)∧(∃ u v,IsPair h TO u v)∧SIt κ h j1 a i∧SIt κ' h j2 b i) where
  mem:=by simp
  obj:=fun i h ⟨q1,q2,⟨u,v,q3⟩,q4,q5⟩ c hc=>by
    simp only [List.mem_cons,List.not_mem_nil,or_false] at hc
    rcases hc with rfl | rfl | rfl | rfl | rfl
    · exact ⟨_,q1,fun v e=>by cases e⟩
    · exact ⟨_,q2,fun v e=>by cases e⟩
    · exact ⟨_,q3,fun v e=>by cases e⟩
    · exact q4.obj
    · exact q5.obj
  keep:=fun i h h' ⟨q1,q2,⟨u,v,q3⟩,q4,q5⟩ k=>
    ⟨k z (by simp) _ q1,k TI (by simp) _ q2,⟨u,v,k TO (by simp) _ q3⟩,q4.keep fun o e=>k j1 (by simp) o e,q5.keep fun o e=>k j2 (by simp) o e⟩
  item:=by
    intro X hP hw hK hc i pins s σ H E I hf ⟨q1,q2,⟨u,v,q3⟩,q4,q5⟩ hg
    subst hP hw hK
    obtain ⟨xs,ys,x,y,hx,hy,ex,ey⟩:=hg
    obtain ⟨its,rv,p,hz⟩:=I.sq hx
    obtain ⟨its',rv',p',hz'⟩:=I.sq hy
    obtain ⟨ux,hux,rux⟩:=rv.get ex
    obtain ⟨uy,huy,ruy⟩:=rv'.get ey
    have out:∀ {κ:Bool} {c:Addr} {xs:List V},Sq X.K κ H c xs→Out z TI TO j1 j2 c:=fun hq=>
      ⟨I.sq_out hq (hf z (by simp)),I.sq_out hq (hf TI (by simp)),I.sq_out hq (hf TO (by simp)),I.sq_out hq (hf j1 (by simp)),I.sq_out hq (hf j2 (by simp))⟩
    have hT:s.TypeIs (.ref z) "zip" :=⟨_,q1,rfl⟩
    unfold pyNext
    refine wpAny_bind (wpAny_attempt (wpAny_callSpecial?_slot (name:=Str.ofString "__next__") hT F.slot_zip_next (wpAny_call_entry F.slot_zip_next hT F.entry_zip_next
      (zip_item D (out hx) (out hy) q1 q2 q3 q4 q5 p p' (x:=ux) (y:=uy) (by simpa using hux) (by simpa using huy) fun h' a1 a2 a3 a4 a5 a6 a7=>wpAny_pure ⟨_,rfl,?_⟩) (F.args_zip_next_1 _))))
    refine wpAny_letOwnedTupleGo_zip (s:={ s with heap:=h' }) a1 fun h2 b1 b2=>?_
    have lt:∀ {c o},s.heap.get? c=some o→c≠s.heap.objs.size:=fun e=>Nat.ne_of_lt (Heap.lt_size e)
    have zl:=lt q1
    have up:∀ c o,c∉[z,TI,TO,j1,j2]→s.heap.get? c=some o→h2.get? c=some o:=fun c o hc e=>by
      simp only [List.mem_cons,List.not_mem_nil,or_false,not_or] at hc
      exact b2.extBut _ _ hc.1 (a7 c o hc.1 hc.2.2.1 hc.2.2.2.1 hc.2.2.2.2 e)
    refine ⟨.ref s.heap.objs.size,upd H s.heap.objs.size (.tup [x,y]),Inv.turnedN (s:=s) (t':=s.toks) [z,TI,TO,j1,j2] I up hf (Nat.le_refl _) ?_,rfl,⟨s.heap.objs.size,x,y,rfl,I.fresh,rfl,fun xs' h'=>by rw [I.sq_inj h' hx];exact ex,fun ys' h'=>by rw [I.sq_inj h' hy];exact ey⟩,?_,fun c hc=>?_⟩
    · refine ⟨by rw [sizeLine_eq];simp,[ux,uy],.cons rux (.cons ruy .nil),?_⟩
      exact ⟨_,b2.extBut _ _ (Ne.symm zl) a5,rfl,_,rfl⟩
    · exact ⟨b1,b2.extBut _ _ D.a (a7 _ _ D.a D.e D.f D.g q2),⟨_,_,b2.extBut _ _ D.b a2⟩,a3.keep fun o e=>b2.extBut _ o D.c e,a4.keep fun o e=>b2.extBut _ o D.d e⟩
    · have he:∃ o,s.heap.get? c=some o:=by
        simp only [List.mem_cons,List.not_mem_nil,or_false] at hc
        rcases hc with rfl | rfl | rfl | rfl | rfl
        · exact ⟨_,q1⟩
        · exact ⟨_,q2⟩
        · exact ⟨_,q3⟩
        · obtain ⟨o,e,_⟩:=q4.obj;exact ⟨o,e⟩
        · obtain ⟨o,e,_⟩:=q5.obj;exact ⟨o,e⟩
      obtain ⟨o,e⟩:=he
      rw [upd_ne (lt e)]
      exact (hf c hc).1
  done:=by
    intro X hP hw hK hc i pins s σ H E I hf ⟨q1,q2,⟨u,v,q3⟩,q4,q5⟩ hg
    subst hP hw hK
    obtain ⟨xs,ys,hx,hy,en⟩:=hg
    obtain ⟨its,rv,p,hz⟩:=I.sq hx
    obtain ⟨its',rv',p',hz'⟩:=I.sq hy
    have l1:=rv.length
    have l2:=rv'.length
    have out:∀ {κ:Bool} {c:Addr} {xs:List V},Sq X.K κ H c xs→Out z TI TO j1 j2 c:=fun hq=>
      ⟨I.sq_out hq (hf z (by simp)),I.sq_out hq (hf TI (by simp)),I.sq_out hq (hf TO (by simp)),I.sq_out hq (hf j1 (by simp)),I.sq_out hq (hf j2 (by simp))⟩
    have hT:s.TypeIs (.ref z) "zip" :=⟨_,q1,rfl⟩
    unfold pyNext
    refine wpAny_bind (wpAny_attempt (wpAny_callSpecial?_slot (name:=Str.ofString "__next__") hT F.slot_zip_next (wpAny_call_entry F.slot_zip_next hT F.entry_zip_next
      (zip_end (I.ok.hd hc) D (out hx) (out hy) q1 q2 q3 q4 q5 p p' (by rcases en with z | z;exact .inl (by simp;omega);exact .inr (by simp;omega)) fun h' e k ⟨o,e1,e2⟩=>?_) (F.args_zip_next_1 _))))
    refine wpAny_bind (wpAny_isInstance (s:={ s with heap:=h' }) (T:= "StopIteration") (b:=true) ⟨o,e1,e2⟩ isSubtype_stop (wpAny_pure ⟨rfl,?_⟩))
    refine I.turnedL (t':=s.toks) [z,TI,TO,j1,j2] (fun c o hc e=>?_) hf
    simp only [List.mem_cons,List.not_mem_nil,or_false,not_or] at hc
    exact k c o hc.1 hc.2.2.1 hc.2.2.2.1 hc.2.2.2.2 e
  self:=fun _ _ _ _ _ st h=>wpAny_pyIter_zip st.1 h
def io (κ:Bool) (l:Addr):Obj:={ cls:=.type (match κ with | true=> "tuple_iterator" | false=> "list_iterator"),data:=.fields #[.ref l,.int 0 0] }
theorem io_it {κ:Bool} {h:Heap} {l j:Addr} (e:h.get? j=some (io κ l)):SIt κ h j l 0:=by
  cases κ
  all_goals exact ⟨_,e,rfl,rfl⟩
theorem Zeq {κ:Bool} {prog:Program} {w:World} {A:Around} {E:Value→Shared→Prop} {s:Shared} {l:Addr} {xs:Array Value} {Q:Value→Shared→Prop} (hl:SSq κ s.heap l xs) (q:Q (.ref s.heap.objs.size) { s with heap:=s.heap.push (io κ l) }) :
    wpAny (model prog w) A (pyIter (.ref l)) Q E s:=by
  cases κ with
  | false=>exact wpAny_pyIter_list hl q
  | true=>exact wpAny_pyIter_tuple hl q
abbrev zg1 (κ:Bool) (h:Heap) (l1:Addr):Heap:=h.push (io κ l1)
abbrev zg2 (κ κ':Bool) (h:Heap) (l1 l2:Addr):Heap:=(zg1 κ h l1).push (io κ' l2)
abbrev zg3 (κ κ':Bool) (h:Heap) (l1 l2:Addr):Heap:=(zg2 κ κ' h l1 l2).push { cls:=.type "tuple",data:=.seq #[.ref h.objs.size,.ref (zg1 κ h l1).objs.size] }
abbrev zg4 (κ κ':Bool) (h:Heap) (l1 l2:Addr):Heap:=(zg3 κ κ' h l1 l2).push { cls:=.type "tuple",data:=.seq #[.none,.none] }
abbrev zg5 (κ κ':Bool) (h:Heap) (l1 l2:Addr):Heap:=(zg4 κ κ' h l1 l2).push { cls:=.type "zip",data:=.fields #[.none,.bool false,.bool false,.ref (zg2 κ κ' h l1 l2).objs.size,.ref (zg3 κ κ' h l1 l2).objs.size] }
theorem meets_zip (κ κ':Bool) (l1 l2:Addr) (xs ys:Array Value) :
    Meets (Builtin.«zip.__new__» ⟨[.type "zip",.ref l1,.ref l2],[]⟩) (fun _ R s=>SSq κ s.heap l1 xs∧SSq κ' s.heap l2 ys∧R (.ok (.ret (.ref (zg4 κ κ' s.heap l1 l2).objs.size))) { s with heap:=zg5 κ κ' s.heap l1 l2 }):=
  .of_wp fun prog w A R s h=>by
    obtain ⟨hp,g,d,tk,os⟩:=s;obtain ⟨hl1,hl2,h⟩:=h
    have hsub:=sub_zip
    have L1:SSq κ (Shared.heap ⟨hp,g,d,tk,os⟩) l1 xs:=hl1
    have L2':SSq κ' (Shared.heap ⟨hp.push (io κ l1),g,d,tk,os⟩) l2 ys:=hl2.keep fun o e=>Heap.get?_push_of_some _ e
    wp_walk using Zeq L1,Zeq L2'
    exact ⟨_,rfl,h⟩
theorem call_zip {κ κ':Bool} {prog:Program} {w:World} {A:Around} {E:Value→Shared→Prop} {s:Shared} {l1 l2:Addr} {xs ys:Array Value} {Q:Value→Shared→Prop} (hl1:SSq κ s.heap l1 xs) (hl2:SSq κ' s.heap l2 ys)
    (h:∀ h',IsZip h' (s.heap.objs.size+4) (s.heap.objs.size+2) (s.heap.objs.size+3) .none→IsPair h' (s.heap.objs.size+2) (.ref s.heap.objs.size) (.ref (s.heap.objs.size+1))→
      IsPair h' (s.heap.objs.size+3) .none .none→SIt κ h' s.heap.objs.size l1 0→SIt κ' h' (s.heap.objs.size+1) l2 0→
      (∀ c o,s.heap.get? c=some o→h'.get? c=some o)→Q (.ref (s.heap.objs.size+4)) { s with heap:=h' }) :
    wpAny (model prog w) A (call (.type "zip") [.ref l1,.ref l2]) Q E s:=by
  refine callType_new F.called_zip (by decide) (F.typeCall_zip_2 _ _) (F.newCall_zip_2 _ _) (fun obj=>F.args_object_init_3 obj _ _) F.entry_zip_new (meets_zip κ κ' l1 l2 xs ys) ⟨hl1,hl2,?_⟩
  have z1:(zg1 κ s.heap l1).objs.size=s.heap.objs.size+1:=Heap.size_push ..
  have z2:(zg2 κ κ' s.heap l1 l2).objs.size=s.heap.objs.size+2:=by rw [Heap.size_push,z1]
  have z3:(zg3 κ κ' s.heap l1 l2).objs.size=s.heap.objs.size+3:=by rw [Heap.size_push,z2]
  have z4:(zg4 κ κ' s.heap l1 l2).objs.size=s.heap.objs.size+4:=by rw [Heap.size_push,z3]
  have up5:∀ {c o},(zg4 κ κ' s.heap l1 l2).get? c=some o→(zg5 κ κ' s.heap l1 l2).get? c=some o:=fun e=>Heap.get?_push_of_some _ e
  have up4:∀ {c o},(zg3 κ κ' s.heap l1 l2).get? c=some o→(zg5 κ κ' s.heap l1 l2).get? c=some o:=fun e=>up5 (Heap.get?_push_of_some _ e)
  have up3:∀ {c o},(zg2 κ κ' s.heap l1 l2).get? c=some o→(zg5 κ κ' s.heap l1 l2).get? c=some o:=fun e=>up4 (Heap.get?_push_of_some _ e)
  have up2:∀ {c o},(zg1 κ s.heap l1).get? c=some o→(zg5 κ κ' s.heap l1 l2).get? c=some o:=fun e=>up3 (Heap.get?_push_of_some _ e)
  have ob:∀ κ l,(io κ l).isFreed=false:=fun κ l=>rfl
  have g5:(zg5 κ κ' s.heap l1 l2).get? (zg4 κ κ' s.heap l1 l2).objs.size=some _:=Heap.get?_push_size _ rfl
  have g4:(zg5 κ κ' s.heap l1 l2).get? (zg3 κ κ' s.heap l1 l2).objs.size=some _:=up5 (Heap.get?_push_size _ rfl)
  have g3:(zg5 κ κ' s.heap l1 l2).get? (zg2 κ κ' s.heap l1 l2).objs.size=some _:=up4 (Heap.get?_push_size _ rfl)
  have g2:(zg5 κ κ' s.heap l1 l2).get? (zg1 κ s.heap l1).objs.size=some _:=up3 (Heap.get?_push_size _ (ob κ' l2))
  have g1:(zg5 κ κ' s.heap l1 l2).get? s.heap.objs.size=some _:=up2 (Heap.get?_push_size _ (ob κ l1))
  show _∧_
  rw [z2,z3,z4] at g5
  rw [z1,z2] at g3
  rw [z3] at g4
  rw [z1] at g2
  rw [z4]
  exact ⟨⟨_,g5,rfl⟩,h _ g5 g3 g4 (io_it g1) (io_it g2) fun c o x=>up2 (Heap.get?_push_of_some _ x)⟩
theorem zap (n:Nat):ZAp (n+4) (n+2) (n+3) n (n+1):=
  ⟨(by omega:n+2≠n+4),(by omega:n+3≠n+4),(by omega:n≠n+4),(by omega:n+1≠n+4),(by omega:n+2≠n+3),(by omega:n+2≠n),(by omega:n+2≠n+1),(by omega:n+3≠n),(by omega:n+3≠n+1),(by omega:n≠n+1)⟩
theorem five (n b:Nat) (h:b=n+4∨b=n+2∨b=n+3∨b=n∨b=n+1):n≤b:=by omega
section
variable {X:Cx}
def iZip (K:PySem.W.Frag) (ta:TA):TI:=fun σ H R=>ta σ H fun vs H1=>∃ κ κ' a b,vs=[.ref a,.ref b]∧(∃ xs,Sq K κ H1 a xs)∧(∃ ys,Sq K κ' H1 b ys)∧R (Itz K κ κ' a b) H1
theorem pi_zip {a b:Expr} {ta:TA} {p pos ps:Pos} {es:List Expr} {n1:Nat} (hg:Gl X "zip") (hm:X.mg "zip" = none) (ha:PA X [a,b] ta) (hs:starEach [a,b] X.env=[(false,eval a X.env),(false,eval b X.env)]:=by rfl) (hs2:starEach [b] X.env=[(false,eval b X.env)]:=by rfl) :
    PI X (.Tuple es n1 ps) (.Call (.Name "zip" p) [a,b] [] pos) (iZip X.K ta):=by
  intro pins s σ H R I h
  refine Call_ (ld_blt I hg hm boot_zip (PyProof.Rows.callWith_type1 (thn (ha pos pins s σ H _ I h) fun us s1 ⟨vs,H1,I1,r1,q1⟩=>?_) (by rw [hs,hs2]) (by rw [hs2];rfl)))
  obtain ⟨κ,κ',l1,l2,e,⟨xs,hx⟩,⟨ys,hy⟩,q⟩:=q1
  subst e
  cases r1 with
  | cons r rr=>
    cases rr with
    | cons r' rr=>
      cases rr
      cases r
      cases r'
      obtain ⟨its,rv,p1,hz⟩:=I1.sq hx
      obtain ⟨its',rv',p2,hz'⟩:=I1.sq hy
      refine call_zip p1 p2 fun h' a1 a2 a3 a4 a5 k=>wpAny_pyIter_zip (s:={ s1 with heap:=h' }) a1 ?_
      have D:ZAp (s1.heap.objs.size+4) (s1.heap.objs.size+2) (s1.heap.objs.size+3) s1.heap.objs.size (s1.heap.objs.size+1):=zap _
      refine ⟨_,[s1.heap.objs.size+4,s1.heap.objs.size+2,s1.heap.objs.size+3,s1.heap.objs.size,s1.heap.objs.size+1],_,_,H1,rfl,I1.kept (t':=s1.toks) k,turn_zip (κ:=κ) (κ':=κ') l1 l2 _ _ _ _ _ D,⟨a1,a2,⟨_,_,a3⟩,a4,a5⟩,fun b hb=>?_,q⟩
      have hb':s1.heap.objs.size≤b:=by
        simp only [List.mem_cons,List.not_mem_nil,or_false] at hb
        exact five _ _ hb
      exact I1.fpOk hb' (I1.hok.fresh hb')
end
end L2
namespace LP
open PySem PySem.Spec PyProof.Rows L2
section
variable {X:Cx} {EX:XK} {pos p p2 ps:Pos} {tg e a b:Expr} {es:List Expr} {w wa wb:WE}
theorem Rep.sq {K:PySem.W.Frag} {W:Wd} {v:V} {d:D} {Q:List D→Prop} (r:Rep K W v d) (h:isS Q d):∃ κ l vs xs,v = .ref l∧Reps K W vs xs∧Q xs∧∀ W2 H2,(∀ a o,W.G a=some o→W2.G a=some o)→WOk W2 H2→Sq K κ H2 l vs:=by
  cases r with
  | lst e1 rr=>exact ⟨false,_,_,_,rfl,rr,h,fun W2 H2 g ok=>SqL.of (ok.g _ _ (g _ _ e1))⟩
  | tup e1 rr=>exact ⟨true,_,_,_,rfl,rr,h,fun W2 H2 g ok=>SqT.of (ok.g _ _ (g _ _ e1))⟩
  | ktup e1 rr=>exact ⟨true,_,_,_,rfl,rr,h,fun W2 H2 g ok=>.inr e1⟩
  | _=>exact h.elim
def zips (xs ys:List D):List D:=List.zipWith (fun x y=>.tup [x,y]) xs ys
def iZ (t:WA):WA:=fun E ρ Q=>t E ρ fun ds=>match ds with
  | [x,y]=>isS (fun xs=>isS (fun ys=>Q (zips xs ys)) y) x
  | _=>False
theorem pxi_zip {t:WA} {n1:Nat} (hm:X.mg "zip" = none) (ha:PXA X EX [a,b] t) (hg:Gl X "zip" :=by rfl) (hs:starEach [a,b] X.env=[(false,eval a X.env),(false,eval b X.env)]:=by rfl) (hs2:starEach [b] X.env=[(false,eval b X.env)]:=by rfl) :
    PXI X EX (.Tuple es n1 ps) (.Call (.Name "zip" p) [a,b] [] pos) (iZ t):=by
  obtain ⟨t,q,k⟩:=ha.t
  refine ⟨⟨_,pi_zip hg hm q hs hs2,fun W0 H0 W σ H ρ E R s eo h=>?_⟩,fun E ρ P P' hp h=>ha.mono _ _ _ _ (fun ds hd=>?_) h⟩
  · refine k W0 H0 W σ H ρ E _ s eo (ha.mono _ _ _ _ (fun ds hd vs W1 H1 x1 r1=>?_) h)
    split at hd
    · obtain ⟨v,u,rfl,rv,ru⟩:=r1.two
      obtain ⟨κ,l,vs,xs,rfl,rr,hd,sq⟩:=rv.sq hd
      obtain ⟨κ',l',us,ys,rfl,rr',hd,sq'⟩:=ru.sq hd
      refine ⟨κ,κ',l,l',rfl,⟨vs,sq W1 H1 (fun _ _ z=>z) x1.ok⟩,⟨us,sq' W1 H1 (fun _ _ z=>z) x1.ok⟩,hd W1 H1 _ x1 fun W2 H2 i g2 p2 ok2=>⟨fun d hd=>?_,fun hi=>?_⟩⟩
      · have s1:=sq W2 H2 g2 ok2
        have s2:=sq' W2 H2 g2 ok2
        unfold zips at hd
        rw [List.getElem?_zipWith] at hd
        cases ex:xs[i]? with
        | none=>rw [ex] at hd;cases hd
        | some x=>
          cases ey:ys[i]? with
          | none=>rw [ex,ey] at hd;cases hd
          | some y=>
            rw [ex,ey] at hd
            cases hd
            obtain ⟨vx,evx,rvx⟩:=rr.get ex
            obtain ⟨vy,evy,rvy⟩:=rr'.get ey
            refine ⟨⟨vs,us,vx,vy,s1,s2,evx,evy⟩,fun z H3 hy=>?_⟩
            obtain ⟨q,x',y',rfl,hq,rfl,e1,e2⟩:=hy
            have e1:=e1 _ s1
            have e2:=e2 _ s2
            rw [evx] at e1
            rw [evy] at e2
            cases e1
            cases e2
            have xt:=Ext.put (o:=.tup [vx,vy]) ok2 hq
            exact ⟨_,xt,.tup (by unfold Wd.put;dsimp only;rw [upd_same]) (.cons (xt.rep (rvx.mono g2 p2)) (.cons (xt.rep (rvy.mono g2 p2)) .nil))⟩
      · refine ⟨vs,us,sq W2 H2 g2 ok2,sq' W2 H2 g2 ok2,?_⟩
        rw [rr.length,rr'.length]
        unfold zips at hi
        rw [List.length_zipWith] at hi
        omega
    · exact hd.elim
  · split at hd
    · exact isS.mono (fun xs h1=>isS.mono (fun ys h2=>hp _ h2) _ h1) _ hd
    · exact hd.elim
def Zb6 (i:Nat) (wi wv:WE):WS:=fun E N ρ=>match ρ[i]? with
  | some (.ow xs)=>wv E ρ fun d=>wi E ρ (isI fun k=>∃ j,ixN xs.length k=some j∧N.nx (ρ.set i (.ow (xs.set j d))))
  | _=>False
theorem pz_item (i:Nat) {x:Str} {wi wv:WE} {ix:Expr} {spos:Pos} (hix:PX X EX ix wi) (he:PX X EX e wv) (hN:X.N[i]? = some x:=by rfl) (hv:Vis X.env.scope x:=by first | exact Or.inl rfl | exact Or.inr (Or.inl rfl) | exact Or.inr (Or.inr rfl)) (hd:(x == ("__debug__" : Str))=false:=by decide)
    (hcd:(x == ("__classdict__" : Str))=false:=by decide)
    (ha:∀ v,assign (.Subscript (.Name x p) ix spos) X.env v=(do
      let ov ← holding [v] (eval (.Name x p) X.env)
      let iv ← holding [v,ov] (eval ix X.env)
      standAt spos
      holding [v,ov,iv] (setItem ov iv v)
      release [v,ov,iv] []):=by intro _;rfl)
    (hs:swapsWithSole [.Subscript (.Name x p) ix spos] e pos.line X.env=pure false:=by rfl) (hw:swappedStores [.Subscript (.Name x p) ix spos] e X.env=pure none:=by rfl)
    (h1:(assignEach [.Subscript (.Name x p) ix spos] X.env).map (·.2)=[assign (.Subscript (.Name x p) ix spos) X.env]:=by rfl):PZ X EX (.Assign [.Subscript (.Name x p) ix spos] e pos) (Zb6 i wi wv):=by
  obtain ⟨t,pe,k⟩:=he.t
  obtain ⟨ti,pi,ki⟩:=hix.t
  refine ⟨⟨_,ps_asg pe (pg_sub (pe_var hN hv hd hcd) pi set_list ha) hs hw h1,fun W0 H0 F W σ H ρ E Dn N s fl eo no h=>?_⟩,fun E ρ N N' hl q=>?_⟩
  · unfold Zb6 at h
    split at h
    · rename_i xs ex
      obtain ⟨a,vs,e1,e2,e3,e4,e5,r⟩:=s.o i xs ex
      refine k W0 H0 W σ H ρ E _ s eo (he.mono _ _ _ _ (fun d hd v W1 H1 x1 r1=>⟨_,e1,?_⟩) h)
      refine ki W0 H0 W1 σ H1 ρ E _ (s.step x1) eo (hix.mono _ _ _ _ (fun di hdi vi W2 H2 x2 r2=>?_) hd)
      obtain ⟨kk,rfl,j,hj,hn⟩:=Zeh hdi
      cases r2
      have xx:=x1.trans x2
      have e2':=xx.h a _ e2 e4
      refine ⟨a,vs,kk,j,rfl,rfl,e2',by rw [r.length];exact hj,?_⟩
      exact no.nx W2 σ _ _ ((s.step xx).chg ex e1 (Reps.set (x2.rep r1) j (xx.reps r))) (fl.ext xx) hn
    · exact h.elim
  · unfold Zb6 at q ⊢
    split at q
    · exact he.mono _ _ _ _ (fun d hd=>hix.mono _ _ _ _ (isI.mono fun kk ⟨j,hj,hn⟩=>⟨j,hj,hl.nx _ hn⟩) hd) q
    · exact q.elim
end
mutual
def flat:D→Bool
  | .lst _=>false
  | .scr _=>false
  | .dic=>false
  | .tup xs=>flats xs
  | .non=>true
  | .bl _=>true
  | .int _=>true
  | .str _=>true
  | .pen=>true
  | .cls _=>true
  | .exc _=>true
  | .ty _=>true
def flats:List D→Bool
  | []=>true
  | x::r=>flat x && flats r
end
def Wd.rem (W:Wd) (a:Addr):Wd:=⟨fun b=>if b=a then none else W.G b,W.Pn⟩
section
variable {K:PySem.W.Frag} {W W2 W0:Wd} {H H2 H0:Hp} {a:Addr} {us:List V} {σ:L2.St} {ρ:Rho}
theorem Wd.rem_ne {b:Addr} (h:b≠a):(W.rem a).G b=W.G b:=by unfold Wd.rem;dsimp only;rw [if_neg h]
theorem Wd.rem_same:(W.rem a).G a=none:=by unfold Wd.rem;dsimp only;rw [if_pos rfl]
mutual
theorem Rep.rem (h:W.G a=some (.lst us)):∀ {v:V} {d:D},Rep K W v d→flat d=true→Rep K (W.rem a) v d
  | _,_,.non,_=>.non
  | _,_,.bl b,_=>.bl b
  | _,_,.int i,_=>.int i
  | _,_,.str x,_=>.str x
  | _,_,.tup e r,f=>.tup (by rw [Wd.rem_ne (fun z=>by rw [z,h] at e;cases e)];exact e) (Reps.rem h r (by rw [flat] at f;exact f))
  | _,_,.ktup e r,f=>.ktup e (Reps.rem h r (by rw [flat] at f;exact f))
  | _,_,.lst e r,f=>by rw [flat] at f;cases f
  | _,_,.scr e r,f=>by rw [flat] at f;cases f
  | _,_,.dic e,f=>by rw [flat] at f;cases f
  | _,_,.pen e,_=>.pen e
  | _,_,.cls e,_=>.cls e
  | _,_,.exc e n x,_=>.exc (by rw [Wd.rem_ne (fun z=>by rw [z,h] at e;cases e)];exact e) n fun c f k q=>let ⟨d,e1,e2⟩:=x c f k q;⟨d,e1,by rw [Wd.rem_ne (fun z=>by rw [z,h] at e2;cases e2)];exact e2⟩
  | _,_,.ty n,_=>.ty n
theorem Reps.rem (h:W.G a=some (.lst us)):∀ {vs:List V} {ds:List D},Reps K W vs ds→flats ds=true→Reps K (W.rem a) vs ds
  | _,_,.nil,_=>.nil
  | _,_,.cons r t,f=>by
    rw [flats,Bool.and_eq_true] at f
    exact .cons (Rep.rem h r f.1) (Reps.rem h t f.2)
end
theorem Ext.bor (x:Ext (W.put a (.lst us)) H W2 H2) (hg:W.G a=none):Ext W H (W2.rem a) H2 where
  ok:=⟨fun b o e=>by
      by_cases hb:b=a
      · subst hb;rw [Wd.rem_same] at e;cases e
      · rw [Wd.rem_ne hb] at e;exact x.ok.g b o e,
    fun b hb=>⟨(x.ok.p b hb).1,by
      by_cases hba:b=a
      · subst hba;exact Wd.rem_same
      · rw [Wd.rem_ne hba];exact (x.ok.p b hb).2⟩⟩
  g:=fun b o e=>by
    have hb:b≠a:=fun z=>by rw [z,hg] at e;cases e
    rw [Wd.rem_ne hb]
    exact x.g b o (by unfold Wd.put;dsimp only;rw [upd_ne hb];exact e)
  p:=x.p
  gf:=fun b e n=>by
    by_cases hb:b=a
    · subst hb;exact absurd Wd.rem_same n
    · rw [Wd.rem_ne hb] at n
      exact x.gf b (by unfold Wd.put;dsimp only;rw [upd_ne hb];exact e) n
  pf:=x.pf
  h:=x.h
theorem SOk.pubAt (s:SOk K W0 H0 W σ H ρ) {i:Nat} {xs:List D} (e:ρ[i]? = some (.ow xs)) (e1:σ[i]? = some (some (V.ref a))) (e2:H a=some (.lst us)) (e3:W.G a=none) (e4:¬ W.Pn a) (e5:H0 a=none) (r:Reps K W us xs) :
    SOk K W0 H0 (W.put a (.lst us)) σ H (LP.pub i ρ):=by
  have ep:LP.pub i ρ=ρ.set i (.d (.lst xs)):=by unfold LP.pub;rw [e]
  rw [ep]
  have hi:i < ρ.length:=(List.getElem?_eq_some_iff.mp e).1
  refine ⟨s.ext.pub e5 e2 e4 e3,by rw [List.length_set];exact s.len,fun j y ej=>?_,fun j ys ej=>?_,fun j k ys zs b hjk ej ek e6=>?_,OOs.set ⟨fun j xss ej=>let ⟨a',bs,q1,q,n⟩:=s.oo.t j xss ej;⟨a',bs,q1,q.put (n i xs a e e1) e3,n⟩,s.oo.u⟩ (fun _ h=>by cases h) (fun _ _=>rfl) fun _ _ h=>by cases h⟩
  · by_cases h:i=j
    · subst h
      rw [List.getElem?_set_self hi] at ej
      cases ej
      exact ⟨_,e1,.lst (by unfold Wd.put;dsimp only;rw [upd_same]) (r.mono (Zcm e3) fun _ z=>z)⟩
    · rw [List.getElem?_set_ne h] at ej
      obtain ⟨v,q1,q2⟩:=s.d j y ej
      exact ⟨v,q1,q2.mono (Zcm e3) fun _ z=>z⟩
  · have h:i≠j:=fun h=>by subst h;rw [List.getElem?_set_self hi] at ej;cases ej
    rw [List.getElem?_set_ne h] at ej
    obtain ⟨b,us',q1,q2,q3,q4,q5,rr⟩:=s.o j ys ej
    have hba:b≠a:=fun z=>s.ne i j xs ys a h e ej e1 (by rw [← z];exact q1)
    refine ⟨b,us',q1,q2,?_,q4,q5,rr.mono (Zcm e3) fun _ z=>z⟩
    unfold Wd.put
    dsimp only
    rw [upd_ne hba]
    exact q3
  · have h:i≠j:=fun h=>by subst h;rw [List.getElem?_set_self hi] at ej;cases ej
    have h':i≠k:=fun h=>by subst h;rw [List.getElem?_set_self hi] at ek;cases ek
    rw [List.getElem?_set_ne h] at ej
    rw [List.getElem?_set_ne h'] at ek
    exact s.ne j k ys zs b hjk ej ek e6
theorem SOk.lend (s:SOk K W0 H0 W σ H ρ) (i:Nat):(LP.pub i ρ=ρ)∨∃ a us,SOk K W0 H0 (W.put a (.lst us)) σ H (LP.pub i ρ)∧W.G a=none∧H a=some (.lst us)∧(W.put a (.lst us)).G a=some (.lst us):=by
  cases e:ρ[i]? with
  | none=>exact .inl (by unfold LP.pub;rw [e])
  | some sv=>
    cases sv with
    | un=>exact .inl (by unfold LP.pub;rw [e])
    | d x=>exact .inl (by unfold LP.pub;rw [e])
    | oo xss=>exact .inl (by unfold LP.pub;rw [e])
    | ow xs=>
      obtain ⟨a,us,e1,e2,e3,e4,e5,r⟩:=s.o i xs e
      exact .inr ⟨a,us,s.pubAt e e1 e2 e3 e4 e5 r,e3,e2,by unfold Wd.put;dsimp only;rw [upd_same]⟩
end
section
variable {X:Cx} {EX:XK} {pos p p2 ps:Pos} {tg e a b:Expr} {es:List Expr} {w wa wb:WE}
def wBor (i:Nat) (w:WE):WE:=fun E ρ Q=>w E (pub i ρ) fun d=>flat d=true∧Q d
theorem px_bor (i:Nat) (he:PX X EX e w):PX X EX e (wBor i w):=by
  obtain ⟨t,q,k⟩:=he.t
  refine ⟨⟨t,q,fun W0 H0 W σ H ρ E Q s eo h=>?_⟩,fun E ρ P P' hp h=>he.mono _ _ _ _ (fun d hd=>⟨hd.1,hp _ hd.2⟩) h⟩
  unfold wBor at h
  rcases s.lend i with ep | ⟨a,us,s',e3,e2,e6⟩
  · rw [ep] at h
    exact k W0 H0 W σ H ρ E Q s eo (he.mono _ _ _ _ (fun d hd=>hd.2) h)
  · exact k W0 H0 _ σ H _ E Q s' eo (he.mono _ _ _ _ (fun d hd v W2 H2 x2 r2=>hd.2 v _ H2 (x2.bor e3) (r2.rem (x2.g _ _ e6) hd.1)) h)
def tBor (i:Nat) (w:WT):WT:=fun E ρ Q=>w E (pub i ρ) Q
theorem pxt_bor (i:Nat) {w:WT} (he:PXT X EX e w):PXT X EX e (tBor i w):=by
  obtain ⟨t,q,k⟩:=he.t
  refine ⟨⟨t,q,fun W0 H0 W σ H ρ E Q s eo h=>?_⟩,fun E ρ P P' hp h=>he.mono _ _ _ _ hp h⟩
  unfold tBor at h
  rcases s.lend i with ep | ⟨a,us,s',e3,e2,e6⟩
  · rw [ep] at h
    exact k W0 H0 W σ H ρ E Q s eo h
  · exact k W0 H0 _ σ H _ E Q s' eo (he.mono _ _ _ _ (fun d hd W2 H2 x2=>hd _ H2 (x2.bor e3)) h)
def aBor (i:Nat) (t:WA):WA:=fun E ρ Q=>t E (pub i ρ) fun ds=>flats ds=true∧Q ds
theorem pxl_bor (i:Nat) {t:WA} (he:PXL X EX e t):PXL X EX e (aBor i t):=by
  obtain ⟨t,q,k⟩:=he.t
  refine ⟨⟨t,q,fun W0 H0 W σ H ρ E Q s eo h=>?_⟩,fun E ρ P P' hp h=>he.mono _ _ _ _ (fun d hd=>⟨hd.1,hp _ hd.2⟩) h⟩
  unfold aBor at h
  rcases s.lend i with ep | ⟨a,us,s',e3,e2,e6⟩
  · rw [ep] at h
    exact k W0 H0 W σ H ρ E Q s eo (he.mono _ _ _ _ (fun d hd=>hd.2) h)
  · refine k W0 H0 _ σ H _ E Q s' eo (he.mono _ _ _ _ (fun d hd b vs W2 H2 x2 h1 h2 h3 h4 r2=>?_) h)
    have hb:b≠a:=fun z=>by rw [z,e2] at h4;cases h4
    exact hd.2 b vs _ H2 (x2.bor e3) h1 (by rw [Wd.rem_ne hb];exact h2) h3 h4 (r2.rem (x2.g _ _ e6) hd.1)
def wIxO (i:Nat) (wb:WE):WE:=fun E ρ Q=>match ρ[i]? with
  | some (.ow xs)=>wb E ρ (isI fun k=>∃ d,atI xs k=some d∧Q d)
  | _=>False
def NL (K:PySem.W.Frag) (W:Wd) (H:Hp) (Q:VK) (ds:List D):Prop:=∀ a vs W' H',Ext W H W' H'→H' a=some (.lst vs)→W'.G a=none→¬ W'.Pn a→H a=none→Reps K W' vs ds→Q (.ref a) H'
theorem NL.new {K:PySem.W.Frag} {W W1:Wd} {H H1:Hp} {Q:VK} {ds:List D} {vs:List V} (h:NL K W H Q ds) (x1:Ext W H W1 H1) (r:Reps K W1 vs ds) {q:Addr} (hq:H1 q=none):Q (.ref q) (upd H1 q (.lst vs)):=
  h q vs W1 _ (x1.trans (.new x1.ok hq)) upd_same (x1.ok.fresh hq).1 (x1.ok.fresh hq).2 (x1.isN hq) r
def aAdd (wa wb:WE):WA:=fun E ρ Q=>wa E ρ (isL fun xs=>wb E ρ (isL fun ys=>xs.length+ys.length≤small∧Q (xs++ys)))
theorem pxl_add (ha:PX X EX a wa) (hb:PX X EX b wb):PXL X EX (.BinOp a .Add b pos) (aAdd wa wb):=by
  obtain ⟨ta,pa,ka⟩:=ha.t
  obtain ⟨tb,pb,kb⟩:=hb.t
  refine ⟨⟨_,pe_op op_catS pa pb,fun W0 H0 W σ H ρ E Q s eo h=>?_⟩,fun E ρ P P' hp h=>ha.mono _ _ _ _ (isL.mono fun xs hx=>hb.mono _ _ _ _ (isL.mono fun ys hy=>⟨hy.1,hp _ hy.2⟩) hx) h⟩
  refine ka W0 H0 W σ H ρ E _ s eo (ha.mono _ _ _ _ (fun d hd v W1 H1 x1 r1=>?_) h)
  obtain ⟨xs,rfl,hd⟩:=isL_get hd
  refine kb W0 H0 W1 σ H1 ρ E _ (s.step x1) eo (hb.mono _ _ _ _ (fun d hd u W2 H2 x2 r2=>?_) hd)
  obtain ⟨ys,rfl,hd⟩:=isL_get hd
  obtain ⟨p,vs,rfl,h1,q1⟩:=(x2.rep r1).sql x2.ok
  obtain ⟨q,us,rfl,h2,q2⟩:=r2.sql x2.ok
  exact ⟨p,q,vs,us,rfl,rfl,h1,h2,by rw [q1.length,q2.length];exact ZaV hd.1,fun a ha=>NL.new hd.2 (x1.trans x2) (q1.append q2) ha⟩
def aMul (wa wb:WE):WA:=fun E ρ Q=>wa E ρ (isL fun xs=>wb E ρ (isI fun k=>k < 1000∧-1000 < k∧xs.length*k.toNat≤small∧Q (List.replicate k.toNat xs).flatten))
theorem pxl_mul (ha:PX X EX a wa) (hb:PX X EX b wb):PXL X EX (.BinOp a .Mult b pos) (aMul wa wb):=by
  obtain ⟨ta,pa,ka⟩:=ha.t
  obtain ⟨tb,pb,kb⟩:=hb.t
  refine ⟨⟨_,pe_op op_rep pa pb,fun W0 H0 W σ H ρ E Q s eo h=>?_⟩,fun E ρ P P' hp h=>ha.mono _ _ _ _ (isL.mono fun xs hx=>hb.mono _ _ _ _ (isI.mono fun ys hy=>⟨hy.1,hy.2.1,hy.2.2.1,hp _ hy.2.2.2⟩) hx) h⟩
  refine ka W0 H0 W σ H ρ E _ s eo (ha.mono _ _ _ _ (fun d hd v W1 H1 x1 r1=>?_) h)
  obtain ⟨xs,rfl,hd⟩:=isL_get hd
  refine kb W0 H0 W1 σ H1 ρ E _ (s.step x1) eo (hb.mono _ _ _ _ (fun d hd u W2 H2 x2 r2=>?_) hd)
  obtain ⟨kk,rfl,hd⟩:=Zeh hd
  cases r2
  cases x2.rep r1 with
  | @lst l vs _ e r=>
    refine ⟨l,kk,vs,rfl,rfl,x2.ok.g _ _ e,by omega,by omega,?_,fun q hq=>NL.new hd.2.2.2 (x1.trans x2) (reps_rep r _) hq⟩
    rw [r.length]
    exact ZaV hd.2.2.1
def aCut (wa:WE) (wl wh:(Ex→Prop)→Rho→(Option Int→Prop)→Prop):WA:=fun E ρ Q=>wa E ρ fun x=>wl E ρ fun l=>wh E ρ fun h=>match x with
  | .lst xs=>Q (cutD xs l h)
  | .scr xs=>Q (cutD xs l h)
  | _=>False
theorem aCut.mono {wl wh} {lo hi:Option Expr} (ha:PX X EX a wa) (hl:PXO X EX lo wl) (hh:PXO X EX hi wh):∀ E ρ P P',(∀ d,P d→P' d)→aCut wa wl wh E ρ P→aCut wa wl wh E ρ P':=
  fun E ρ P P' hp h=>ha.mono _ _ _ _ (fun x hx=>hl.mono _ _ _ _ (fun l hl'=>hh.mono _ _ _ _ (fun u hu=>by
    split at hu
    · exact hp _ hu
    · exact hp _ hu
    · exact hu.elim) hl') hx) h
end
section
variable {K:PySem.W.Frag} {W W1 W2 W0:Wd} {H H1 H2 H0:Hp} {a:Addr} {us:List V} {σ:L2.St} {ρ:Rho} {i j k:Int}
def Wd.pen (W:Wd) (a:Addr):Wd:=⟨W.G,fun b=>b=a∨W.Pn b⟩
theorem Ext.pen (x:Ext W H W1 H1) (h:H a=none) (e:H1 a=some (.lst [.int i,.int j,.int k])) (ng:W1.G a=none):Ext W H (W1.pen a) H1 where
  ok:=⟨x.ok.g,fun b hb=>by
    rcases hb with rfl | hb
    · exact ⟨⟨i,j,k,e⟩,ng⟩
    · exact x.ok.p b hb⟩
  g:=x.g
  p:=fun b hb=>.inr (x.p b hb)
  gf:=x.gf
  pf:=fun b n hb=>by
    rcases hb with rfl | hb
    · exact h
    · exact x.pf b n hb
  h:=x.h
theorem Ext.ink (x:Ext W H W1 H1) (hp:W1.Pn a):Ext W H W1 (upd H1 a (.lst [.int i,.int j,.int k])) where
  ok:=⟨fun b o e=>by
      have hb:b≠a:=fun z=>by rw [z,(x.ok.p a hp).2] at e;cases e
      rw [upd_ne hb];exact x.ok.g b o e,
    fun b hb=>by
      by_cases hba:b=a
      · subst hba;exact ⟨⟨i,j,k,upd_same⟩,(x.ok.p b hb).2⟩
      · obtain ⟨⟨i',j',k',e⟩,n⟩:=x.ok.p b hb
        exact ⟨⟨i',j',k',by rw [upd_ne hba];exact e⟩,n⟩⟩
  g:=x.g
  p:=x.p
  gf:=x.gf
  pf:=x.pf
  h:=fun b o e n=>by
    have q:=x.h b o e n
    have hb:b≠a:=fun z=>by subst z;have:=x.pf b n hp;rw [e] at this;cases this
    rw [upd_ne hb];exact q
theorem SOk.ink (s:SOk K W0 H0 W σ H ρ) (hp:W.Pn a):SOk K W0 H0 W σ (upd H a (.lst [.int i,.int j,.int k])) ρ where
  ext:=s.ext.ink hp
  len:=s.len
  d:=s.d
  o:=fun n ys e=>by
    obtain ⟨b,vs,e1,e2,e3,e4,e5,r⟩:=s.o n ys e
    exact ⟨b,vs,e1,by rw [upd_ne (fun z=>e4 (by rw [z];exact hp))];exact e2,e3,e4,e5,r⟩
  ne:=s.ne
  oo:=⟨fun n xss e=>let ⟨a',bs,e1,q,m⟩:=s.oo.t n xss e;⟨a',bs,e1,q.upd (q.noPen hp),m⟩,s.oo.u⟩
end
section
variable {X:Cx} {EX:XK} {pos p p2 ps:Pos} {tg e a b:Expr} {es:List Expr} {w wa wb:WE}
def wPen (t:WA):WE:=fun E ρ Q=>t E ρ fun ds=>(∃ i j k,ds=[.int i,.int j,.int k])∧Q .pen
theorem px_pen {t:WA} (he:PXL X EX e t):PX X EX e (wPen t):=by
  obtain ⟨t,q,k⟩:=he.t
  refine ⟨⟨t,q,fun W0 H0 W σ H ρ E Q s eo h=>?_⟩,fun E ρ P P' hp h=>he.mono _ _ _ _ (fun d hd=>⟨hd.1,hp _ hd.2⟩) h⟩
  refine k W0 H0 W σ H ρ E Q s eo (he.mono _ _ _ _ (fun ds hd a vs W1 H1 x1 e1 e2 e3 e4 r1=>?_) h)
  obtain ⟨⟨i,j,k,rfl⟩,hd⟩:=hd
  have ev:vs=[.int i,.int j,.int k]:=by
    cases r1 with | cons r t=>cases r;cases t with | cons r t=>cases r;cases t with | cons r t=>cases r;cases t;rfl
  subst ev
  exact hd _ _ _ (x1.pen e4 e1 e2) (.pen (.inl rfl))
def gIxP:G2:=fun x y Q=>x = .pen∧(y = .int 0∨y = .int 1∨y = .int 2)∧∀ n,Q (.int n)
theorem i_pen:IxP X gIxP:=by
  refine ⟨⟨_,ix_seq,fun W H x y dx dy Q ok rx ry hg=>?_⟩,fun x y P P' hp h=>⟨h.1,h.2.1,fun n=>hp _ (h.2.2 n)⟩⟩
  obtain ⟨rfl,hy,hq⟩:=hg
  cases rx with
  | @pen a hp=>
    obtain ⟨⟨i,j,k,e⟩,ng⟩:=ok.p a hp
    have key:∀ (m:Int) (v:V),atI [V.int i,.int j,.int k] m=some v→(∃ n,v = .int n)→rIx X.K (.ref a) (.int m) H Q:=fun m v hv ⟨n,hn⟩=>by
      subst hn
      exact .inl ⟨a,_,m,_,rfl,rfl,SqL.of e,hv,(hq n).now ok (.int n)⟩
    rcases hy with rfl | rfl | rfl
    · cases ry;exact key 0 (.int i) rfl ⟨i,rfl⟩
    · cases ry;exact key 1 (.int j) rfl ⟨j,rfl⟩
    · cases ry;exact key 2 (.int k) rfl ⟨k,rfl⟩
def zInk (i:Nat) (wv:WE):WS:=fun E N ρ=>ρ[i]? = some (.d .pen)∧wv E ρ (isI fun _=>N.nx ρ)
theorem pz_ink (i:Nat) (m:Int) {x:Str} {wv:WE} {j} {ipos spos:Pos} (he:PX X EX e wv) (hm:m=0∨m=1∨m=2:=by decide) (hN:X.N[i]? = some x:=by rfl) (hv:Vis X.env.scope x:=by first | exact Or.inl rfl | exact Or.inr (Or.inl rfl) | exact Or.inr (Or.inr rfl)) (hd:(x == ("__debug__" : Str))=false:=by decide)
    (hcd:(x == ("__classdict__" : Str))=false:=by decide)
    (ha:∀ v,assign (.Subscript (.Name x p) (.Constant (.int m) j ipos) spos) X.env v=(do
      let ov ← holding [v] (eval (.Name x p) X.env)
      let iv ← holding [v,ov] (eval (.Constant (.int m) j ipos) X.env)
      standAt spos
      holding [v,ov,iv] (setItem ov iv v)
      release [v,ov,iv] []):=by intro _;rfl)
    (hs:swapsWithSole [.Subscript (.Name x p) (.Constant (.int m) j ipos) spos] e pos.line X.env=pure false:=by rfl) (hw:swappedStores [.Subscript (.Name x p) (.Constant (.int m) j ipos) spos] e X.env=pure none:=by rfl)
    (h1:(assignEach [.Subscript (.Name x p) (.Constant (.int m) j ipos) spos] X.env).map (·.2)=[assign (.Subscript (.Name x p) (.Constant (.int m) j ipos) spos) X.env]:=by rfl):PZ X EX (.Assign [.Subscript (.Name x p) (.Constant (.int m) j ipos) spos] e pos) (zInk i wv):=by
  obtain ⟨t,pe,k⟩:=he.t
  refine ⟨⟨_,ps_asg pe (pg_sub (pe_var hN hv hd hcd) pe_int set_list ha) hs hw h1,fun W0 H0 F W σ H ρ E Dn N s fl eo no h=>?_⟩,fun E ρ N N' hl q=>⟨q.1,he.mono _ _ _ _ (isI.mono fun _ hn=>hl.nx _ hn) q.2⟩⟩
  obtain ⟨hpen,h⟩:=h
  obtain ⟨v0,e0,r0⟩:=s.d i .pen hpen
  cases r0 with
  | @pen a hp=>
    refine k W0 H0 W σ H ρ E _ s eo (he.mono _ _ _ _ (fun d hd v W1 H1 x1 r1=>⟨_,e0,?_⟩) h)
    obtain ⟨n,rfl,hn⟩:=Zeh hd
    cases r1
    have hp1:=x1.p a hp
    obtain ⟨⟨i',j',k',e'⟩,ng⟩:=x1.ok.p a hp1
    rcases hm with rfl | rfl | rfl
    · exact ⟨a,_,0,0,rfl,rfl,e',rfl,no.nx W1 σ _ ρ ((s.step x1).ink hp1) (fl.ext x1) hn⟩
    · exact ⟨a,_,1,1,rfl,rfl,e',rfl,no.nx W1 σ _ ρ ((s.step x1).ink hp1) (fl.ext x1) hn⟩
    · exact ⟨a,_,2,2,rfl,rfl,e',rfl,no.nx W1 σ _ ρ ((s.step x1).ink hp1) (fl.ext x1) hn⟩
end
abbrev ZdB:G2:=gI2 (fun _ _=>True) fun i j=>.int (i - j)
abbrev gModI:G2:=gI2 (fun _ j=>j≠0) fun i j=>.int (i.fmod j)
abbrev gFdv:G2:=gI2 DivOk fun i j=>.int (i.fdiv j)
abbrev gPowI:G2:=gI2 CPow fun i j=>.int (i ^ j.toNat)
abbrev gLtI:G2:=gI2 (fun _ _=>True) fun i j=>.bl (decide (i < j))
abbrev gLeI:G2:=gI2 (fun _ _=>True) fun i j=>.bl (decide (i≤j))
abbrev gGtI:G2:=gI2 (fun _ _=>True) fun i j=>.bl (decide (i > j))
abbrev gGeI:G2:=gI2 (fun _ _=>True) fun i j=>.bl (decide (i ≥ j))
abbrev gNeg:D→(D→Prop)→Prop:=fun x Q=>isI (fun i=>Q (.int (-i))) x
abbrev ZbE:WS:=fun _ _ _=>False
def fnS {α:Type} (enc:α→List D) (dom:α→Prop) (val:α→D):Zaq:=fun ds _ Q=>∃ a,ds=enc a∧dom a∧Q (val a)
theorem fnS.mono {α:Type} {enc:α→List D} {dom:α→Prop} {val:α→D}:PMono (fnS enc dom val):=fun ds E E' Q Q' _ hQ ⟨a,h1,h2,h3⟩=>⟨a,h1,h2,hQ _ h3⟩
theorem fnS.len {α:Type} {enc:α→List D} {dom:α→Prop} {val:α→D} {ps:List Str} (hp:∀ a,(enc a).length=ps.length):∀ ds E Q,fnS enc dom val ds E Q→ds.length=ps.length:=fun ds E Q ⟨a,h1,_⟩=>by rw [h1];exact hp a
def exQ (E:Ex→Prop) (Q:D→Prop):Except Str D→Prop
  | .ok v=>Q v
  | .error e=>E e
theorem exQ.mono {E E':Ex→Prop} {Q Q':D→Prop} (hE:∀ e,E e→E' e) (hQ:∀ d,Q d→Q' d):∀ r,exQ E Q r→exQ E' Q' r
  | .ok v,h=>hQ v h
  | .error e,h=>hE e h
def xS {α:Type} (enc:α→List D) (dom:α→Prop) (res:α→Except Str D):Zaq:=fun ds E Q=>∃ a,ds=enc a∧dom a∧exQ E Q (res a)
theorem xS.mono {α:Type} {enc:α→List D} {dom:α→Prop} {res:α→Except Str D}:PMono (xS enc dom res):=fun ds E E' Q Q' hE hQ ⟨a,h1,h2,h3⟩=>⟨a,h1,h2,exQ.mono hE hQ _ h3⟩
theorem xS.ok {α:Type} {enc:α→List D} {dom:α→Prop} {res:α→Except Str D} {ds:List D} {E:Ex→Prop} {Q:D→Prop} {v:D} (a:α) (h:ds=enc a) (hd:dom a) (e:res a = .ok v) (q:Q v):xS enc dom res ds E Q:=⟨a,h,hd,by rw [e];exact q⟩
theorem xS.err {α:Type} {enc:α→List D} {dom:α→Prop} {res:α→Except Str D} {ds:List D} {E:Ex→Prop} {Q:D→Prop} {n:Str} (a:α) (h:ds=enc a) (hd:dom a) (e:res a = .error n) (q:E n):xS enc dom res ds E Q:=⟨a,h,hd,by rw [e];exact q⟩
theorem xS.len {α:Type} {enc:α→List D} {dom:α→Prop} {res:α→Except Str D} {ps:List Str} (hp:∀ a,(enc a).length=ps.length):∀ ds E Q,xS enc dom res ds E Q→ds.length=ps.length:=fun ds E Q ⟨a,h1,_⟩=>by rw [h1];exact hp a
def rlS {α:Type} (enc:α→List D) (dom:α→Prop) (rel:α→D→Prop):Zaq:=fun ds _ Q=>∃ a,ds=enc a∧dom a∧∀ d,rel a d→Q d
theorem rlS.mono {α:Type} {enc:α→List D} {dom:α→Prop} {rel:α→D→Prop}:PMono (rlS enc dom rel):=fun ds E E' Q Q' _ hQ ⟨a,h1,h2,h3⟩=>⟨a,h1,h2,fun d r=>hQ _ (h3 d r)⟩
theorem rlS.len {α:Type} {enc:α→List D} {dom:α→Prop} {rel:α→D→Prop} {ps:List Str} (hp:∀ a,(enc a).length=ps.length):∀ ds E Q,rlS enc dom rel ds E Q→ds.length=ps.length:=fun ds E Q ⟨a,h1,_⟩=>by rw [h1];exact hp a
theorem Fp.of {P:Program} {w:World} {K:PySem.W.Frag} {mg:Str→Option Value} {base:Heap} {k:Nat} {x:Str} {ps:List Str} {S:Zaq} {f:Addr} {fd:FuncData} (h:FnOk P w K mg base (CXv P w) k f fd ps (spOf K S)) (m:PMono S) (hm:mg x=some (.ref f)) (kp:PySem.W.keepIn K (.ref f)=true) (hb:Binds K fd ps []) :
    Fp P w K mg base k x ps S:=⟨⟨f,fd,h,hm,kp,hb⟩,m⟩
section
variable {we:WE} {wf:WT} {tail:Rho} {Q:List D→Prop}
theorem lc_map {f:D→D} (h:∀ d∈ds,∀ Q:D→Prop,Q (f d)→we No (.d d::tail) Q):∀ (sv:SV) (acc:List D),acc.length+ds.length≤small→Q (acc++ds.map f)→lcW (gN 0) ZaN we ds (sv::tail) acc Q:=by
  induction ds with
  | nil=>intro sv acc _ hq;simpa [lcW] using hq
  | cons d ds ih=>
    intro sv acc hl hq
    rw [lcW]
    show we No (SV.d d::tail) _
    refine h d (List.mem_cons_self ..) _ ⟨?_,?_⟩
    · rw [List.length_cons] at hl;omega
    · refine ih (fun d hd=>h d (List.mem_cons_of_mem _ hd)) (.d d) _ ?_ ?_
      · rw [List.length_append,List.length_singleton];rw [List.length_cons] at hl;omega
      · rw [List.append_assoc];exact hq
theorem lc_some {R:D→D→Prop} (h:∀ d∈ds,∀ Q:D→Prop,(∀ y,R d y→Q y)→we No (.d d::tail) Q):∀ (sv:SV) (acc:List D),acc.length+ds.length≤small→(∀ ys,ys.length=ds.length→(∀ y∈ys,∃ d,d∈ds∧R d y)→Q (acc++ys))→lcW (gN 0) ZaN we ds (sv::tail) acc Q:=by
  induction ds with
  | nil=>intro sv acc _ hq;simpa [lcW] using hq [] rfl (by simp)
  | cons d ds ih=>
    intro sv acc hl hq
    rw [lcW]
    show we No (SV.d d::tail) _
    refine h d (List.mem_cons_self ..) _ fun y hy=>⟨?_,?_⟩
    · rw [List.length_cons] at hl;omega
    · refine ih (fun d hd=>h d (List.mem_cons_of_mem _ hd)) (.d d) _ ?_ fun ys hl' hys=>?_
      · rw [List.length_append,List.length_singleton];rw [List.length_cons] at hl;omega
      · rw [List.append_assoc]
        refine hq (y::ys) (by rw [List.length_cons,List.length_cons,hl']) fun z hz=>?_
        rcases List.mem_cons.mp hz with rfl | hz
        · exact ⟨d,List.mem_cons_self ..,hy⟩
        · obtain ⟨d',h1,h2⟩:=hys z hz;exact ⟨d',List.mem_cons_of_mem _ h1,h2⟩
end
mutual
def okD:D→Nat→Bool
  | .non,_=>true
  | .bl _,_=>true
  | .int _,_=>true
  | .str x,_=>PyData.canLay0 (.str x)
  | .tup xs,n=>decide (0 < n) && okDs xs (n - 1)
  | .lst xs,n=>decide (0 < n) && okDs xs (n - 1)
  | .dic,_=>false
  | .pen,_=>false
  | .cls _,_=>false
  | .exc _,_=>false
  | .ty _,_=>false
  | .scr _,_=>false
def okDs:List D→Nat→Bool
  | [],_=>true
  | x::r,n=>okD x n && okDs r n
end
mutual
def pd:D→PyData
  | .non=>.none
  | .bl b=>.bool b
  | .int i=>.int i
  | .str x=>.str x
  | .tup xs=>.tuple (pds xs)
  | .lst xs=>.list (pds xs)
  | .dic=>.none
  | .pen=>.none
  | .cls _=>.none
  | .exc _=>.none
  | .ty _=>.none
  | .scr _=>.none
def pds:List D→List PyData
  | []=>[]
  | x::r=>pd x::pds r
end
mutual
theorem okD_toP:∀ (x:D) (n:Nat),okD x n=true→toP x=some (pd x)∧(pd x).canLay0=true∧(pd x).depth≤n
  | .non,n,_=>⟨rfl,rfl,by rw [pd,PyData.depth];exact Nat.zero_le _⟩
  | .bl _,n,_=>⟨rfl,rfl,by rw [pd,PyData.depth];exact Nat.zero_le _⟩
  | .int _,n,_=>⟨rfl,rfl,by rw [pd,PyData.depth];exact Nat.zero_le _⟩
  | .str x,n,h=>⟨rfl,by rw [okD] at h;exact h,by rw [pd,PyData.depth];exact Nat.zero_le _⟩
  | .tup xs,n,h=>by
    rw [okD,Bool.and_eq_true,decide_eq_true_eq] at h
    obtain ⟨h1,h2,h3⟩:=okDs_toP xs (n - 1) h.2
    refine ⟨by rw [toP,h1,pd];rfl,by rw [pd,PyData.canLay0];exact h2,by rw [pd,PyData.depth];omega⟩
  | .lst xs,n,h=>by
    rw [okD,Bool.and_eq_true,decide_eq_true_eq] at h
    obtain ⟨h1,h2,h3⟩:=okDs_toP xs (n - 1) h.2
    refine ⟨by rw [toP,h1,pd];rfl,by rw [pd,PyData.canLay0];exact h2,by rw [pd,PyData.depth];omega⟩
  | .dic,n,h=>by rw [okD] at h;cases h
  | .pen,n,h=>by rw [okD] at h;cases h
  | .cls _,n,h=>by rw [okD] at h;cases h
  | .exc _,n,h=>by rw [okD] at h;cases h
  | .ty _,n,h=>by rw [okD] at h;cases h
  | .scr _,n,h=>by rw [okD] at h;cases h
theorem okDs_toP:∀ (xs:List D) (n:Nat),okDs xs n=true→toPs xs=some (pds xs)∧PyData.canLayAll0 (pds xs)=true∧PyData.depthAll (pds xs)≤n
  | [],n,_=>⟨by rw [toPs,pds],by rw [pds,PyData.canLayAll0],by rw [pds,PyData.depthAll];exact Nat.zero_le _⟩
  | x::r,n,h=>by
    rw [okDs,Bool.and_eq_true] at h
    obtain ⟨h1,h2,h3⟩:=okD_toP x n h.1
    obtain ⟨q1,q2,q3⟩:=okDs_toP r n h.2
    exact ⟨by rw [toPs,h1,q1,pds],by rw [pds,PyData.canLayAll0,h2,q2];rfl,by rw [pds,PyData.depthAll];omega⟩
end
def deq (x y:D):Bool:=PyData.eqv (pd x) (pd y)
theorem gEq_ok {x y:D} {neg:Bool} {Q:D→Prop} (hx:okD x 60=true) (hy:okD y 60=true) (h:Q (.bl (if neg then !deq x y else deq x y))):gEq neg x y Q:=by
  obtain ⟨a1,a2,a3⟩:=okD_toP x 60 hx
  obtain ⟨b1,b2,b3⟩:=okD_toP y 60 hy
  refine ⟨pd x,pd y,a1,b1,?_,?_,h⟩
  · unfold PySem.SeqAt.shaped;rw [a2,decide_eq_true (by omega)];rfl
  · unfold PySem.SeqAt.shaped;rw [b2,decide_eq_true (by omega)];rfl
mutual
theorem eqv_self:∀ p:PyData,p.canLay0=true→PyData.eqv p p=true
  | .none,_=>by rw [PyData.eqv]
  | .bool b,_=>by rw [PyData.eqv];exact beq_self_eq_true b
  | .int i,_=>by rw [PyData.eqv];exact beq_self_eq_true i
  | .str x,_=>by rw [PyData.eqv];exact beq_self_eq_true x
  | .list xs,h=>by rw [PyData.eqv];exact ZfK xs (by rw [PyData.canLay0] at h;exact h)
  | .tuple xs,h=>by rw [PyData.eqv];exact ZfK xs (by rw [PyData.canLay0] at h;exact h)
  | .dict _,h=>by rw [PyData.canLay0] at h;cases h
theorem ZfK:∀ ps:List PyData,PyData.canLayAll0 ps=true→PyData.eqvAll ps ps=true
  | [],_=>by rw [PyData.eqvAll]
  | p::ps,h=>by
    rw [PyData.canLayAll0,Bool.and_eq_true] at h
    rw [PyData.eqvAll,eqv_self p h.1,ZfK ps h.2];rfl
end
theorem deq_self {x:D} {n:Nat} (h:okD x n=true):deq x x=true:=eqv_self _ (okD_toP x n h).2.1
theorem Zez {x:D} {neg:Bool} {Q:D→Prop} (hx:okD x 60=true) (h:Q (.bl (!neg))):gEq neg x x Q:=by
  refine gEq_ok hx hx ?_
  rw [deq_self hx]
  cases neg<;>exact h
theorem okDs_of {xs:List D} {n:Nat} (h:∀ x∈xs,okD x n=true):okDs xs n=true:=by
  induction xs with
  | nil=>rw [okDs]
  | cons x xs ih=>rw [okDs,h x (List.mem_cons_self ..),ih fun y hy=>h y (List.mem_cons_of_mem _ hy)];rfl
theorem okD_tup {xs:List D} {n:Nat} (h:∀ x∈xs,okD x n=true):okD (.tup xs) (n+1)=true:=by rw [okD,okDs_of (n:=n+1 - 1) h];simp
def shq (q:Rat):D:=.tup [.int q.num,.int (q.den:Int)]
def rowq (r:List Rat):D:=.tup (r.map shq)
def Sz (n:Nat) (q:Rat):Prop:=q.num.natAbs < 2 ^ n∧q.den < 2 ^ n
theorem Sz.mono {n m:Nat} {q:Rat} (l:n≤m) (h:Sz n q):Sz m q:=
  have:=Nat.pow_le_pow_right (n:=2) (by decide) l
  ⟨Nat.lt_of_lt_of_le h.1 this,Nat.lt_of_lt_of_le h.2 this⟩
theorem div_le' {a:Int} {g:Nat} (hg:g≠0) (h:(g:Int) ∣ a):(a / (g:Int)).natAbs≤a.natAbs:=by
  obtain ⟨c,rfl⟩:=h
  have hg':(g:Int)≠0:=by exact_mod_cast hg
  rw [Int.mul_ediv_cancel_left _ hg',Int.natAbs_mul,Int.natAbs_natCast]
  exact Nat.le_mul_of_pos_left _ (by omega)
theorem mk_le (a:Int) {b:Nat} (hb:b≠0):(mkRat a b).num.natAbs≤a.natAbs∧(mkRat a b).den≤b:=by
  rw [Rat.num_mkRat,Rat.den_mkRat,if_neg hb,if_neg hb]
  refine ⟨div_le' (fun z=>?_) (Int.ofNat_dvd_left.mpr (Nat.gcd_dvd_right ..)),Nat.div_le_self _ _⟩
  rw [Nat.gcd_eq_zero_iff] at z
  exact hb z.1
theorem ZfE {a b n m:Nat} (h:a < 2 ^ n) (h':b < 2 ^ m):a*b < 2 ^ (n+m):=by
  rw [Nat.pow_add]
  rcases Nat.eq_zero_or_pos a with rfl | ha
  · rw [Nat.zero_mul];exact Nat.mul_pos (Nat.pow_pos (by decide)) (Nat.pow_pos (by decide))
  · exact Nat.lt_of_lt_of_le (Nat.mul_lt_mul_of_pos_left h' ha) (Nat.mul_le_mul_right _ (Nat.le_of_lt h))
theorem Sz.add {n m:Nat} {p q:Rat} (h:Sz n p) (h':Sz m q):Sz (n+m+1) (p+q):=by
  rw [Rat.add_def']
  have z:p.den*q.den≠0:=Nat.mul_ne_zero p.den_nz q.den_nz
  have:=mk_le (p.num*q.den+q.num*p.den) z
  have a1:=ZfE h.1 h'.2
  have a2:=ZfE h'.1 h.2
  have a3:=ZfE h.2 h'.2
  rw [Nat.add_comm m n] at a2
  have e:2 ^ (n+m+1)=2 ^ (n+m)+2 ^ (n+m):=by rw [Nat.pow_succ];omega
  have t:=Int.natAbs_add_le (p.num*q.den) (q.num*p.den)
  rw [Int.natAbs_mul,Int.natAbs_mul,Int.natAbs_natCast,Int.natAbs_natCast] at t
  exact ⟨by omega,by omega⟩
theorem Sz.neg {n:Nat} {p:Rat} (h:Sz n p):Sz n (-p):=⟨by rw [Rat.neg_num,Int.natAbs_neg];exact h.1,h.2⟩
theorem Sz.sub {n m:Nat} {p q:Rat} (h:Sz n p) (h':Sz m q):Sz (n+m+1) (p - q):=by rw [Rat.sub_eq_add_neg];exact h.add h'.neg
theorem Sz.mul {n m:Nat} {p q:Rat} (h:Sz n p) (h':Sz m q):Sz (n+m) (p*q):=by
  rw [Rat.mul_def']
  have z:p.den*q.den≠0:=Nat.mul_ne_zero p.den_nz q.den_nz
  have:=mk_le (p.num*q.num) z
  have a1:=ZfE h.1 h'.1
  have a3:=ZfE h.2 h'.2
  rw [Int.natAbs_mul] at this
  exact ⟨by omega,by omega⟩
theorem Sz.int {n:Nat} (i:Int) (hn:0 < n) (h:i.natAbs < 2 ^ n):Sz n (i:Rat):=⟨by rw [Rat.num_intCast];exact h,by rw [Rat.den_intCast];exact Nat.one_lt_two_pow (by omega)⟩
theorem Sz.zero {n:Nat} (hn:0 < n):Sz n (0:Rat):=⟨by rw [Rat.zero_num];exact Nat.two_pow_pos n,by rw [Rat.zero_den];exact Nat.one_lt_two_pow (by omega)⟩
theorem Sz.bd {n:Nat} {q:Rat} (h:Sz n q) (l:n≤8990):Bd q.num∧Bd (q.den:Int):=by
  have:=h.mono l
  exact ⟨this.1,by unfold Bd;rw [Int.natAbs_natCast];exact this.2⟩
def B2 (p q:Rat):Prop:=∃ n m,Sz n p∧Sz m q∧n+m < 8990
theorem B2.of {n m:Nat} {p q:Rat} (h:Sz n p) (h':Sz m q) (l:n+m < 8990):B2 p q:=⟨n,m,h,h',l⟩
theorem B2.mul {p q:Rat} (h:B2 p q):MulOk p.num q.den∧MulOk q.num p.den∧MulOk p.den q.den∧MulOk p.num q.num∧Bd ((p.den:Int)*q.den)∧(p.den:Int)*q.den≠0∧MulOk p.den q.num∧(Bd ((p.den:Int)*q.num)):=by
  obtain ⟨n,m,h1,h2,l⟩:=h
  have b1:=h1.bd (by omega)
  have b2:=h2.bd (by omega)
  refine ⟨⟨b1.1,b2.2⟩,⟨b2.1,b1.2⟩,⟨b1.2,b2.2⟩,⟨b1.1,b2.1⟩,?_,?_,⟨b1.2,b2.1⟩,?_⟩
  · have:=ZfE h1.2 h2.2
    unfold Bd
    rw [Int.natAbs_mul,Int.natAbs_natCast,Int.natAbs_natCast]
    exact Nat.lt_of_lt_of_le this (Nat.pow_le_pow_right (by decide) (by omega))
  · have:=Nat.mul_ne_zero p.den_nz q.den_nz
    exact_mod_cast this
  · have:=ZfE h1.2 h2.1
    unfold Bd
    rw [Int.natAbs_mul,Int.natAbs_natCast]
    exact Nat.lt_of_lt_of_le this (Nat.pow_le_pow_right (by decide) (by omega))
def dot:List Rat→List Rat→Rat
  | [],_=>0
  | _::_,[]=>0
  | x::xs,y::ys=>x*y+dot xs ys
theorem okD_shq (q:Rat) (n:Nat):okD (shq q) (n+1)=true:=okD_tup (by simp [okD])
def Zag (xs:List Int):D:=.tup (xs.map .int)
def ZcX (xs:List Int):D:=.lst (xs.map .int)
theorem norm_eq {t b:Int} (hb:b≠0):(t.fdiv (if b < 0 then -(Int.gcd t b:Int) else (Int.gcd t b:Int))=(Rat.divInt t b).num)∧(b.fdiv (if b < 0 then -(Int.gcd t b:Int) else (Int.gcd t b:Int))=((Rat.divInt t b).den:Int)):=by
  have hg:0 < Int.gcd t b:=Int.gcd_pos_of_ne_zero_right _ hb
  have hg':(0:Int) < (Int.gcd t b:Int):=by exact_mod_cast hg
  obtain ⟨c,hc⟩:=Int.gcd_dvd_left (a:=t) (b:=b)
  obtain ⟨d,hd⟩:=Int.gcd_dvd_right (a:=t) (b:=b)
  rw [Rat.num_divInt,Rat.den_divInt,if_neg hb,Int.gcd_comm b t]
  generalize Int.gcd t b=g at *
  subst hc hd
  have gne:(g:Int)≠0:=by omega
  split
  · rename_i h
    have hd:d < 0:=by
      rcases Int.lt_or_le d 0 with z | z
      · exact z
      · have:=Int.mul_nonneg (Int.le_of_lt hg') z;omega
    rw [Int.sign_eq_neg_one_of_neg h]
    constructor
    · rw [show (g:Int)*c=(-(g:Int))*(-c) by rw [Int.neg_mul_neg],Int.mul_fdiv_cancel_left _ (by omega),Int.neg_mul_neg,show (-1:Int)*((g:Int)*c)=(g:Int)*(-c) by rw [Int.neg_mul,Int.one_mul,Int.mul_neg],Int.mul_ediv_cancel_left _ gne]
    · rw [show (g:Int)*d=(-(g:Int))*(-d) by rw [Int.neg_mul_neg],Int.mul_fdiv_cancel_left _ (by omega),Int.neg_mul_neg,Int.natAbs_mul,Int.natAbs_natCast,Nat.mul_div_cancel_left _ hg]
      omega
  · rename_i h
    have hd:0 < d:=by
      rcases Int.lt_or_le 0 d with z | z
      · exact z
      · exfalso
        have h1:(g:Int)*d≤0:=by
          have:=Int.mul_le_mul_of_nonneg_left z (Int.le_of_lt hg')
          rwa [Int.mul_zero] at this
        omega
    have hp:0 < (g:Int)*d:=Int.mul_pos hg' hd
    rw [Int.sign_eq_one_of_pos hp,Int.one_mul]
    constructor
    · rw [Int.mul_fdiv_cancel_left _ gne,Int.mul_ediv_cancel_left _ gne]
    · rw [Int.mul_fdiv_cancel_left _ gne,Int.natAbs_mul,Int.natAbs_natCast,Nat.mul_div_cancel_left _ hg]
      omega
mutual
def kd:D→Bool
  | .tup xs=>decide (xs.length≤5000) && kds xs
  | .lst xs=>decide (xs.length≤5000) && kds xs
  | .non=>true
  | .bl _=>true
  | .int _=>true
  | .str _=>true
  | .dic=>true
  | .pen=>false
  | .cls _=>false
  | .exc _=>false
  | .ty _=>false
  | .scr _=>false
def kds:List D→Bool
  | []=>true
  | x::r=>kd x && kds r
end
theorem kds_mem:∀ {xs:List D},kds xs=true→∀ x∈xs,kd x=true
  | x::r,h,y,hy=>by
    rw [kds,Bool.and_eq_true] at h
    rcases List.mem_cons.mp hy with rfl | hy
    · exact h.1
    · exact kds_mem h.2 y hy
theorem kds_of:∀ {xs:List D},(∀ x∈xs,kd x=true)→kds xs=true
  | [],_=>by rw [kds]
  | x::r,h=>by rw [kds,h x (List.mem_cons_self ..),kds_of fun y hy=>h y (List.mem_cons_of_mem _ hy)];rfl
theorem kd_tup {xs:List D} (h:kd (.tup xs)=true):xs.length≤5000∧∀ x∈xs,kd x=true:=by
  rw [kd,Bool.and_eq_true,decide_eq_true_eq] at h
  exact ⟨h.1,kds_mem h.2⟩
theorem kd_tup' {xs:List D} (h1:xs.length≤5000) (h2:∀ x∈xs,kd x=true):kd (.tup xs)=true:=by rw [kd,decide_eq_true h1,kds_of h2];rfl
theorem kd_ty {x:D} (h:kd x=true):∃ t,tyD x=some t:=by
  cases x<;>first
    | exact ⟨_,rfl⟩
    | (rw [kd] at h;cases h)
theorem kd_shq (q:Rat):kd (shq q)=true:=kd_tup' (by simp) (by simp [kd])
theorem kd_rowq {r:List Rat} (h:r.length≤5000):kd (rowq r)=true:=kd_tup' (by simpa using h) fun x hx=>by
  obtain ⟨q,_,rfl⟩:=List.mem_map.mp hx
  exact kd_shq q
theorem kd_intsT {r:List Int} (h:r.length≤5000):kd (Zag r)=true:=kd_tup' (by simpa using h) fun x hx=>by
  obtain ⟨q,_,rfl⟩:=List.mem_map.mp hx
  rw [kd]
def isW:D→Bool
  | .int _=>true
  | _=>false
def inR (l m:Int):D→Bool
  | .int i=>decide (l≤i) && decide (i≤m)
  | _=>false
def areW (l m:Int):D→Bool
  | .tup xs=>xs.all (inR l m)
  | _=>false
def isSh:D→Bool
  | .tup [.int t,.int b]=>decide (0 < b) && (Int.gcd t b == 1)
  | _=>false
def Zey (n:Int):D→Bool
  | .tup xs=>((xs.length:Int) == n) && xs.all isSh
  | _=>false
def ZcH (l m:Int):D→Bool
  | .tup xs=>decide (l≤(xs.length:Int)) && decide ((xs.length:Int)≤m) && xs.all isSh
  | _=>false
def ZcZ:Zaq:=fnS (fun x:D=>[x]) (fun x=>kd x=true) fun x=>.bl (isW x)
def ZcA:Zaq:=fnS (fun x:D×Int×Int=>[x.1,.int x.2.1,.int x.2.2]) (fun x=>kd x.1=true) fun x=>.bl (inR x.2.1 x.2.2 x.1)
def Zcg:Zaq:=fnS (fun x:D×Int×Int=>[x.1,.int x.2.1,.int x.2.2]) (fun x=>kd x.1=true) fun x=>.bl (areW x.2.1 x.2.2 x.1)
def ZbI:Zaq:=fnS (fun x:Int×Int=>[.int x.1,.int x.2]) (fun _=>True) fun x=>.int (Int.gcd x.1 x.2)
def ZeV:Zaq:=fnS (fun x:D=>[x]) (fun x=>kd x=true) fun x=>.bl (isSh x)
def Zbv:Zaq:=fnS (fun x:D×Int×Int=>[x.1,.int x.2.1,.int x.2.2]) (fun x=>kd x.1=true) fun x=>.bl (ZcH x.2.1 x.2.2 x.1)
def Zfk:Zaq:=fnS (fun x:D×Int=>[x.1,.int x.2]) (fun x=>kd x.1=true) fun x=>.bl (Zey x.2 x.1)
def Zcp:Zaq:=fnS (fun x:Int×Int=>[.int x.1,.int x.2]) (fun x=>x.2≠0∧Bd x.2) fun x=>shq (Rat.divInt x.1 x.2)
def S_plus:Zaq:=fnS (fun x:Rat×Rat=>[shq x.1,shq x.2]) (fun x=>B2 x.1 x.2) fun x=>shq (x.1+x.2)
def S_minus:Zaq:=fnS (fun x:Rat×Rat=>[shq x.1,shq x.2]) (fun x=>B2 x.1 x.2) fun x=>shq (x.1 - x.2)
def ZdE:Zaq:=fnS (fun x:Rat×Rat=>[shq x.1,shq x.2]) (fun x=>B2 x.1 x.2) fun x=>shq (x.1*x.2)
def S_by:Zaq:=fnS (fun x:Rat×Rat=>[shq x.1,shq x.2]) (fun x=>B2 x.1 x.2∧x.2≠0) fun x=>shq (x.1 / x.2)
def seqD (b:Bool) (xs:List D):D:=if b then .tup xs else .lst xs
def ZcJ:Zaq:=fnS (fun x:Bool×List Int=>[seqD x.1 (x.2.map .int)]) (fun x=>x.2.length≤5000) fun x=>rowq (x.2.map fun (i:Int)=>(i:Rat))
def BR (p q:List Rat):Prop:=∃ n m,(∀ x∈p,Sz n x)∧(∀ x∈q,Sz m x)∧p.length*(n+m+1)+(n+m)+1 < 8990
def Zax:Zaq:=fnS (fun x:(Bool×Bool)×List Rat×List Rat=>[seqD x.1.1 (x.2.1.map shq),seqD x.1.2 (x.2.2.map shq)]) (fun x=>BR x.2.1 x.2.2) fun x=>shq (dot x.2.1 x.2.2)
structure IsSl (s:List Int) (n:Nat):Prop where
  len:s.length+1=2*n
  n1:1≤n
  n5:n≤5
  b:∀ x∈s,-50≤x∧x≤50
def tbl (s:List Int) (n:Nat):List (List Int):=(List.range n).map fun i=>(s.drop (n - 1 - i)).take n
def tblD (s:List Int) (n:Nat):D:=.lst ((tbl s n).map ZcX)
def slG:D→Bool
  | .tup xs=>xs.all (inR (-50) 50) && decide (xs.length % 2=1) && decide (xs.length≤9)
  | _=>false
abbrev SL:=List Int×Nat
def Zcy:Zaq:=fnS (fun x:List D=>[.tup x]) (fun x=>x.length≤5000) fun x=>.int (((x.length:Int)+1) / 2)
def ZbA:Zaq:=fnS (fun x:D=>[x]) (fun x=>kd x=true) fun x=>.bl (slG x)
def toI:D→Int
  | .int i=>i
  | _=>0
def sI:D→List Int
  | .tup xs=>xs.map toI
  | _=>[]
def sN (x:D):Nat:=((sI x).length+1) / 2
def okS (x:D) (v:Except Str D):Except Str D:=if slG x=true then v else .error "NoSlants"
def ZaR:Zaq:=xS (fun x:D=>[x]) (fun x=>kd x=true) fun x=>okS x (.ok .non)
def ZdR:Zaq:=xS (fun x:D=>[x]) (fun x=>kd x=true) fun x=>okS x (.ok (tblD (sI x) (sN x)))
def hd (r:List Int):Int:=r.headD 0
def ZcY:Zaq:=xS (fun x:D×D=>[x.1,x.2]) (fun x=>kd x.1=true∧kd x.2=true) fun x=>okS x.1 (.ok (.bl (Zey (sN x.1) x.2)))
def Zan (r:List Int):List Rat:=r.map fun (i:Int)=>(i:Rat)
def ZcI:Zaq:=fnS (fun x:SL=>[Zag x.1]) (fun x=>IsSl x.1 x.2) fun x=>.lst ((tbl x.1 x.2).map fun r=>rowq (Zan r))
def tims (s:List Int) (n:Nat) (r:List Rat):List Rat:=(tbl s n).map fun line=>dot (Zan line) r
def BS (r:List Rat):Prop:=∃ m,(∀ x∈r,Sz m x)∧m≤1400
def shI:D→Rat
  | .tup [.int t,.int b]=>Rat.divInt t b
  | _=>0
def rQ:D→List Rat
  | .tup xs=>xs.map shI
  | _=>[]
def Zcx:Zaq:=xS (fun x:D×D=>[x.1,x.2]) (fun x=>kd x.1=true∧kd x.2=true∧∀ r,x.2=rowq r→BS r) fun x=>okS x.1 (if Zey (sN x.1) x.2=true then .ok (rowq (tims (sI x.1) (sN x.1) (rQ x.2))) else .error "NoRow")
section
variable {E:Ex→Prop} {Q:D→Prop} {x:D} {l m a b:Int} {p q:Rat} {s:List Int} {n k:Nat}
theorem u_is_within (h:kd x=true) (q:Q (.bl (inR l m x))):ZcA [x,.int l,.int m] E Q:=⟨(x,l,m),rfl,h,q⟩
theorem ZeW (h:kd x=true) (q:Q (.bl (areW l m x))):Zcg [x,.int l,.int m] E Q:=⟨(x,l,m),rfl,h,q⟩
theorem Zdt (h:kd x=true) (q:Q (.bl (ZcH l m x))):Zbv [x,.int l,.int m] E Q:=⟨(x,l,m),rfl,h,q⟩
theorem u_is_row (h:kd x=true) (q:Q (.bl (Zey a x))):Zfk [x,.int a] E Q:=⟨(x,a),rfl,h,q⟩
theorem u_minus (h:B2 p q) (z:Q (shq (p - q))):S_minus [shq p,shq q] E Q:=⟨(p,q),rfl,h,z⟩
theorem u_times (h:B2 p q) (z:Q (shq (p*q))):ZdE [shq p,shq q] E Q:=⟨(p,q),rfl,h,z⟩
theorem u_by (h:B2 p q) (h':q≠0) (z:Q (shq (p / q))):S_by [shq p,shq q] E Q:=⟨(p,q),rfl,⟨h,h'⟩,z⟩
theorem u_row_ofL {xs:List Int} (h:xs.length≤5000) (q:Q (rowq (Zan xs))):ZcJ [ZcX xs] E Q:=⟨(false,xs),rfl,h,q⟩
theorem Zfr {xs:List Int} (h:xs.length≤5000) (q:Q (rowq (Zan xs))):ZcJ [Zag xs] E Q:=⟨(true,xs),rfl,h,q⟩
theorem IsSl.l9 (h:IsSl s n):s.length≤9:=by have:=h.len;have:=h.n5;omega
theorem u_size_of {xs:List D} (h:xs.length≤5000) (q:Q (.int (((xs.length:Int)+1) / 2))):Zcy [.tup xs] E Q:=⟨xs,rfl,h,q⟩
theorem u_size (h:IsSl s n) (q:Q (.int n)):Zcy [Zag s] E Q:=by
  have:=h.l9
  have:=h.len
  refine u_size_of (by simp;omega) ?_
  have e:(((s.map D.int).length:Int)+1) / 2=n:=by rw [List.length_map];omega
  rw [e];exact q
theorem Zel (h:kd x=true) (q:Q (.bl (slG x))):ZbA [x] E Q:=⟨x,rfl,h,q⟩
theorem slG_of {s:List Int} {n:Nat} (h:IsSl s n):slG (Zag s)=true:=by
  unfold slG Zag
  simp only [List.length_map]
  have hl:=h.len
  have h5:=h.n5
  have h1:=h.n1
  rw [decide_eq_true (by omega:s.length % 2=1),decide_eq_true (by omega:s.length≤9),Bool.and_true,Bool.and_true,List.all_eq_true]
  intro x hx
  obtain ⟨i,hi,rfl⟩:=List.mem_map.mp hx
  have:=h.b i hi
  simp [inR,this.1,this.2]
theorem IsSl.kd {s:List Int} {n:Nat} (h:IsSl s n):kd (Zag s)=true:=kd_intsT (by have:=h.l9;omega)
theorem isSh_shq (q:Rat):isSh (shq q)=true:=by
  unfold isSh shq
  have h1:(0:Int) < (q.den:Int):=by exact_mod_cast q.den_pos
  have h2:Int.gcd q.num (q.den:Int)=1:=q.reduced
  simp [h2,q.den_pos]
theorem isRow_rowq (r:List Rat):Zey r.length (rowq r)=true:=by
  unfold Zey rowq
  simp [isSh_shq]
theorem ZaX (s:List Int):sI (Zag s)=s:=by show (s.map D.int).map toI=s;rw [List.map_map];exact (List.map_congr_left fun _ _=>rfl).trans (List.map_id _)
theorem IsSl.sN (h:IsSl s n):sN (Zag s)=n:=by unfold LP.sN;rw [ZaX];have:=h.len;omega
theorem okS_of (h:IsSl s n) {v:Except Str D}:okS (Zag s) v=v:=by unfold okS;rw [slG_of h,if_pos rfl]
theorem okS_not {v:Except Str D} (h:slG x=false):okS x v = .error "NoSlants" :=by unfold okS;rw [h,if_neg (by decide)]
theorem slG_inv (h:slG x=true):∃ s n,x=Zag s∧IsSl s n:=by
  cases x<;>try (cases h;done)
  rename_i xs
  simp only [slG,Bool.and_eq_true,decide_eq_true_eq,List.all_eq_true] at h
  obtain ⟨⟨h1,h2⟩,h3⟩:=h
  have e:xs=(xs.map toI).map D.int:=by
    rw [List.map_map]
    refine ((List.map_congr_left fun x hx=>?_).trans (List.map_id _)).symm
    have:=h1 x hx
    cases x<;>first | rfl | cases this
  refine ⟨xs.map toI,(xs.length+1) / 2,by unfold Zag;rw [← e],⟨by rw [List.length_map];omega,by omega,by omega,fun i hi=>?_⟩⟩
  obtain ⟨x,hx,rfl⟩:=List.mem_map.mp hi
  have:=h1 x hx
  cases x<;>first | (cases this;done) | skip
  simp only [inR,Bool.and_eq_true,decide_eq_true_eq] at this
  exact this
theorem shI_shq (q:Rat):shI (shq q)=q:=by unfold shI shq;exact Rat.num_divInt_den q
theorem Zed (r:List Rat):rQ (rowq r)=r:=by show (r.map shq).map shI=r;rw [List.map_map];exact (List.map_congr_left fun q _=>shI_shq q).trans (List.map_id _)
theorem rowq_inj {r r':List Rat} (h:rowq r=rowq r'):r=r':=by rw [← Zed r,h,Zed]
theorem isSh_inv {d:D} (h:isSh d=true):∃ q,d=shq q:=by
  unfold isSh at h
  split at h
  · rename_i t b
    simp only [Bool.and_eq_true,decide_eq_true_eq,beq_iff_eq] at h
    have hb:((b.toNat:Nat):Int)=b:=Int.toNat_of_nonneg (by omega)
    refine ⟨⟨t,b.toNat,by omega,?_⟩,?_⟩
    · have:b.natAbs=b.toNat:=by omega
      have h2:=h.2
      unfold Int.gcd at h2
      rw [this] at h2
      exact h2
    · unfold shq
      rw [hb]
  · cases h
theorem rows_inv:∀ {xs:List D},xs.all isSh=true→∃ r:List Rat,xs=r.map shq
  | [],_=>⟨[],rfl⟩
  | x::xs,h=>by
    rw [List.all_cons,Bool.and_eq_true] at h
    obtain ⟨q,rfl⟩:=isSh_inv h.1
    obtain ⟨r,rfl⟩:=rows_inv h.2
    exact ⟨q::r,rfl⟩
theorem isRow_inv {a:Int} (h:Zey a x=true):∃ r,x=rowq r∧(r.length:Int)=a:=by
  cases x<;>try (cases h;done)
  rename_i xs
  simp only [Zey,Bool.and_eq_true,beq_iff_eq] at h
  obtain ⟨r,rfl⟩:=rows_inv h.2
  exact ⟨r,rfl,by simpa using h.1⟩
theorem u_need_slants (h:IsSl s n) (q:Q .non):ZaR [Zag s] E Q:=xS.ok (Zag s) rfl h.kd (okS_of h) q
theorem x_need_slants (h:kd x=true) (hb:slG x=false) (e:E "NoSlants"):ZaR [x] E Q:=xS.err x rfl h (okS_not hb) e
theorem u_table_of (h:IsSl s n) (q:Q (tblD s n)):ZdR [Zag s] E Q:=xS.ok (Zag s) rfl h.kd (by (try dsimp only);rw [okS_of h,ZaX,h.sN]) q
theorem u_row_good (h:IsSl s n) (hk:kd x=true) (q:Q (.bl (Zey n x))):ZcY [Zag s,x] E Q:=xS.ok (Zag s,x) rfl ⟨h.kd,hk⟩ (by (try dsimp only);rw [okS_of h,h.sN]) q
theorem x_row_good {y:D} (h:kd x=true) (hk:kd y=true) (hb:slG x=false) (e:E "NoSlants"):ZcY [x,y] E Q:=xS.err (x,y) rfl ⟨h,hk⟩ (okS_not hb) e
theorem u_share_rows (h:IsSl s n) (q:Q (.lst ((tbl s n).map fun r=>rowq (Zan r)))):ZcI [Zag s] E Q:=⟨(s,n),rfl,h,q⟩
theorem u_times_row {r:List Rat} (h:IsSl s n) (hl:r.length=n) (hb:BS r) (q:Q (rowq (tims s n r))):Zcx [Zag s,rowq r] E Q:=xS.ok (Zag s,rowq r) rfl ⟨h.kd,kd_rowq (by have:=h.n5;omega),fun r' e=>by rw [← rowq_inj e];exact hb⟩ (by
  have er:Zey n (rowq r)=true:=by rw [← hl];exact isRow_rowq r
  dsimp only
  rw [okS_of h,h.sN,ZaX,er,if_pos rfl,Zed]) q
end
end LP
namespace L2
open PySem PySem.Spec PyProof.Rows
theorem exc_obj {K:PySem.W.Frag} {h:Heap} {C:Addr} {bmB:List Value} {newId:String} (X:K.In h) (q:PySem.W.excIn K C bmB newId=true) :
    ∃ (bm:List Value) (N:Addr) (nm qn:Str) (bs:List Value) (hd:Bool) (sn:List Str) (sub:List Value) (ab:Bool) (col:Option Bool) (dd:Option Addr) (k0 k1 k2 k3 k5:Option Value) (mN:Str→Option Value),
      h.get? C=some (excClassObj nm qn C N bs bm hd sn sub ab col dd k0 k1 k2 k3 k5 newId)∧h.Ns N mN∧mN "__init__" = none∧OwnTail h bmB bm:=by
  unfold PySem.W.excIn at q
  split at q
  · rename_i dd cd sl ho
    split at q
    · rename_i C' bm k0 k1 k2 k3 n k5 hm hs
      simp only [Bool.and_eq_true,beq_iff_eq,Bool.not_eq_true'] at q
      obtain ⟨⟨⟨⟨⟨rfl,rfl⟩,hdel⟩,ht⟩,hok⟩,hni⟩:=q
      obtain ⟨nm,bs,mro,ns,qn,hd,sn,sub,ab,col,del⟩:=cd
      dsimp only at hm hdel hok hni
      subst hm hdel
      have hsl:sl = #[k0,k1,k2,k3,some (.builtin n),k5]:=by
        cases sl with
        | mk l=>exact congrArg Array.mk hs
      subst hsl
      exact ⟨bm,ns,nm,qn,bs,hd,sn,sub,ab,col,dd,k0,k1,k2,k3,k5,_,X _ _ ho,.of_isNs (PySem.W.isNs_of_in X hok),PySem.W.nsMap_none_of_in X hok hni,PySem.W.tail_of_in X ht⟩
    · cases q
  · cases q
section
variable {X:Cx} {EX:XK} {x:Str} {C:Addr} {np cpos pos:Pos} {B newId initId:String} {bmB:List Value}
theorem ps_raise (hr:Rais X EX) (hc:X.calm=true) (hm:X.mg x=some (.ref C)) (hq:PySem.W.excIn X.K C bmB newId=true) (FB:ExcBaseFacts B newId initId bmB) (hg:Gl X x:=by rfl) (hd:(x == ("__debug__" : Str))=false:=by decide) :
    PS X (.Raise (some (.Call (.Name x np) [] [] cpos)) none pos) (fun _ _ H=>EX (.ref C) none H):=by
  intro pins s σ H D I h
  obtain ⟨bm,N,nm,qn,bs,hdc,sn,sub,ab,col,dd,k0,k1,k2,k3,k5,mN,hC,hN,hni,T⟩:=exc_obj I.kIn hq
  refine wpAny_Raise_call_subT (C:=C) (nm:=nm) (q:=qn) (N:=N) (bs:=bs) (bm:=bm) (hdct:=hdc) (sn:=sn) (sub:=sub) (ab:=ab) (col:=col) (dd:=dd) (k0:=k0) (k1:=k1) (k2:=k2) (k3:=k3) (k5:=k5)
    FB (mN:=mN) (T.hasType FB.hasBase) (I.ok.hd hc) rfl hni (ld_glob I hg hm ⟨rfl,?_⟩ hd)
  exact evalArgs_empty ⟨rfl,Nat.zero_le _,hC,hN,T,fun h' e hx=>hr pins σ H s h' e (.ref C) [] I hx h⟩
end
end L2
namespace LP
open PySem PySem.Spec PyProof.Rows L2
theorem clsAt_of {K:PySem.W.Frag} {x:Str} {C:Addr} (h:PySem.W.nsIn K mainGlobals x=some (some (.ref C))):clsAt K x=some C:=by unfold clsAt;rw [h]
section
variable {X:Cx} {EX:XK} {x:Str} {C:Addr} {np cpos pos:Pos} {newId initId:String} {bmB:List Value}
def ZaO (x:Str):WS:=fun E _ _=>E x
structure XC (K:PySem.W.Frag) (mg:Str→Option Value) (x:Str):Prop where
  h:∃ (C:Addr) (newId initId:String) (bmB:List Value),clsAt K x=some C∧mg x=some (.ref C)∧PySem.W.excIn K C bmB newId=true∧ExcBaseFacts "ValueError" newId initId bmB
theorem ZdL (hr:Rais X EX) (hx:XC X.K X.mg x) (hc:X.calm=true:=by rfl) (hxn:xrow x=none:=by decide) (hg:Gl X x:=by rfl) (hd:(x == ("__debug__" : Str))=false:=by decide) :
    PZ X EX (.Raise (some (.Call (.Name x np) [] [] cpos)) none pos) (ZaO x):=by
  obtain ⟨C,newId,initId,bmB,h1,h2,h3,h4⟩:=hx.h
  exact ⟨⟨_,ps_raise hr hc h2 h3 h4 hg hd,fun W0 H0 F W σ H ρ E Dn N s fl eo no q=>eo x W H (.ref C) none q s.ext ⟨C,by rw [xnm_of hxn];exact h1,rfl,.none hxn⟩⟩,fun E ρ N N' hl q=>q⟩
end
end LP
namespace L2
open PySem PySem.Spec PyProof.Rows
section
variable {X:Cx} {pins:List (Addr×Obj)} {σ:St} {H H':Hp} {s s':Shared} {B h2:Heap}
end
section
variable {X:Cx} {pins pins':List (Addr×Obj)} {σ:St} {H:Hp} {s:Shared} {E:Value→Shared→Prop} {e:Addr}
end
section
variable {X:Cx} {pins:List (Addr×Obj)} {σ:St} {H:Hp} {s:Shared} {h':Heap} {t':Nat}
theorem Inv.names {m:Str→Option Value} (I:Inv X pins σ H s) (hn:h'.Ns X.env.locals m) (hs:Heap.SameBut X.env.locals s.heap h'):Inv X pins (List.replicate σ.length none) H { s with heap:=h',toks:=t' }:=by
  have ne:∀ b o,X.s₀.heap.get? b=some o→b≠X.env.locals:=fun b o e=>Nat.ne_of_lt (Nat.lt_of_lt_of_le (Heap.lt_size e) I.ok.above)
  have same:∀ b,b≠X.env.locals→h'.get? b=s.heap.get? b:=fun b hb=>hs.2 b hb
  have nH:∀ b u,H b=some u→b≠X.env.locals:=fun b u e z=>by rw [z,I.free] at e;cases e
  refine ⟨I.ok,I.os,I.bare,⟨fun b o e n hb hx=>?_,fun b o e n hb hx=>?_,I.base.free,fun b o e hx=>?_,I.base.tups,I.base.frzs,I.base.tbls⟩,⟨m,hn,fun i x v _ e2 _=>?_⟩,fun x c e=>?_,I.free,I.freeC,fun p hp=>?_,fun b u e=>?_,by rw [List.length_replicate];exact I.len⟩
  · show h'.get? b=_
    rw [same b (ne b o e)];exact I.base.keep b o e n hb hx
  · obtain ⟨sl,e1⟩:=I.base.slot b o e n hb hx
    refine ⟨sl,?_⟩
    show h'.get? b=_
    rw [same b (ne b o e)];exact e1
  · obtain ⟨o',e1⟩:=I.base.there b o e hx
    refine ⟨o',?_⟩
    show h'.get? b=_
    rw [same b (ne b o e)];exact e1
  · rw [List.getElem?_replicate] at e2
    split at e2<;>cases e2
  · obtain ⟨v,o,ho,hd⟩:=I.cell x c e
    refine ⟨v,o,?_,hd⟩
    show h'.get? c=_
    rw [same c (I.cne x c e)];exact ho
  · obtain ⟨e,n,nl,r⟩:=I.pin p hp
    refine ⟨?_,n,nl,r⟩
    show h'.get? p.1=_
    rw [same _ nl];exact e
  · refine (I.hok b u e).stay (fun c v hc q=>?_) (fun _ q=>q) fun _ _ q=>q
    show h'.get? c=_
    rw [same c ?_]
    · exact q
    · rcases hc with rfl | hc
      · exact nH _ _ e
      · exact nH _ _ hc
end
end L2
namespace LP
open PySem PySem.Spec PyProof.Rows L2
def exRho (n i:Nat) (ex:Str):Rho:=(List.replicate n SV.un).set i (.d (.exc ex))
section
variable {X:Cx} {EX:XK}
def zTry (L:List Str) (n i:Nat) (zb zh:WS):WS:=fun _ N ρ=>∃ E':Ex→Prop,(∀ ex,E' ex→ex∈L∧zh No { nx:=fun _=>False,rt:=N.rt } (exRho n i ex))∧zb E' N ρ
end
end LP
namespace L2
open PySem PySem.Spec PyProof.Rows
structure RoomU (k:Nat) (A:Around):Prop where
  dp:A.depth+3*k+5 < recursionLimit
  un:A.units+16*k+200 < cLine
theorem RoomU.mono {j k:Nat} {A:Around} (r:RoomU k A) (h:j≤k):RoomU j A:=⟨by have:=r.dp;omega,by have:=r.un;omega⟩
theorem RoomU.depth {k:Nat} {A:Around} (r:RoomU k A):A.depth < recursionLimit:=by have:=r.dp;omega
theorem Room.u {k:Nat} {A:Around} (r:Room k A):RoomU k A:=⟨r.dp,r.un⟩
section
variable {X:Cx} {k:Nat} {f:Addr} {fd:FuncData} {ps:List Str} {sp:Sp} {E:XK} {x:Str} {p pos:Pos} {e:Expr} {es:List Expr} {t:TA}
end
end L2
namespace LP
open PySem PySem.Spec PyProof.Rows L2
section
variable {P:Program} {w:World} {K:PySem.W.Frag} {mg:Str→Option Value} {base:Heap}
end
section
variable {X:Cx} {EX:XK} {pos p:Pos} {e:Expr} {es:List Expr} {t:WA} {x:Str} {k j:Nat} {ps:List Str} {S:Zaq}
end
end LP
namespace L2
open PySem PySem.Spec PySem.Calls PyProof.Rows PySem.W Builtin Builtin.ObjectAttr Builtin.Getset_descriptor
def XAt (h:Heap) (x C:Addr):Prop:=∃ ox,h.get? x=some ox∧ox.cls = .ref C∧notCls ox=true
section
variable {prog:Program} {w:World} {A:Around} {E:Value→Shared→Prop} {s:Shared} {K:Frag} {x D:Addr}
theorem XAt.type {M:Model} {h:Heap} (I:XAt h x D):Looks M h (typeOf (.ref x)) (.ref D):=by
  obtain ⟨ox,h1,h2,_⟩:=I
  exact h2 ▸ (Looks.ld h1).andThen .now
end
end L2
namespace LP
open PySem PySem.Spec PyProof.Rows L2
section
variable {X:Cx} {EX:XK} {pos p2:Pos} {a:Expr} {wa:WE} {L M:List Str}
def gIsX (L M:List Str):List D→(D→Prop)→Prop:=fun ds Q=>match ds with
  | [.exc n,.cls m]=>n∈L∧m∈M∧Q (.bl (xnm n == m))
  | [.exc n,.ty T]=>n∈L∧T = "ValueError" ∧Q (.bl true)
  | _=>False
theorem gIsX.mono:∀ ds P P',(∀ d,P d→P' d)→gIsX L M ds P→gIsX L M ds P':=fun ds P P' hp hg=>by
  unfold gIsX at hg ⊢
  split at hg
  · exact ⟨hg.1,hg.2.1,hp _ hg.2.2⟩
  · exact ⟨hg.1,hg.2.1,hp _ hg.2.2⟩
  · exact hg.elim
end
def wM (g:D→List D→(D→Prop)→Prop) (wo:WE) (t:WA):WE:=fun E ρ Q=>wo E ρ fun x=>(∃ xs,x = .lst xs)∧t E ρ fun ds=>g x ds Q
section
variable {X:Cx} {EX:XK} {o e:Expr} {es:List Expr} {wo:WE} {t:WA} {name:Str} {apos cpos:Pos} {id:String} {g:D→List D→(D→Prop)→Prop}
end
section
variable {X:Cx}
end
end LP
namespace L2
open PySem PySem.Spec PyProof.Rows
theorem Zfc:fillsNumberSlot (.type "tuple") "mul" = pure false:=
  PySem.fillsNumberSlot_seq (id:= "tuple.__mul__") (r:=some (.builtin "tuple.__rmul__")) PySem.F.slot_tuple_mul.lookup (by decide +kernel) PySem.F.slot_tuple_rmul.lookup (by decide +kernel)
theorem repeat_tuple:seqRepeat? (.type "tuple")=pure (some (.builtin "tuple.__mul__")):=by
  unfold seqRepeat?
  rw [PySem.seqSlot_of (T:= "tuple") (name:= "__mul__") (id:= "tuple.__mul__") PySem.F.slot_tuple_mul.lookup (by decide +kernel),PySem.seqSlot_of (T:= "tuple") (name:= "__rmul__") (id:= "tuple.__rmul__") PySem.F.slot_tuple_rmul.lookup (by decide +kernel)]
  rfl
theorem rmul_int_tuple (a:Int) (t:Tok) (l:Addr) (items:Array Value) (n:Nat) (dd:Option Addr) (sl:Array (Option Value)) :
    Meets (Builtin.«int.__rmul__» ⟨[.int a t,.ref l],[]⟩) (fun _ R s=>s.heap.get? l=some { cls:=.type "tuple",dict:=dd,data:=.seq items n,slots:=sl }∧R (.ok (.ret Value.notImplemented)) s):=
  .of_wp fun prog w A R s h=>by obtain ⟨hp,g,d,tk,os⟩:=s;obtain ⟨hl,h⟩:=h;wp_walk;exact ⟨_,rfl,h⟩
theorem tuple_mul_same (l:Addr) (items:Array Value) (n:Nat) (dd:Option Addr) (sl:Array (Option Value)) (k:Int) (t:Tok) (h1:-(2 ^ 63)≤k) (h1':k < 2 ^ 63) (h2:(items.isEmpty || k == 1)=true) :
    Meets (Builtin.«tuple.__mul__» ⟨[.ref l,.int k t],[]⟩) (fun _ R s=>s.heap.get? l=some { cls:=.type "tuple",dict:=dd,data:=.seq items n,slots:=sl }∧R (.ok (.ret (Value.ref l))) s):=by
  intro prog w A R s h
  obtain ⟨hp,g,d,tk,os⟩:=s
  obtain ⟨hl,h⟩:=h
  have f1:=AutoSeq1.idx_int
  have c1:¬ (decide (k < -2 ^ 63) || decide (k ≥ 2 ^ 63))=true:=by simp;omega
  unfold Builtin.«tuple.__mul__»
  wp_walk using wpAny_loadPart' hl
  rw [if_neg c1]
  wp_walk using wpAny_loadPart' hl
  exact h
theorem tuple_mul_nil (l:Addr) (items:Array Value) (n:Nat) (dd:Option Addr) (sl:Array (Option Value)) (k:Int) (t:Tok) (h1:-(2 ^ 63)≤k) (h1':k < 2 ^ 63) (h2:¬ (items.isEmpty || k == 1)=true) (h3:k≤0) :
    Meets (Builtin.«tuple.__mul__» ⟨[.ref l,.int k t],[]⟩) (fun _ R s=>s.heap.get? l=some { cls:=.type "tuple",dict:=dd,data:=.seq items n,slots:=sl }∧R (.ok (.ret (Value.ref s.heap.objs.size))) { s with heap:=s.heap.push { cls:=Value.type "tuple",data:=Data.seq #[] } }):=by
  intro prog w A R s h
  obtain ⟨hp,g,d,tk,os⟩:=s
  obtain ⟨hl,h⟩:=h
  have f1:=AutoSeq1.idx_int
  have c1:¬ (decide (k < -2 ^ 63) || decide (k ≥ 2 ^ 63))=true:=by simp;omega
  have c2:(decide (k≤0) || items.isEmpty)=true:=by simp [h3]
  unfold Builtin.«tuple.__mul__»
  wp_walk using wpAny_loadPart' hl
  rw [if_neg c1]
  wp_walk using wpAny_loadPart' hl
  exact h
theorem tuple_mul_new (l:Addr) (items:Array Value) (n:Nat) (dd:Option Addr) (sl:Array (Option Value)) (k:Int) (t:Tok) (h1:-(2 ^ 63)≤k) (h1':k < 2 ^ 63) (h2:¬ (items.isEmpty || k == 1)=true) (h3:0 < k) (h4:items.size*k.toNat≤sizeLine) :
    Meets (Builtin.«tuple.__mul__» ⟨[.ref l,.int k t],[]⟩) (fun _ R s=>s.heap.get? l=some { cls:=.type "tuple",dict:=dd,data:=.seq items n,slots:=sl }∧R (.ok (.ret (Value.ref s.heap.objs.size))) { s with heap:=s.heap.push { cls:=Value.type "tuple",data:=Data.seq (List.foldl (fun x1 x2=>x1++x2) #[] (List.replicate k.toNat items)) } }):=by
  intro prog w A R s h
  obtain ⟨hp,g,d,tk,os⟩:=s
  obtain ⟨hl,h⟩:=h
  have f1:=AutoSeq1.idx_int
  have c1:¬ (decide (k < -2 ^ 63) || decide (k ≥ 2 ^ 63))=true:=by simp;omega
  have c2:¬ (decide (k≤0) || items.isEmpty)=true:=by
    have:items.isEmpty=false:=by cases q:items.isEmpty<;>simp_all
    simp [this];omega
  have hk:(items.size:Int)*k=((items.size*k.toNat:Nat):Int):=by rw [Int.natCast_mul,Int.toNat_of_nonneg (by omega)]
  have hsl:(sizeLine:Nat)=2 ^ 24:=rfl
  have c3:¬ ((items.size:Int)*k > (2 ^ 63 - 1) / 8):=by rw [hk];omega
  have c4:¬ Builtin.Tuple.tupleTooMany ((items.size:Int)*k)=true:=fun z=>by have z':=of_decide_eq_true z;rw [hk] at z';omega
  unfold Builtin.«tuple.__mul__»
  wp_walk using wpAny_loadPart' hl
  rw [if_neg c1]
  wp_walk using wpAny_loadPart' hl
  rw [if_neg c3]
  wp_walk using wpAny_loadPart' hl
  rw [if_neg c4]
  wp_walk using wpAny_loadPart' hl
  have hnew:List.foldl (fun x1 x2=>x1++x2) #[] (List.replicate k.toNat items)=(List.replicate k.toNat items.toList).flatten.toArray:=by
    have:=foldl_rep items.toList k.toNat []
    rw [List.nil_append] at this
    simpa using this
  have c5:¬ ((List.foldl (fun x1 x2=>x1++x2) #[] (List.replicate k.toNat items)).size > sizeLine):=by
    rw [hnew,List.size_toArray,len_rep,Array.length_toList,Nat.mul_comm]
    omega
  rw [if_neg c5]
  wp_walk using wpAny_loadPart' hl
  exact h
section
variable {X:Cx}
theorem Inv.tnew {pins:List (Addr×Obj)} {σ:St} {H:Hp} {s:Shared} {ys:List V} {its:List Value} {t':Nat} (I:Inv X pins σ H s) (hv:Vals ys its) (hz:ys.length≤sizeLine) :
    Inv X pins σ (upd H s.heap.objs.size (.tup ys)) { s with heap:=s.heap.push { cls:=.type "tuple",data:=.seq its.toArray },toks:=t' }:=
  I.laid (fun _ _ q=>Heap.get?_push_of_some _ q) (Nat.le_refl _) ⟨hz,its,hv,IsTup.new _ _⟩
def rRepT (K:PySem.W.Frag):R2:=fun x y H Q=>∃ l k xs,x = .ref l∧y = .int k∧SqT K H l xs∧-(2 ^ 63)≤k∧k < 2 ^ 63∧xs.length*k.toNat≤sizeLine∧
  ((xs=[]∨k=1)→Q (.ref l) H)∧∀ p,H p=none→Q (.ref p) (upd H p (.tup (List.replicate k.toNat xs).flatten))
theorem op_repT:OpR X (binaryOp .Mult) (rRepT X.K):=by
  intro pins s σ H x y v u Q I rx ry h
  obtain ⟨l,k,xs,rfl,rfl,hq,h1,h2,hz,q1,q2⟩:=h
  cases rx
  obtain ⟨t,rfl⟩:=ry
  obtain ⟨its,r,pl,_⟩:=I.tuple hq
  have hl:xs.length=its.length:=r.length
  obtain ⟨⟨cls,dd,data,sl⟩,ho,hc,n,hd⟩:=id pl
  simp only at hc hd
  subst hc hd
  refine wpAny_binaryOp_repeat_ref (T:= "tuple") (U:= "int") (by decide) ⟨_,ho,rfl⟩ (fun s'=>typeIs_int s' k t) Zfc PySem.F.fills_int_mul PySem.F.slot_int_rmul repeat_tuple PySem.F.slot_int_index.lookup
    (call_meets PySem.F.slot_int_rmul (typeIs_int s k t) PySem.F.entry_int_rmul (PySem.F.args_int_rmul_2 _ _) (rmul_int_tuple k t l its.toArray n dd sl) ⟨ho,rfl,⟨_,ho,rfl⟩,?_⟩)
  by_cases hs:(its.toArray.isEmpty || k == 1)=true
  · refine call_meets PySem.F.slot_tuple_mul ⟨_,ho,rfl⟩ PySem.F.entry_tuple_mul (PySem.F.args_tuple_mul_2 _ _) (tuple_mul_same l its.toArray n dd sl k t h1 h2 hs) ⟨ho,⟨.ref l,H,I,rfl,q1 ?_⟩⟩
    rw [Bool.or_eq_true] at hs
    rcases hs with hs | hs
    · exact .inl (r.nil_iff.mp (by simpa using hs))
    · exact .inr (beq_iff_eq.mp hs)
  · by_cases h3:k≤0
    · refine call_meets PySem.F.slot_tuple_mul ⟨_,ho,rfl⟩ PySem.F.entry_tuple_mul (PySem.F.args_tuple_mul_2 _ _) (tuple_mul_nil l its.toArray n dd sl k t h1 h2 hs h3) ⟨ho,⟨.ref _,_,I.tnew (its:=[]) (ys:=(List.replicate k.toNat xs).flatten) (t':=s.toks) ?_ ?_,rfl,q2 _ I.fresh⟩⟩
      · rw [show k.toNat=0 by omega];exact .nil
      · rw [show k.toNat=0 by omega];exact Nat.zero_le _
    · have hnew:List.foldl (fun x1 x2=>x1++x2) #[] (List.replicate k.toNat its.toArray)=(List.replicate k.toNat its).flatten.toArray:=by
        have:=foldl_rep its k.toNat []
        rw [List.nil_append] at this
        exact this
      refine call_meets PySem.F.slot_tuple_mul ⟨_,ho,rfl⟩ PySem.F.entry_tuple_mul (PySem.F.args_tuple_mul_2 _ _) (tuple_mul_new l its.toArray n dd sl k t h1 h2 hs (by omega) (by rw [List.size_toArray,← hl];exact hz)) ⟨ho,?_⟩
      rw [hnew]
      exact ⟨.ref _,_,I.tnew (t':=s.toks) (r.rep k.toNat) (by rw [len_rep,Nat.mul_comm];exact hz),rfl,q2 _ I.fresh⟩
end
end L2
namespace LP
open PySem PySem.Spec PyProof.Rows L2
section
variable {X:Cx}
def Zb9:G2:=fun x y Q=>match x,y with
  | .tup xs,.int k=>k < 1000∧-1000 < k∧xs.length*k.toNat≤small∧Q (.tup (List.replicate k.toNat xs).flatten)
  | _,_=>False
theorem Zb9.mono:∀ x y P P',(∀ d,P d→P' d)→Zb9 x y P→Zb9 x y P':=fun x y P P' hp hg=>by
  unfold Zb9 at hg ⊢
  split at hg
  · exact ⟨hg.1,hg.2.1,hg.2.2.1,hp _ hg.2.2.2⟩
  · exact hg.elim
theorem o_mulT:OpP X (binaryOp .Mult) Zb9:=by
  refine ⟨⟨_,op_repT,fun W H x y dx dy Q ok rx ry hg=>?_⟩,Zb9.mono⟩
  unfold Zb9 at hg
  split at hg
  · obtain ⟨p,vs,rfl,h1,r1⟩:=rx.sqt ok
    cases ry
    rename_i xs k
    refine ⟨p,k,vs,rfl,rfl,h1,by omega,by omega,by rw [r1.length];exact ZaV hg.2.2.1,fun e=>?_,fun a ha=>hg.2.2.2.tup ok (reps_rep r1 _) ha⟩
    have e':(List.replicate k.toNat xs).flatten=xs:=by
      rcases e with e | e
      · subst e;cases r1;simp
      · subst e;simp
    have q:=hg.2.2.2
    rw [e'] at q
    exact q.now ok rx
  · exact hg.elim
end
end LP
namespace L2
open PySem PySem.Spec PyProof.Rows
end L2
namespace LP
open PySem PySem.Spec PyProof.Rows L2
section
variable {X:Cx} {EX:XK} {pos:Pos}
def its (js:List Int):List D:=js.map .int
def gIn (neg:Bool):G2:=fun x y Q=>∃ i js,x = .int i∧(y = .lst (its js)∨y = .tup (its js))∧Q (.bl (if neg then !js.contains i else js.contains i))
theorem gIn.mono {neg:Bool}:∀ x y P P',(∀ d,P d→P' d)→gIn neg x y P→gIn neg x y P':=fun x y P P' hp ⟨i,js,h1,h2,h3⟩=>⟨i,js,h1,h2,hp _ h3⟩
theorem its_vs {K:PySem.W.Frag} {W:Wd}:∀ {js:List Int} {vs:List V},Reps K W vs (its js)→vs=js.map V.int
  | [],_,.nil=>rfl
  | j::js,_,.cons r t=>by cases r;rw [its_vs t];rfl
theorem in_ints (i:Int):∀ js:List Int,inV (.int i) (js.map V.int)=js.contains i
  | []=>rfl
  | j::js=>by
    have ih:=in_ints i js
    unfold inV at ih ⊢
    rw [List.map_cons,List.any_cons,ih,List.contains_cons]
    congr 1
    show (j == i)=(i == j)
    rw [Bool.eq_iff_iff,beq_iff_eq,beq_iff_eq]
    exact ⟨Eq.symm,Eq.symm⟩
theorem ZfJ:∀ js:List Int,(js.map V.int).all flatV=true
  | []=>rfl
  | j::js=>by rw [List.map_cons,List.all_cons,ZfJ js];rfl
theorem gIn_r {neg:Bool} {W:Wd} {H:Hp} {x y:V} {dx dy:D} {Q:VK} (ok:WOk W H) (rx:Rep X.K W x dx) (ry:Rep X.K W y dy) (hg:gIn neg dx dy (RQ X.K W H Q)):rIn X.K neg x y H Q:=by
  obtain ⟨i,js,rfl,h,q⟩:=hg
  cases rx
  rcases h with rfl | rfl
  · obtain ⟨p,vs,rfl,h1,r1⟩:=ry.sql ok
    obtain rfl:=its_vs r1
    exact ⟨p,_,rfl,.inl h1,rfl,ZfJ js,by rw [in_ints];exact q.now ok (.bl _)⟩
  · obtain ⟨p,vs,rfl,h1,r1⟩:=ry.sqt ok
    obtain rfl:=its_vs r1
    exact ⟨p,_,rfl,.inr h1,rfl,ZfJ js,by rw [in_ints];exact q.now ok (.bl _)⟩
theorem o_in:OpP X (compareOp .In) (gIn false):=⟨⟨_,op_in_seq,fun W H x y dx dy Q ok rx ry hg=>gIn_r ok rx ry hg⟩,gIn.mono⟩
def gRepr:List D→(D→Prop)→Prop:=fun ds Q=>∃ x p,ds=[x]∧toP x=some p∧p.showable=true∧p.hasDict=false∧p.depth≤32∧p.shown.length≤sizeLine∧Q (.str p.shown)
theorem gRepr.mono:∀ ds P P',(∀ d,P d→P' d)→gRepr ds P→gRepr ds P':=fun ds P P' hp ⟨x,p,h1,h2,h3,h4,h5,h6,h7⟩=>⟨x,p,h1,h2,h3,h4,h5,h6,hp _ h7⟩
end
abbrev N_is_whole:List Str:=["thing"]
abbrev ps_is_whole:List Str:=["thing"]
def ZeL:WS:=(zRet (Zb7 (wB gIs (Zab (wN 0) (Zab (wC (.ty "int")) aNil))) (Zcr (wB gIs (Zab (wN 0) (Zab (wC (.ty "bool")) aNil))))))
abbrev ZfO:List Str:=["thing", "least", "most"]
abbrev ps_is_within:List Str:=["thing", "least", "most"]
def Ze:WS:=(zRet (Zb7 (wF ZcZ (Zab (wN 0) aNil)) (ZaA gLeI gLeI (wN 1) (wN 0) (wN 2))))
abbrev Ze6:List Str:=["thing", "least", "most"]
abbrev ps_are_within:List Str:=["thing", "least", "most"]
def Zdq:WS:=(zRet (Zb7 (wB gIs (Zab (wN 0) (Zab (wC (.ty "tuple")) aNil))) (wB gAll (Zab (wL (aLC (iS (wN 0)) 1 [1,2] (gN 0) ZaN (wF ZcA (Zab (wN 0) (Zab (wN 1) (Zab (wN 2) aNil)))))) aNil))))
abbrev Zde:List Str:=["one", "other"]
abbrev ZeT:List Str:=["one", "other"]
def Zcj:WS:=(zSeq (zNox (zWhile (wT (w2 (gEq true) (wN 1) (wC (D.int (0))))) (zPar 0 1 (Zab (wN 1) (Zab (w2 gModI (wN 0) (wN 1)) aNil))))) (zRet (wB gAbs (Zab (wN 0) aNil))))
abbrev N_is_share:List Str:=["thing", "top", "bottom"]
abbrev ps_is_share:List Str:=["thing"]
def ZeM:WS:=(zSeq (zIf (wOr (wNot (wT (wB gIs (Zab (wN 0) (Zab (wC (.ty "tuple")) aNil))))) (wT (w2 (gEq true) (wB gLen (Zab (wN 0) aNil)) (wC (D.int (2)))))) (zRet (wC (D.bl false))) zNx) (zSeq (zAsg (wN 0) (gTp 2 (Zap (gN 1) (Zap (gN 2) ZaZ)))) (zSeq (zIf (wOr (wNot (wT (wF ZcZ (Zab (wN 1) aNil)))) (wNot (wT (wF ZcZ (Zab (wN 2) aNil))))) (zRet (wC (D.bl false))) zNx) (zRet (Zb7 (w2 gGtI (wN 2) (wC (D.int (0)))) (w2 (gEq false) (wF ZbI (Zab (wN 1) (Zab (wN 2) aNil))) (wC (D.int (1)))))))))
abbrev ZdI:List Str:=["thing", "least", "most"]
abbrev Zfb:List Str:=["thing", "least", "most"]
def Zcq:WS:=(zSeq (zIf (wOr (wNot (wT (wB gIs (Zab (wN 0) (Zab (wC (.ty "tuple")) aNil))))) (wNot (wT (ZaA gLeI gLeI (wN 1) (wB gLen (Zab (wN 0) aNil)) (wN 2))))) (zRet (wC (D.bl false))) zNx) (zRet (wB gAll (Zab (wL (aLC (iS (wN 0)) 1 [] (gN 0) ZaN (wF ZeV (Zab (wN 0) aNil)))) aNil))))
abbrev N_is_row:List Str:=["thing", "many"]
abbrev ps_is_row:List Str:=["thing", "many"]
def z_is_row:WS:=(zRet (wF Zbv (Zab (wN 0) (Zab (wN 1) (Zab (wN 1) aNil)))))
abbrev N_share_by:List Str:=["top", "bottom", "divisor"]
abbrev ps_share_by:List Str:=["top", "bottom"]
def ZeJ:WS:=(zSeq (ZaI (wT (w2 (gEq true) (wN 1) (wC (D.int (0)))))) (zSeq (zSet 2 (wF ZbI (Zab (wN 0) (Zab (wN 1) aNil)))) (zSeq (zIf (wT (w2 gLtI (wN 1) (wC (D.int (0))))) (zSet 2 (w1 gNeg (wN 2))) zNx) (zRet (wTup (Zab (w2 gFdv (wN 0) (wN 2)) (Zab (w2 gFdv (wN 1) (wN 2)) aNil)))))))
abbrev N_plus:List Str:=["one", "other"]
abbrev ps_plus:List Str:=["one", "other"]
def z_plus:WS:=(zRet (wF Zcp (Zab (w2 gAdd (w2 gMul (w2 gIx (wN 0) (wC (D.int (0)))) (w2 gIx (wN 1) (wC (D.int (1))))) (w2 gMul (w2 gIx (wN 1) (wC (D.int (0)))) (w2 gIx (wN 0) (wC (D.int (1)))))) (Zab (w2 gMul (w2 gIx (wN 0) (wC (D.int (1)))) (w2 gIx (wN 1) (wC (D.int (1))))) aNil))))
abbrev N_times:List Str:=["one", "other"]
abbrev ps_times:List Str:=["one", "other"]
def z_times:WS:=(zRet (wF Zcp (Zab (w2 gMul (w2 gIx (wN 0) (wC (D.int (0)))) (w2 gIx (wN 1) (wC (D.int (0))))) (Zab (w2 gMul (w2 gIx (wN 0) (wC (D.int (1)))) (w2 gIx (wN 1) (wC (D.int (1))))) aNil))))
abbrev N_row_of:List Str:=["numbers"]
abbrev ps_row_of:List Str:=["numbers"]
def z_row_of:WS:=(zRet (wB ZbM (Zab (wL (aLC (iS (wN 0)) 1 [] (gN 0) ZaN (wTup (Zab (wN 0) (Zab (wC (D.int (1))) aNil))))) aNil)))
abbrev ZbC:List Str:=["one", "other", "total", "left", "right"]
def ZaH:WS:=(zSeq (zSet 2 (wC (D.tup [(D.int (0)),(D.int (1))]))) (zSeq (zNox (zFor (iZ (Zab (wN 0) (Zab (wN 1) aNil))) (gTp 2 (Zap (gN 3) (Zap (gN 4) ZaZ))) (zSet 2 (wF S_plus (Zab (wN 2) (Zab (wF ZdE (Zab (wN 3) (Zab (wN 4) aNil))) aNil)))))) (zRet (wN 2))))
abbrev N_size_of:List Str:=["slants"]
abbrev ps_size_of:List Str:=["slants"]
def Zfl:WS:=(zRet (w2 gFdv (w2 gAdd (wB gLen (Zab (wN 0) aNil)) (wC (D.int (1)))) (wC (D.int (2)))))
abbrev ZeF:List Str:=["thing"]
abbrev ps_slants_good:List Str:=["thing"]
def Zc1:WS:=(zSeq (zIf (wOr (wNot (wT (wF Zcg (Zab (wN 0) (Zab (wC (.int (-50))) (Zab (wC (.int (50))) aNil)))))) (wT (w2 (gEq false) (w2 gModI (wB gLen (Zab (wN 0) aNil)) (wC (D.int (2)))) (wC (D.int (0)))))) (zRet (wC (D.bl false))) zNx) (zRet (w2 gLeI (wF Zcy (Zab (wN 0) aNil)) (wC (.int (5))))))
abbrev ZeG:List Str:=["thing"]
abbrev ps_need_slants:List Str:=["thing"]
def Zc2:WS:=(zIf (wNot (wT (wF ZbA (Zab (wN 0) aNil)))) (ZaO (PySem.Str.ofString "NoSlants")) zNx)
abbrev N_table_of:List Str:=["slants", "size"]
abbrev ps_table_of:List Str:=["slants"]
def ZeI:WS:=(zSeq (ZbQ (wF ZaR (Zab (wN 0) aNil))) (zSeq (zSet 1 (wF Zcy (Zab (wN 0) aNil))) (zRet (wL (aLC (iR1 (Zab (wN 1) aNil)) 1 [0,1] (gN 0) ZaN (wL (aB (gSeq (α:=Unit)) (Zab (wCut (wN 1) (ZaL (w2 ZdB (w2 ZdB (wN 2) (wC (D.int (1)))) (wN 0))) (ZaL (w2 ZdB (w2 ZdB (w2 gMul (wC (D.int (2))) (wN 2)) (wC (D.int (1)))) (wN 0)))) aNil))))))))
abbrev N_row_good:List Str:=["slants", "thing"]
abbrev ps_row_good:List Str:=["slants", "thing"]
def ZeK:WS:=(zSeq (ZbQ (wF ZaR (Zab (wN 0) aNil))) (zRet (wF Zfk (Zab (wN 1) (Zab (wF Zcy (Zab (wN 0) aNil)) aNil)))))
abbrev Ze2:List Str:=["slants"]
abbrev ps_share_rows:List Str:=["slants"]
def Zdn:WS:=(zRet (wL (aLC (iS (wF ZdR (Zab (wN 0) aNil))) 1 [] (gN 0) ZaN (wF ZcJ (Zab (wN 0) aNil)))))
local macro_rules | `(tactic| walk_at "wp")=>`(tactic| simp only [zRet,zSeq,zIf,zSet,zNx,ZbQ,zPub,zOwn,zFor,ZaI,zPar,zAsg,zApp,Zb6,zInk,ZbE,zNox,ZaO,Zb7,wOrV,Zcr,wAnd,wOr,wNot,wT,wIf,w1,w2,wB,wF,wL,wTup,wCut,ZaA,aB,aLst,Zab,aNil,aLC,Zbz,ZaN,iS,iL,iT,iR1,iR2,iZ,i1,i2,isS,isL,isT,isB,isI,Zbt,ZaL,wN,wC,gN,gTp,Zap,ZaZ,gI2,gAdd,gMul,gIx,gIxP,gCut,gRev,gLen,gSeq,ZbM,gAbs,gMax,gInt,Zai,wPen,wBor,tBor,aBor,wIxO,aAdd,aMul,aCut,rho,pub,List.map_cons,List.map_nil,List.length_cons,List.length_nil,List.cons_append,List.nil_append,List.replicate,List.getElem?_cons_zero,List.getElem?_cons_succ,List.set_cons_zero,List.set_cons_succ,Nat.reduceSub,Nat.reduceAdd,List.replicate_succ,List.replicate_zero,true_and,Bool.false_eq_true,if_true,if_false,ite_true,ite_false])
local macro_rules | `(tactic| walk_at "go")=>`(tactic| ((try dsimp only at *);(try walk_at "wp");(try dsimp only)))
theorem gIs_kd {x:D} {T:String} {Q:D→Prop} (h:kd x=true) (hT:T∈tys) (q:∀ t,tyD x=some t→Q (.bl (isTy t T))):gIs [x,.ty T] Q:=by
  obtain ⟨t,ht⟩:=kd_ty h
  exact ⟨t,ht,hT,q t ht⟩
theorem rd_is_whole:∀ ds E Q,ZcZ ds E Q→ZeL E { nx:=fun _=>Q .non,rt:=Q } (rho N_is_whole ds):=by
  rintro _ E Q ⟨x,rfl,hk,q⟩
  unfold ZeL
  walk_at "wp"
  refine gIs_kd hk (by decide) fun t ht=>?_
  cases x<;>cases ht<;>first
    | exact q
    | exact gIs_kd hk (by decide) fun t ht=>by cases ht;exact q
theorem rd_is_within:∀ ds E Q,ZcA ds E Q→Ze E { nx:=fun _=>Q .non,rt:=Q } (rho ZfO ds):=by
  rintro _ E Q ⟨⟨x,l,m⟩,rfl,hk,q⟩
  unfold Ze
  walk_at "go"
  refine ⟨x,rfl,hk,?_⟩
  cases x<;>try exact q
  rename_i i
  simp only [isW,isB,if_true,gI2,true_and]
  by_cases h:l≤i
  · simp only [h,decide_true,if_true]
    simpa [inR,h] using q
  · simp only [h,decide_false,if_false,Bool.false_eq_true]
    simpa [inR,h] using q
theorem rd_are_within:∀ ds E Q,Zcg ds E Q→Zdq E { nx:=fun _=>Q .non,rt:=Q } (rho Ze6 ds):=by
  rintro _ E Q ⟨⟨x,l,m⟩,rfl,hk,q⟩
  unfold Zdq
  walk_at "go"
  refine gIs_kd hk (by decide) fun t ht=>?_
  cases x<;>cases ht<;>try exact q
  rename_i xs
  obtain ⟨hl,hx⟩:=kd_tup hk
  show lcW _ _ _ xs _ _ _
  refine lc_map (f:=fun d=>.bl (inR l m d)) (fun d hd Q hq=>?_) .un [] (by simp [small];omega) ?_
  · walk_at "go"
    exact ⟨(d,l,m),rfl,hx d hd,hq⟩
  · refine ⟨xs.map (inR l m),by simp,?_⟩
    simpa [List.all_map,Function.comp_def,areW] using q
theorem gcd_fmod (a b:Int):Int.gcd b (a.fmod b)=Int.gcd a b:=by
  have e:a.fmod b=a - b*a.fdiv b:=by have:=Int.mul_fdiv_add_fmod a b;omega
  rw [e,Int.gcd_sub_mul_left_right,Int.gcd_comm]
theorem fmod_lt_abs (a:Int) {b:Int} (h:b≠0):(a.fmod b).natAbs < b.natAbs:=by
  have key:∀ a b:Int,0 < b→0≤a.fmod b∧a.fmod b < b:=fun a b z=>by
    rw [Int.fmod_eq_emod_of_nonneg _ (Int.le_of_lt z)]
    exact ⟨Int.emod_nonneg _ (by omega),Int.emod_lt_of_pos _ z⟩
  rcases Int.lt_or_lt_of_ne h with z | z
  · have h1:=key (-a) (-b) (by omega)
    rw [Int.neg_fmod_neg] at h1
    omega
  · have h1:=key a b z
    omega
theorem ZeP:∀ ds E Q,ZbI ds E Q→Zcj E { nx:=fun _=>Q .non,rt:=Q } (rho Zde ds):=by
  rintro _ E Q ⟨⟨a,b⟩,rfl,_,q⟩
  unfold Zcj
  walk_at "go"
  refine ⟨fun m ρ=>∃ x y:Int,m=y.natAbs∧ρ=[.d (.int x),.d (.int y)]∧Int.gcd x y=Int.gcd a b,⟨_,a,b,rfl,rfl,rfl⟩,?_⟩
  rintro m _ ⟨x,y,rfl,rfl,hg⟩
  walk_at "go"
  by_cases hy:y=0
  · subst hy
    simp only [beq_self_eq_true,Bool.not_true,Bool.false_eq_true,if_false]
    rw [Int.gcd_zero_right] at hg
    rw [← hg] at q
    have:(if x < 0 then -x else x)=((x.natAbs:Nat):Int):=by split<;>omega
    rw [this]
    exact q
  · rw [if_pos (by simpa using hy)]
    exact ⟨hy,_,fmod_lt_abs x hy,_,_,rfl,rfl,by rw [gcd_fmod];exact hg⟩
theorem isSh_len {xs:List D} (h:xs.length≠2):isSh (.tup xs)=false:=by
  unfold isSh
  split
  · rename_i e
    cases e
    exact absurd rfl h
  · rfl
theorem isSh_a {a b:D} (h:isW a=false):isSh (.tup [a,b])=false:=by
  unfold isSh
  split
  · rename_i e
    cases e
    cases h
  · rfl
theorem isSh_b {a b:D} (h:isW b=false):isSh (.tup [a,b])=false:=by
  unfold isSh
  split
  · rename_i e
    cases e
    cases h
  · rfl
theorem isW_get {a:D} (h:isW a=true):∃ i,a = .int i:=by
  cases a<;>first
    | exact ⟨_,rfl⟩
    | cases h
theorem rd_is_share:∀ ds E Q,ZeV ds E Q→ZeM E { nx:=fun _=>Q .non,rt:=Q } (rho N_is_share ds):=by
  rintro _ E Q ⟨x,rfl,hk,q⟩
  unfold ZeM
  walk_at "go"
  refine gIs_kd hk (by decide) fun t ht=>?_
  cases x<;>cases ht<;>try exact q
  rename_i xs
  obtain ⟨hl,hx⟩:=kd_tup hk
  walk_at "go"
  simp only [show isTy "tuple" "tuple" = true from rfl,Bool.not_true,Bool.false_eq_true,if_false]
  by_cases h2:xs.length=2
  · match xs,h2,hx,q with
    | [a,b],_,hx,q=>
    rw [if_neg (by simp)]
    walk_at "go"
    refine ⟨a,rfl,hx a (by simp),?_⟩
    walk_at "go"
    cases ha:isW a with
    | false=>rw [isSh_a ha] at q;exact q
    | true=>
      obtain ⟨i,rfl⟩:=isW_get ha
      simp only [Bool.not_true,Bool.false_eq_true,if_false]
      refine ⟨b,rfl,hx b (by simp),?_⟩
      walk_at "go"
      cases hb:isW b with
      | false=>rw [isSh_b hb] at q;exact q
      | true=>
        obtain ⟨j,rfl⟩:=isW_get hb
        simp only [Bool.not_true,Bool.false_eq_true,if_false]
        walk_at "go"
        by_cases h:0 < j
        · simp only [show j > 0 from h,decide_true,if_true]
          refine ⟨(i,j),rfl,trivial,?_⟩
          walk_at "go"
          have:isSh (.tup [.int i,.int j])=(((Int.gcd i j:Nat):Int) == 1):=by
            simp only [isSh,h,decide_true,Bool.true_and]
            rw [Bool.eq_iff_iff];simp;omega
          rw [this] at q
          simpa using q
        · have h':¬ j > 0:=h
          simp only [h',decide_false,if_false,Bool.false_eq_true]
          simpa [isSh,h] using q
  · rw [isSh_len h2] at q
    rw [if_pos (by simpa using fun z=>h2 (by exact_mod_cast z))]
    exact q
theorem Zf:∀ ds E Q,Zbv ds E Q→Zcq E { nx:=fun _=>Q .non,rt:=Q } (rho ZdI ds):=by
  rintro _ E Q ⟨⟨x,l,m⟩,rfl,hk,q⟩
  unfold Zcq
  walk_at "go"
  refine gIs_kd hk (by decide) fun t ht=>?_
  cases x<;>cases ht<;>try exact q
  rename_i xs
  obtain ⟨hl,hx⟩:=kd_tup hk
  walk_at "go"
  simp only [show isTy "tuple" "tuple" = true from rfl,Bool.not_true,Bool.false_eq_true,if_false]
  simp only [ZcH] at q
  cases h1:decide (l≤(xs.length:Int)) with
  | false=>rw [h1] at q;simpa using q
  | true=>
    cases h2:decide ((xs.length:Int)≤m) with
    | false=>rw [h1,h2] at q;simpa using q
    | true=>
      simp only [if_true,Bool.not_true,Bool.false_eq_true,if_false]
      walk_at "go"
      refine lc_map (f:=fun d=>.bl (isSh d)) (fun d hd Q hq=>?_) .un [] (by simp [small];omega) ?_
      · walk_at "go"
        exact ⟨d,rfl,hx d hd,hq⟩
      · refine ⟨xs.map isSh,by simp,?_⟩
        rw [h1,h2] at q
        simpa [List.all_map,Function.comp_def] using q
theorem isRowW_self (n:Int) (x:D):ZcH n n x=Zey n x:=by
  cases x<;>try rfl
  rename_i xs
  simp only [ZcH,Zey]
  congr 1
  rw [Bool.eq_iff_iff]
  simp
  omega
theorem rd_is_row:∀ ds E Q,Zfk ds E Q→z_is_row E { nx:=fun _=>Q .non,rt:=Q } (rho N_is_row ds):=by
  rintro _ E Q ⟨⟨x,n⟩,rfl,hk,q⟩
  unfold z_is_row
  walk_at "go"
  refine Zdt hk ?_
  rw [isRowW_self]
  exact q
theorem Bd.le {i j:Int} (h:i.natAbs≤j.natAbs) (b:Bd j):Bd i:=Nat.lt_of_le_of_lt h b
theorem rd_share_by:∀ ds E Q,Zcp ds E Q→ZeJ E { nx:=fun _=>Q .non,rt:=Q } (rho N_share_by ds):=by
  rintro _ E Q ⟨⟨t,b⟩,rfl,⟨hb,hd⟩,q⟩
  unfold ZeJ
  walk_at "go"
  refine ⟨by simpa using hb,(t,b),rfl,trivial,?_⟩
  walk_at "go"
  have hg:0 < Int.gcd t b:=Int.gcd_pos_of_ne_zero_right _ hb
  have hle:Int.gcd t b≤b.natAbs:=Nat.le_of_dvd (by omega) (Int.gcd_dvd_natAbs_right ..)
  obtain ⟨e1,e2⟩:=norm_eq (t:=t) hb
  unfold shq at q
  rw [← e1,← e2] at q
  by_cases h:b < 0
  · simp only [h,decide_true,if_true] at q ⊢
    refine ⟨⟨by omega,Bd.le (by omega) hd⟩,⟨by omega,Bd.le (by omega) hd⟩,by simp [small],q⟩
  · simp only [h,decide_false,if_false,Bool.false_eq_true] at q ⊢
    refine ⟨⟨by omega,Bd.le (by omega) hd⟩,⟨by omega,Bd.le (by omega) hd⟩,by simp [small],q⟩
theorem ix0 {q:Rat} {Q:D→Prop} (h:Q (.int q.num)):gIx (shq q) (.int 0) Q:=⟨_,rfl,h⟩
theorem ix1 {q:Rat} {Q:D→Prop} (h:Q (.int q.den)):gIx (shq q) (.int 1) Q:=⟨_,rfl,h⟩
theorem rd_plus:∀ ds E Q,S_plus ds E Q→z_plus E { nx:=fun _=>Q .non,rt:=Q } (rho N_plus ds):=by
  rintro _ E Q ⟨⟨p,q⟩,rfl,hb,h⟩
  obtain ⟨b1,b2,b3,b4,b5,b6,b7,b8⟩:=hb.mul
  unfold z_plus
  simp only [zRet,wF,Zab,w2,wN,wC,rho,List.map_cons,List.cons_append,List.getElem?_cons_zero,List.getElem?_cons_succ]
  refine ix0 (ix1 ⟨b1,ix0 (ix1 ⟨b2,ix1 (ix1 ⟨b3,?_⟩)⟩)⟩)
  refine ⟨(_,_),rfl,⟨b6,b5⟩,?_⟩
  dsimp only at h ⊢
  have e:Rat.divInt (p.num*q.den+q.num*p.den) ((p.den:Int)*q.den)=p+q:=by
    rw [Rat.add_def',← Rat.divInt_ofNat]
    rfl
  rw [e]
  exact h
theorem rd_times:∀ ds E Q,ZdE ds E Q→z_times E { nx:=fun _=>Q .non,rt:=Q } (rho N_times ds):=by
  rintro _ E Q ⟨⟨p,q⟩,rfl,hb,h⟩
  obtain ⟨b1,b2,b3,b4,b5,b6,b7,b8⟩:=hb.mul
  unfold z_times
  simp only [zRet,wF,Zab,w2,wN,wC,rho,List.map_cons,List.cons_append,List.getElem?_cons_zero,List.getElem?_cons_succ]
  refine ix0 (ix0 ⟨b4,ix1 (ix1 ⟨b3,?_⟩)⟩)
  refine ⟨(_,_),rfl,⟨b6,b5⟩,?_⟩
  dsimp only at h ⊢
  have e:Rat.divInt (p.num*q.num) ((p.den:Int)*q.den)=p*q:=by
    rw [Rat.mul_def',← Rat.divInt_ofNat]
    rfl
  rw [e]
  exact h
theorem isS_seq {b:Bool} {xs:List D} {Q:List D→Prop} (h:Q xs):isS Q (seqD b xs):=by cases b<;>exact h
theorem shq_int (i:Int):shq (i:Rat) = .tup [.int i,.int 1]:=by unfold shq;rw [Rat.num_intCast,Rat.den_intCast];rfl
theorem rd_row_of:∀ ds E Q,ZcJ ds E Q→z_row_of E { nx:=fun _=>Q .non,rt:=Q } (rho N_row_of ds):=by
  rintro _ E Q ⟨⟨b,xs⟩,rfl,hl,q⟩
  dsimp only at hl q
  unfold z_row_of
  simp only [zRet,wB,Zab,aNil,wL,aLC,iS,wN,rho,Zbz,List.replicate,List.map_cons,List.map_nil,List.cons_append,List.nil_append,List.getElem?_cons_zero]
  refine isS_seq (lc_map (f:=fun d=>.tup [d,.int 1]) (fun d hd Q hq=>?_) .un [] (by simp [small];omega) ?_)
  · walk_at "go"
    exact ⟨by simp [small],hq⟩
  · have e:(xs.map D.int).map (fun d=>D.tup [d,.int 1])=(xs.map fun (i:Int)=>(i:Rat)).map shq:=by
      rw [List.map_map,List.map_map]
      exact List.map_congr_left fun i _=>(shq_int i).symm
    rw [List.nil_append,e]
    exact q
theorem rd_sum_of_products:∀ ds E Q,Zax ds E Q→ZaH E { nx:=fun _=>Q .non,rt:=Q } (rho ZbC ds):=by
  rintro _ E Q ⟨⟨⟨b1,b2⟩,p,q⟩,rfl,⟨n,m,hp,hq,hb⟩,h⟩
  dsimp only at hp hq hb h
  unfold ZaH
  simp only [zSeq,zSet,wC,rho,List.map_cons,List.map_nil,List.length_cons,List.length_nil,List.cons_append,List.nil_append,List.replicate,List.set_cons_succ,List.set_cons_zero,zNox,zFor,iZ,Zab,aNil,wN,List.getElem?_cons_zero,List.getElem?_cons_succ,Nat.reduceSub,Nat.reduceAdd]
  have key:∀ (p' q':List Rat) (s:Rat) (sv sv':SV) (j:Nat),(∀ x∈p',Sz n x)→(∀ x∈q',Sz m x)→Sz (j*(n+m+1)+1) s→j+p'.length≤p.length→s+dot p' q'=dot p q→
      ZaW (gTp 2 (Zap (gN 3) (Zap (gN 4) ZaZ))) (zSet 2 (wF S_plus (Zab (wN 2) (Zab (wF ZdE (Zab (wN 3) (Zab (wN 4) aNil))) aNil)))) No { nx:=zRet (wN 2) E { nx:=fun _=>Q .non,rt:=Q },rt:=Q,bk:=fun _=>False,ct:=fun _=>False }
        (zips (p'.map shq) (q'.map shq)) [.d (seqD b1 (p.map shq)),.d (seqD b2 (q.map shq)),.d (shq s),sv,sv']:=by
    intro p'
    induction p' with
    | nil=>
      intro q' s sv sv' j _ _ _ _ he
      rw [dot,Rat.add_zero] at he
      simp only [zips,List.map_nil,List.zipWith_nil_left,ZaW]
      show Q (shq s)
      rw [he];exact h
    | cons x p' ih=>
      intro q' s sv sv' j h1 h2 h3 h4 he
      cases q' with
      | nil=>
        rw [dot,Rat.add_zero] at he
        simp only [zips,List.map_nil,List.zipWith_nil_right,ZaW]
        show Q (shq s)
        rw [he];exact h
      | cons y q'=>
        have hx:=h1 x (by simp)
        have hy:=h2 y (by simp)
        rw [List.length_cons] at h4
        have hj:j*(n+m+1)≤p.length*(n+m+1):=Nat.mul_le_mul_right _ (by omega)
        have hj':(j+1)*(n+m+1)≤p.length*(n+m+1):=Nat.mul_le_mul_right _ (by omega)
        rw [Nat.succ_mul] at hj'
        simp only [zips,List.map_cons,List.zipWith_cons_cons,ZaW]
        refine ⟨rfl,?_⟩
        simp only [Zap,ZaZ,gN,zSet,wF,Zab,aNil,wN,List.getElem?_cons_zero,List.getElem?_cons_succ,List.set_cons_succ,List.set_cons_zero]
        refine ⟨(x,y),rfl,B2.of hx hy (by omega),?_⟩
        refine ⟨(s,x*y),rfl,B2.of h3 (hx.mul hy) (by omega),?_⟩
        refine ih q' (s+x*y) _ _ (j+1) (fun z hz=>h1 z (by simp [hz])) (fun z hz=>h2 z (by simp [hz])) ?_ (by omega) ?_
        · refine (h3.add (hx.mul hy)).mono ?_
          rw [Nat.succ_mul];omega
        · rw [dot] at he
          rw [Rat.add_assoc];exact he
  have e0:D.tup [D.int 0,D.int 1]=shq 0:=rfl
  rw [e0]
  have k:=key p q 0 .un .un 0 hp hq (Sz.zero (by omega)) (by omega) (Rat.zero_add _)
  cases b1<;>cases b2<;>exact k
theorem lc_of {α:Type} {we:WE} {tail:Rho} {Q:List D→Prop} {g f:α→D}:∀ (L:List α),(∀ a∈L,∀ Q:D→Prop,Q (f a)→we No (.d (g a)::tail) Q)→∀ (sv:SV) (acc:List D),acc.length+L.length≤small→Q (acc++L.map f)→lcW (gN 0) ZaN we (L.map g) (sv::tail) acc Q
  | [],_,sv,acc,_,hq=>by simpa [lcW] using hq
  | a::L,h,sv,acc,hl,hq=>by
    rw [List.map_cons,lcW]
    show we No (SV.d (g a)::tail) _
    rw [List.length_cons] at hl
    refine h a (List.mem_cons_self ..) _ ⟨by omega,lc_of L (fun d hd=>h d (List.mem_cons_of_mem _ hd)) _ _ ?_ ?_⟩
    · rw [List.length_append,List.length_singleton];omega
    · rw [List.append_assoc];exact hq
theorem atN {α:Type} {xs:List α} {i:Int} {k:Nat} {x:α} (hi:i=k) (h:xs[k]? = some x):atI xs i=some x:=by rw [hi];exact atI_nat h
theorem cut_nat {α:Type} {xs:List α} {a b:Nat} (h:a≤b) (hb:b≤xs.length):cutD xs (some (a:Int)) (some (b:Int))=(xs.drop a).take (b - a):=by
  unfold cutD
  rw [HT.sIx_nat,HT.sIx_nat,Nat.min_eq_left hb,Nat.min_eq_left (Nat.le_trans h hb)]
theorem cut_i {α:Type} {xs:List α} {i j:Int} {a b:Nat} (hi:i=a) (hj:j=b) (h:a≤b) (hb:b≤xs.length):cutD xs (some i) (some j)=(xs.drop a).take (b - a):=by
  rw [hi,hj];exact cut_nat h hb
theorem cut_from {α:Type} {xs:List α} {a:Nat} (h:a≤xs.length):cutD xs (some (a:Int)) none=xs.drop a:=by
  unfold cutD
  rw [HT.sIx_nat,HT.sIx_none,Nat.min_eq_left h,← List.length_drop,List.take_length]
theorem cut_to {α:Type} {xs:List α} {i:Int} {b:Nat} (hi:i=b):cutD xs none (some i)=xs.take b:=by
  unfold cutD
  rw [hi,HT.sIx_nat,HT.sIx_none,List.drop_zero,Nat.sub_zero]
  rcases Nat.le_total b xs.length with h | h
  · rw [Nat.min_eq_left h]
  · rw [Nat.min_eq_right h,List.take_length,List.take_of_length_le h]
theorem Zcw {i:Int} {n:Nat} (h:i.natAbs < 2 ^ n) (l:n≤8990):Bd i:=Nat.lt_of_lt_of_le h (Nat.pow_le_pow_right (by decide) l)
theorem rd_size_of:∀ ds E Q,Zcy ds E Q→Zfl E { nx:=fun _=>Q .non,rt:=Q } (rho N_size_of ds):=by
  rintro _ E Q ⟨x,rfl,hl,q⟩
  unfold Zfl
  walk_at "go"
  refine ⟨⟨by decide,Zcw (n:=2) (by decide) (by omega)⟩,?_⟩
  rw [Int.fdiv_eq_ediv_of_nonneg _ (by decide)]
  exact q
theorem rd_slants_good:∀ ds E Q,ZbA ds E Q→Zc1 E { nx:=fun _=>Q .non,rt:=Q } (rho ZeF ds):=by
  rintro _ E Q ⟨x,rfl,hk,q⟩
  unfold Zc1
  walk_at "go"
  refine ZeW hk ?_
  walk_at "go"
  cases ha:areW (-50) 50 x with
  | false=>
    have:slG x=false:=by
      cases x<;>try rfl
      simp only [areW] at ha
      simp only [slG,ha,Bool.false_and]
    rw [this] at q
    simpa using q
  | true=>
    cases x<;>try (cases ha;done)
    rename_i xs
    obtain ⟨hl,hx⟩:=kd_tup hk
    walk_at "go"
    simp only [Bool.not_true,Bool.false_eq_true,if_false]
    refine ⟨by decide,?_⟩
    simp only [areW] at ha
    simp only [slG,ha,Bool.true_and] at q
    rw [Int.fmod_eq_emod_of_nonneg _ (by decide)]
    by_cases h:xs.length % 2=1
    · rw [if_neg (by simp;omega)]
      walk_at "go"
      refine u_size_of hl ?_
      walk_at "go"
      rw [decide_eq_true h,Bool.true_and] at q
      have e:decide (((xs.length:Int)+1) / 2≤5)=decide (xs.length≤9):=by
        rw [decide_eq_decide];omega
      rw [e];exact q
    · rw [if_pos (by simp;omega)]
      rw [decide_eq_false h,Bool.false_and] at q
      exact q
theorem rd_need_slants:∀ ds E Q,ZaR ds E Q→Zc2 E { nx:=fun _=>Q .non,rt:=Q } (rho ZeG ds):=by
  rintro _ E Q ⟨x,rfl,h,q⟩
  unfold Zc2
  walk_at "go"
  refine Zel h ?_
  walk_at "go"
  unfold okS at q
  cases e:slG x with
  | false=>rw [e] at q;exact q
  | true=>rw [e] at q;exact q
theorem need_first {x:D} {E:Ex→Prop} {Q:D→Prop} (h:kd x=true) (hb:slG x=false→E "NoSlants") (hg:∀ s n,x=Zag s→IsSl s n→Q .non):ZaR [x] E Q:=by
  cases e:slG x with
  | false=>exact x_need_slants h e (hb e)
  | true=>
    obtain ⟨s,n,rfl,hs⟩:=slG_inv e
    exact u_need_slants hs (hg s n rfl hs)
theorem okS_bad {x:D} {v:Except Str D} {E:Ex→Prop} {Q:D→Prop} (e:slG x=false) (q:exQ E Q (okS x v)):E "NoSlants" :=by
  rw [okS_not e] at q;exact q
theorem okS_good {s:List Int} {n:Nat} {v:Except Str D} {E:Ex→Prop} {Q:D→Prop} (h:IsSl s n) (q:exQ E Q (okS (Zag s) v)):exQ E Q v:=by
  rw [okS_of h] at q;exact q
theorem rd_table_of:∀ ds E Q,ZdR ds E Q→ZeI E { nx:=fun _=>Q .non,rt:=Q } (rho N_table_of ds):=by
  rintro _ E Q ⟨x,rfl,hk,q⟩
  unfold ZeI
  walk_at "go"
  refine need_first hk (fun e=>okS_bad e q) fun s n e h=>?_
  subst e
  replace q:Q (tblD s n):=by have:=okS_good h q;rw [ZaX,h.sN] at this;exact this
  refine u_size h ?_
  walk_at "go"
  have h5:=h.n5
  have hl:=h.len
  refine ⟨by omega,by omega,?_⟩
  rw [Int.toNat_natCast]
  refine lc_map (f:=fun d=>match d with | .int i=>ZcX ((s.drop (n - 1 - i.toNat)).take n) | _=>.non) (fun d hd Q hq=>?_) .un [] (by simp [rng,small];omega) ?_
  · obtain ⟨i,hi,rfl⟩:=List.mem_map.mp hd
    rw [List.mem_range] at hi
    walk_at "go"
    refine ⟨⟨Zcw (n:=2) (by decide) (by omega),Zcw (n:=10) (by omega) (by omega)⟩,?_⟩
    have e:cutD (s.map D.int) (some ((n:Int) - 1 - (0+(i:Int)))) (some (2*(n:Int) - 1 - (0+(i:Int))))=((s.drop (n - 1 - i)).take n).map D.int:=by
      rw [cut_i (a:=n - 1 - i) (b:=2*n - 1 - i) (by omega) (by omega) (by omega) (by rw [List.length_map];omega),show 2*n - 1 - i - (n - 1 - i)=n by omega,← List.map_drop,← List.map_take]
    show Q (D.lst (cutD (s.map D.int) _ _))
    rw [e]
    have e2:(0+(i:Int)).toNat=i:=by omega
    rw [e2] at hq
    exact hq
  · have e:(rng 0 n).map (fun d=>match d with | .int i=>ZcX ((s.drop (n - 1 - i.toNat)).take n) | _=>.non)=(tbl s n).map ZcX:=by
      unfold rng tbl
      rw [List.map_map,List.map_map]
      refine List.map_congr_left fun i _=>?_
      simp
    rw [List.nil_append,e]
    exact q
theorem tbl_len (s:List Int) (n:Nat):(tbl s n).length=n:=by simp [tbl]
theorem tbl_row {s:List Int} {n:Nat} (h:IsSl s n):∀ r∈tbl s n,r.length=n∧∀ x∈r,-50≤x∧x≤50:=by
  intro r hr
  unfold tbl at hr
  obtain ⟨i,hi,rfl⟩:=List.mem_map.mp hr
  rw [List.mem_range] at hi
  have hl:=h.len
  refine ⟨by rw [List.length_take,List.length_drop];omega,fun x hx=>h.b x (List.mem_of_mem_drop (List.mem_of_mem_take hx))⟩
theorem rd_row_good:∀ ds E Q,ZcY ds E Q→ZeK E { nx:=fun _=>Q .non,rt:=Q } (rho N_row_good ds):=by
  rintro _ E Q ⟨⟨x,y⟩,rfl,⟨hk,hk2⟩,q⟩
  dsimp only at hk hk2 q
  unfold ZeK
  walk_at "go"
  refine need_first hk (fun e=>okS_bad e q) fun s n e h=>?_
  subst e
  replace q:=okS_good h q
  rw [h.sN] at q
  exact u_size h (u_is_row hk2 q)
theorem rd_share_rows:∀ ds E Q,ZcI ds E Q→Zdn E { nx:=fun _=>Q .non,rt:=Q } (rho Ze2 ds):=by
  rintro _ E Q ⟨⟨s,n⟩,rfl,h,q⟩
  have h5:=h.n5
  unfold Zdn
  walk_at "go"
  refine u_table_of h ?_
  unfold tblD
  walk_at "go"
  refine lc_map (f:=fun d=>match d with | .lst xs=>.tup (xs.map fun x=>.tup [x,.int 1]) | _=>.non) (fun d hd Q hq=>?_) .un [] (by simp [tbl_len,small];omega) ?_
  · obtain ⟨r,hr,rfl⟩:=List.mem_map.mp hd
    walk_at "go"
    have:=(tbl_row h r hr).1
    refine u_row_ofL (by omega) ?_
    have e:rowq (Zan r) = .tup ((r.map D.int).map fun x=>.tup [x,.int 1]):=by
      unfold rowq Zan
      rw [List.map_map,List.map_map]
      exact congrArg D.tup (List.map_congr_left fun i _=>shq_int i)
    rw [e]
    exact hq
  · have e:((tbl s n).map ZcX).map (fun d=>match d with | .lst xs=>.tup (xs.map fun x=>.tup [x,.int 1]) | _=>.non)=(tbl s n).map fun r=>rowq (Zan r):=by
      rw [List.map_map]
      refine List.map_congr_left fun r _=>?_
      unfold rowq Zan
      simp only [Function.comp_apply,ZcX]
      rw [List.map_map,List.map_map]
      exact congrArg D.tup (List.map_congr_left fun i _=>(shq_int i).symm)
    rw [List.nil_append,e]
    exact q
theorem cast_sz {x:Int} (h:-50≤x∧x≤50):Sz 6 (x:Rat):=Sz.int x (by omega) (by omega)
def Zcc:Zaq:=fnS (fun x:List Int×Nat=>[.scr (x.1.map .int),.int x.2]) (fun _=>True) fun x=>.int (x.1.getD x.2 0)
def ZcB:Zaq:=rlS (fun x:Int=>[.int x]) (fun _=>True) fun _ d=>∃ j:Int,d = .int j
def Zco:Zaq:=fnS (fun x:Int=>[.int x]) (fun _=>True) fun _=>.pen
def ZaC:Zaq:=rlS (fun m:Nat=>[.pen,.int m]) (fun m=>0 < m∧m < 2 ^ 30) fun m d=>∃ k:Nat,d = .int k∧k < m
section
variable {E:Ex→Prop} {Q:D→Prop} {x:D} {l m a b:Int} {p q:Rat} {s:List Int} {n k:Nat}
theorem u__law_cell_at {xs:List Int} {i:Nat} (q:Q (.int (xs.getD i 0))):Zcc [.scr (xs.map .int),.int i] E Q:=⟨(xs,i),rfl,trivial,q⟩
theorem Zfs (q:∀ j:Int,Q (.int j)):ZcB [.int a] E Q:=⟨a,rfl,trivial,fun d ⟨j,hd⟩=>by rw [hd];exact q j⟩
theorem u__law_pen_of (q:Q .pen):Zco [.int a] E Q:=⟨a,rfl,trivial,q⟩
theorem ZaQ (h:0 < n) (h':n < 2 ^ 30) (q:∀ k:Nat,k < n→Q (.int k)):ZaC [.pen,.int n] E Q:=⟨n,rfl,⟨h,h'⟩,fun d ⟨k,hd,hk⟩=>by rw [hd];exact q k hk⟩
end
abbrev Zd7:List Str:=["_law_script", "_law_k"]
abbrev ZfD:List Str:=["_law_script", "_law_k"]
def ZcP:WS:=(zSeq (zIf (wT (w2 gLtI (wN 1) (wB gLen (Zab (wN 0) aNil)))) (zRet (w2 gIx (wN 0) (wN 1))) zNx) (zRet (wC (D.int (0)))))
abbrev ZfP:List Str:=["_law_seed"]
abbrev ps__law_next:List Str:=["_law_seed"]
def Zea:WS:=(zSeq (zSet 0 (w2 gModI (w2 gAdd (wN 0) (wC (D.int (7919)))) (wC (D.int (2147483647))))) (zRet (w2 gModI (w2 gAdd (w2 gAdd (w2 gMul (wN 0) (wN 0)) (w2 gMul (wC (D.int (48271))) (wN 0))) (wC (D.int (12345)))) (wC (D.int (2147483629))))))
abbrev ZeH:List Str:=["_law_cell", "_law_left"]
abbrev ps__law_pen_of:List Str:=["_law_cell"]
def Zc3:WS:=(zSeq (zSet 1 (wB gMax (Zab (wN 0) (Zab (w2 ZdB (wC (D.int (0))) (wN 0)) aNil)))) (zRet (wPen (aLst (Zab (wN 1) (Zab (wB gInt (Zab (w2 gGeI (wN 1) (w2 gPowI (wC (D.int (10))) (wC (D.int (18))))) aNil)) (Zab (w2 gModI (wN 1) (wC (D.int (1000003)))) aNil)))))))
abbrev ZfQ:List Str:=["_law_pen", "_law_many", "_law_found"]
abbrev ps__law_draw:List Str:=["_law_pen", "_law_many"]
def Zeb:WS:=(zSeq (zIf (wT (w2 (gEq false) (w2 gIxP (wN 0) (wC (D.int (1)))) (wC (D.int (1))))) (zSeq (zSet 2 (w2 gModI (w2 gIxP (wN 0) (wC (D.int (0)))) (wN 1))) (zSeq (zInk 0 (w2 gFdv (w2 gIxP (wN 0) (wC (D.int (0)))) (wN 1))) (zRet (wN 2)))) zNx) (zSeq (zInk 0 (wF ZcB (Zab (w2 gAdd (wF ZcB (Zab (w2 gIxP (wN 0) (wC (D.int (2)))) aNil)) (wC (D.int (7)))) aNil))) (zRet (w2 gModI (w2 gFdv (w2 gIxP (wN 0) (wC (D.int (2)))) (wC (D.int (64)))) (wN 1)))))
theorem Zfx:∀ ds E Q,Zcc ds E Q→ZcP E { nx:=fun _=>Q .non,rt:=Q } (rho Zd7 ds):=by
  rintro _ E Q ⟨⟨xs,i⟩,rfl,_,q⟩
  unfold ZcP
  walk_at "go"
  by_cases h:i < xs.length
  · rw [if_pos (by simp [h])]
    refine ⟨.int (xs.getD i 0),atN rfl ?_,q⟩
    rw [List.getElem?_map,List.getD_eq_getElem?_getD,List.getElem?_eq_getElem h]
    rfl
  · rw [if_neg (by simp;omega)]
    rw [List.getD_eq_getElem?_getD,List.getElem?_eq_none (by omega)] at q
    exact q
theorem rd__law_next:∀ ds E Q,ZcB ds E Q→Zea E { nx:=fun _=>Q .non,rt:=Q } (rho ZfP ds):=by
  rintro _ E Q ⟨x,rfl,_,q⟩
  unfold Zea
  walk_at "go"
  have h1:=Int.fmod_nonneg_of_pos (x+7919) (show (0:Int) < 2147483647 by decide)
  have h2:=Int.fmod_lt_of_pos (x+7919) (show (0:Int) < 2147483647 by decide)
  have b:Bd ((x+7919).fmod 2147483647):=Zcw (n:=32) (by omega) (by omega)
  exact ⟨by decide,⟨b,b⟩,⟨Zcw (n:=32) (by decide) (by omega),b⟩,by decide,q _ ⟨_,rfl⟩⟩
theorem rd__law_pen_of:∀ ds E Q,Zco ds E Q→Zc3 E { nx:=fun _=>Q .non,rt:=Q } (rho ZeH ds):=by
  rintro _ E Q ⟨x,rfl,_,q⟩
  unfold Zc3
  walk_at "go"
  exact ⟨⟨by decide,by decide,by decide⟩,by decide,by decide,⟨_,_,_,rfl⟩,q⟩
theorem rd__law_draw:∀ ds E Q,ZaC ds E Q→Zeb E { nx:=fun _=>Q .non,rt:=Q } (rho ZfQ ds):=by
  rintro _ E Q ⟨m,rfl,⟨h0,h1⟩,q⟩
  have hb:Bd (m:Int):=Zcw (n:=30) (by omega) (by omega)
  have fin:∀ x:Int,Q (.int (x.fmod m)):=fun x=>by
    have h1:=Int.fmod_nonneg_of_pos x (show (0:Int) < m by omega)
    have h2:=Int.fmod_lt_of_pos x (show (0:Int) < m by omega)
    exact q _ ⟨(x.fmod m).toNat,by rw [Int.toNat_of_nonneg h1],by omega⟩
  unfold Zeb
  walk_at "go"
  refine ⟨by simp,fun j=>?_⟩
  walk_at "go"
  split
  · refine ⟨by simp,fun i=>⟨by omega,?_⟩⟩
    walk_at "go"
    exact ⟨by simp,fun i'=>⟨⟨by omega,hb⟩,fin i⟩⟩
  · refine ⟨by simp,fun k=>Zfs fun k1=>?_⟩
    walk_at "go"
    refine Zfs fun k2=>?_
    walk_at "go"
    exact ⟨by simp,fun k3=>⟨⟨by decide,Zcw (n:=7) (by decide) (by omega)⟩,by omega,fin _⟩⟩
theorem divInt_sz {t b:Int} {n:Nat} (hb:b≠0) (h1:t.natAbs < 2 ^ n) (h2:b.natAbs < 2 ^ n):Sz n (Rat.divInt t b):=by
  unfold Sz
  rw [Rat.num_divInt,Rat.den_divInt,if_neg hb]
  have hg:Int.gcd b t≠0:=by
    have:=Int.gcd_pos_of_ne_zero_left t hb
    omega
  refine ⟨Nat.lt_of_le_of_lt (div_le' hg ?_) ?_,Nat.lt_of_le_of_lt (Nat.div_le_self _ _) h2⟩
  · exact Int.dvd_mul_of_dvd_right (Int.gcd_dvd_right ..)
  · rw [Int.natAbs_mul,Int.natAbs_sign_of_ne_zero hb,Nat.one_mul];exact h1
local macro_rules | `(tactic| walk_at "w1")=>`(tactic| simp only [zRet,zIf,zSet,zNx,ZbQ,zPub,zOwn,zFor,ZaI,zPar,zAsg,zApp,Zb6,zInk,ZbE,zNox,ZaO,Zb7,wOrV,Zcr,wAnd,wOr,wNot,wT,wIf,w1,w2,wB,wF,wL,wTup,wCut,ZaA,aB,aLst,Zab,aNil,aLC,Zbz,ZaN,iS,iL,iT,iR1,iR2,iZ,i1,i2,isS,isL,isT,isB,isI,Zbt,ZaL,wN,wC,gN,gTp,Zap,ZaZ,gI2,gAdd,gMul,gIx,gIxP,gCut,gRev,gLen,gSeq,ZbM,gAbs,gMax,gInt,Zai,wPen,wBor,tBor,aBor,wIxO,aAdd,aMul,aCut,rho,pub,List.map_cons,List.map_nil,List.length_cons,List.length_nil,List.cons_append,List.nil_append,List.replicate,List.getElem?_cons_zero,List.getElem?_cons_succ,List.set_cons_zero,List.set_cons_succ,Nat.reduceSub,Nat.reduceAdd,List.replicate_succ,List.replicate_zero,true_and,Bool.false_eq_true,if_true,if_false,ite_true,ite_false])
local macro_rules | `(tactic| walk_at "st")=>`(tactic| ((try dsimp only at *);(try walk_at "w1");(try dsimp only)))
theorem Zaj {z z':WS} {E:Ex→Prop} {N:Nds} {ρ:Rho} (h:z E { N with nx:=z' E N } ρ):zSeq z z' E N ρ:=h
theorem Zce {c:WT} {zb:WS} {E:Ex→Prop} {N:Nds} {ρ:Rho} {b:Bool} (hc:∀ Q:Bool→Prop,Q b→c E ρ Q) (h1:b=true→zb E N ρ) (h2:b=false→N.nx ρ):zIf c zb zNx E N ρ:=by
  refine hc _ ?_
  cases b with
  | true=>rw [if_pos rfl];exact h1 rfl
  | false=>rw [if_neg (by decide)];exact h2 rfl
theorem flats_ints (xs:List Int):flats (xs.map D.int)=true:=by
  induction xs with
  | nil=>rfl
  | cons x xs ih=>rw [List.map_cons,flats,ih];rfl
theorem ints_of {ys:List D} (h:∀ y∈ys,∃ i:Int,y = .int i∧-50≤i∧i≤50):∃ s:List Int,ys=s.map D.int∧∀ x∈s,-50≤x∧x≤50:=by
  induction ys with
  | nil=>exact ⟨[],rfl,by simp⟩
  | cons y ys ih=>
    obtain ⟨s,rfl,hs⟩:=ih fun z hz=>h z (by simp [hz])
    obtain ⟨i,rfl,h1,h2⟩:=h y (by simp)
    exact ⟨i::s,rfl,fun x hx=>by
      rcases List.mem_cons.mp hx with rfl | hx
      · exact ⟨h1,h2⟩
      · exact hs x hx⟩
mutual
def szD (m:Nat):D→Bool
  | .int i=>decide (i.natAbs < 2 ^ m)
  | .tup xs=>szDs m xs
  | .lst xs=>szDs m xs
  | _=>true
def szDs (m:Nat):List D→Bool
  | []=>true
  | x::r=>szD m x && szDs m r
end
section
variable {E:Ex→Prop} {Q:D→Prop} {x:D} {s:List Int} {n k:Nat} {r:List Rat}
end
def sm:Nat→(Nat→Rat)→Rat
  | 0,_=>0
  | n+1,f=>f 0+sm n fun i=>f (i+1)
theorem IsSl.rev {s:List Int} {n:Nat} (h:IsSl s n):IsSl s.reverse n:=⟨by rw [List.length_reverse];exact h.len,h.n1,h.n5,fun x hx=>h.b x (List.mem_reverse.mp hx)⟩
def unit (n p:Nat):List Rat:=(List.range n).map fun j=>if j=p then 1 else 0
theorem ZfI {g:WG} {zb:WS} {E:Ex→Prop} {N:Nds} (I:Rho→Prop):∀ (ds:List D),(∀ d∈ds,∀ ρ,I ρ→∀ nx:Rho→Prop,(∀ ρ,I ρ→nx ρ)→g d ρ fun ρ1=>zb E { nx:=nx,rt:=N.rt,bk:=N.nx,ct:=nx } ρ1)→(∀ ρ,I ρ→N.nx ρ)→∀ ρ,I ρ→ZaW g zb E N ds ρ
  | [],_,hn,ρ,i=>hn ρ i
  | d::ds,h,hn,ρ,i=>h d (List.mem_cons_self ..) ρ i _ (ZfI I ds (fun d hd=>h d (List.mem_cons_of_mem _ hd)) hn)
theorem for_inv {g:WG} {zb:WS} {E:Ex→Prop} {N:Nds} (I:List D→Rho→Prop) (h:∀ d ds ρ,I (d::ds) ρ→∀ nx:Rho→Prop,(∀ ρ,I ds ρ→nx ρ)→g d ρ fun ρ1=>zb E { nx:=nx,rt:=N.rt,bk:=N.nx,ct:=nx } ρ1) (hn:∀ ρ,I [] ρ→N.nx ρ):∀ (ds:List D) ρ,I ds ρ→ZaW g zb E N ds ρ
  | [],ρ,i=>hn ρ i
  | d::ds,ρ,i=>h d ds ρ i _ (for_inv I h hn ds)
section
variable {Q:D→Prop} {QL:List D→Prop} {QI:Int→Prop} {QB:Bool→Prop} {xs ys:List D} {i j:Int} {b:Bool} {r:List Rat} {s:List Int} {n:Nat} {q:Rat} {o o':Option Int}
theorem Zdk:isB QB (.bl b)=QB b:=rfl
theorem Zdj:isI QI (.int i)=QI i:=rfl
theorem Zdi:isL QL (.lst xs)=QL xs:=rfl
theorem Zb5:isL QL (ZcX s)=QL (s.map .int):=rfl
theorem Zb4:isL QL (tblD s n)=QL ((tbl s n).map ZcX):=rfl
theorem Zdh:isT QL (.tup xs)=QL xs:=rfl
theorem Zb0:isS QL (.lst xs)=QL xs:=rfl
theorem ZbY:isS QL (.tup xs)=QL xs:=rfl
theorem ZbZ:isS QL (rowq r)=QL (r.map shq):=rfl
theorem Zb2:isS QL (Zag s)=QL (s.map .int):=rfl
theorem Zb1:isS QL (ZcX s)=QL (s.map .int):=rfl
theorem Zb3:isS QL (tblD s n)=QL ((tbl s n).map ZcX):=rfl
theorem Zb:gLen [.tup xs] Q=Q (.int xs.length):=rfl
theorem Zbc:gLen [.lst xs] Q=Q (.int xs.length):=rfl
theorem Zba:gLen [.scr xs] Q=Q (.int xs.length):=rfl
theorem Zbb:gLen [rowq r] Q=Q (.int r.length):=by show Q (.int ((r.map shq).length:Int))=_;rw [List.length_map]
theorem Zbe:gLen [Zag s] Q=Q (.int s.length):=by show Q (.int ((s.map D.int).length:Int))=_;rw [List.length_map]
theorem Zbd:gLen [ZcX s] Q=Q (.int s.length):=by show Q (.int ((s.map D.int).length:Int))=_;rw [List.length_map]
theorem Zbf:gLen [tblD s n] Q=Q (.int n):=by show Q (.int (((tbl s n).map ZcX).length:Int))=_;rw [List.length_map,tbl_len]
theorem ZbR:gIx (.tup xs) (.int i) Q = ∃ d,atI xs i=some d∧Q d:=rfl
theorem ZbU:gIx (.lst xs) (.int i) Q = ∃ d,atI xs i=some d∧Q d:=rfl
theorem ZbS:gIx (.scr xs) (.int i) Q = ∃ d,atI xs i=some d∧Q d:=rfl
theorem ZbT:gIx (rowq r) (.int i) Q = ∃ d,atI (r.map shq) i=some d∧Q d:=rfl
theorem ZbW:gIx (Zag s) (.int i) Q = ∃ d,atI (s.map .int) i=some d∧Q d:=rfl
theorem ZbV:gIx (ZcX s) (.int i) Q = ∃ d,atI (s.map .int) i=some d∧Q d:=rfl
theorem ZbX:gIx (tblD s n) (.int i) Q = ∃ d,atI ((tbl s n).map ZcX) i=some d∧Q d:=rfl
theorem Zbi:gCut (.tup xs) o o' Q=Q (.tup (cutD xs o o')):=rfl
theorem Zbl:gCut (.lst xs) o o' Q=Q (.lst (cutD xs o o')):=rfl
theorem Zbj:gCut (.scr xs) o o' Q=Q (.lst (cutD xs o o')):=rfl
theorem Zbk:gCut (rowq r) o o' Q=Q (.tup (cutD (r.map shq) o o')):=rfl
theorem Zbn:gCut (Zag s) o o' Q=Q (.tup (cutD (s.map .int) o o')):=rfl
theorem Zbm:gCut (ZcX s) o o' Q=Q (.lst (cutD (s.map .int) o o')):=rfl
theorem Zbo:gCut (tblD s n) o o' Q=Q (.lst (cutD ((tbl s n).map ZcX) o o')):=rfl
theorem Za3:gRev (.tup xs) Q=Q (.tup xs.reverse):=rfl
theorem Za5:gRev (.lst xs) Q=Q (.lst xs.reverse):=rfl
theorem Za4:gRev (rowq r) Q=Q (rowq r.reverse):=by show Q (.tup (r.map shq).reverse)=_;rw [← List.map_reverse];rfl
theorem Za7:gRev (Zag s) Q=Q (Zag s.reverse):=by show Q (.tup (s.map D.int).reverse)=_;rw [← List.map_reverse];rfl
theorem Za6:gRev (ZcX s) Q=Q (ZcX s.reverse):=by show Q (.lst (s.map D.int).reverse)=_;rw [← List.map_reverse];rfl
theorem Za0 {α:Type}:gSeq (α:=α) [.tup xs] QL=QL xs:=rfl
theorem Za1 {α:Type}:gSeq (α:=α) [.lst xs] QL=QL xs:=rfl
theorem Za2 {α:Type}:gSeq (α:=α) [Zag s] QL=QL (s.map .int):=rfl
theorem Zau:ZbM [.tup xs] Q=Q (.tup xs):=rfl
theorem Zav:ZbM [.lst xs] Q=Q (.tup xs):=rfl
theorem Zaw:ZbM [ZcX s] Q=Q (Zag s):=rfl
theorem Zbr:gAdd (.int i) (.int j) Q=Q (.int (i+j)):=rfl
theorem Zbq:gAdd (.lst xs) (.lst ys) Q=(xs.length+ys.length≤small∧Q (.lst (xs++ys))):=rfl
theorem Zbp:gAdd (.tup xs) (.tup ys) Q=(xs.length+ys.length≤small∧Q (.tup (xs++ys))):=rfl
theorem Za9:gMul (.int i) (.int j) Q=(MulOk i j∧Q (.int (i*j))):=rfl
theorem Za8:gMul (.lst xs) (.int j) Q=(j < 1000∧-1000 < j∧xs.length*j.toNat≤small∧Q (.lst (List.replicate j.toNat xs).flatten)):=rfl
theorem e_I2 {C:Int→Int→Prop} {kd:Int→Int→D}:gI2 C kd (.int i) (.int j) Q=(C i j∧Q (kd i j)):=rfl
theorem Zdm:gAbs [.int i] Q=Q (.int (if i < 0 then -i else i)):=rfl
theorem Zdg:gMax [.int i,.int j] Q=Q (.int (if j > i then j else i)):=rfl
theorem Zbh:gInt [.bl b] Q=Q (.int (if b then 1 else 0)):=rfl
theorem Zbg:gInt [.int i] Q=Q (.int i):=rfl
theorem Zdl:gAll [.lst xs] Q = ∃ bs:List Bool,xs=bs.map D.bl∧Q (.bl (bs.all id)):=rfl
theorem e_i1:i1 QL [.int j]=(-10000≤j∧j < 10000∧QL (rng 0 j.toNat)):=rfl
theorem e_i2:i2 QL [.int i,.int j]=((-10000≤i∧i < 10000∧-10000≤j∧j < 10000)∧QL (rng i (j - i).toNat)):=rfl
end
local macro_rules | `(tactic| walk_at "w1")=>`(tactic| simp only [zRet,zIf,zSet,zNx,ZbQ,zPub,zOwn,zFor,ZaI,zPar,zAsg,zApp,Zb6,zInk,ZbE,zNox,ZaO,zTry,wM,Zb9,Zb7,wOrV,Zcr,wAnd,wOr,wNot,wT,wIf,w1,w2,wB,wF,wL,wTup,wCut,ZaA,aB,aLst,Zab,aNil,aLC,Zbz,ZaN,iS,iL,iT,iR1,iR2,iZ,Zbt,ZaL,wN,wC,gN,gTp,Zap,ZaZ,gIxP,Zai,wPen,wBor,tBor,aBor,wIxO,aAdd,aMul,aCut,rho,pub,List.map_cons,List.map_nil,List.length_cons,List.length_nil,List.cons_append,List.nil_append,List.replicate,List.getElem?_cons_zero,List.getElem?_cons_succ,List.set_cons_zero,List.set_cons_succ,Nat.reduceSub,Nat.reduceAdd,List.replicate_succ,List.replicate_zero,true_and,Bool.false_eq_true,if_true,if_false,ite_true,ite_false,Int.toNat_natCast,Bool.not_true,Bool.not_false,
  Zdk,Zdj,Zdi,Zb5,Zb4,Zdh,Zb0,ZbY,ZbZ,Zb2,Zb1,Zb3,Zb,Zbc,Zba,Zbb,Zbe,Zbd,Zbf,ZbR,ZbU,ZbS,ZbT,ZbW,ZbV,ZbX,Zbi,Zbl,Zbj,Zbk,Zbn,Zbm,Zbo,Za3,Za5,Za4,Za7,Za6,Za0,Za1,Za2,Zau,Zav,Zaw,Zbr,Zbq,Zbp,Za9,Za8,e_I2,Zdm,Zdg,Zbh,Zbg,Zdl,e_i1,e_i2])
local macro_rules | `(tactic| walk_at "nx")=>`(tactic| ((try dsimp only);(refine Zaj ?_);walk_at "st"))
theorem deq_pair (a b c d:Int):deq (.tup [.int a,.int b]) (.tup [.int c,.int d])=(a == c && b == d):=by
  simp [deq,pd,pds,PyData.eqv,PyData.eqvAll]
theorem add_tup {xs ys:List D} {Q:D→Prop} (h:xs.length+ys.length≤small) (q:Q (.tup (xs++ys))):gAdd (.tup xs) (.tup ys) Q:=⟨h,q⟩
theorem Zby {n:Nat} (h:n≤5000):n≤small:=by unfold small;omega
def gd (d:D):Prop:=kd d=true∧szD 72 d=true
theorem for_up {g:WG} {zb:WS} {E:Ex→Prop} {N:Nds} (I:Nat→Rho→Prop) (n:Nat) (h:∀ k,k < n→∀ ρ,I k ρ→∀ nx:Rho→Prop,(∀ ρ,I (k+1) ρ→nx ρ)→g (.int k) ρ fun ρ1=>zb E { nx:=nx,rt:=N.rt,bk:=N.nx,ct:=nx } ρ1) (hn:∀ ρ,I n ρ→N.nx ρ) (ρ:Rho) (h0:I 0 ρ):ZaW g zb E N (rng 0 n) ρ:=by
  refine for_inv (fun ds ρ=>∃ k,k≤n∧ds=(rng 0 n).drop k∧I k ρ) ?_ ?_ _ ρ ⟨0,Nat.zero_le _,by rw [List.drop_zero],h0⟩
  · rintro d ds ρ ⟨k,hk,e,i⟩ nx hnx
    have hlen:(rng 0 n).length=n:=by unfold rng;simp
    have hkn:k < n:=by
      rcases Nat.lt_or_ge k n with z | z
      · exact z
      · rw [List.drop_eq_nil_of_le (by omega)] at e;cases e
    rw [List.drop_eq_getElem_cons (by omega)] at e
    injection e with e1 e2
    have e3:(rng 0 n)[k]'(by omega) = .int k:=by unfold rng;simp
    rw [e1,e3]
    exact h k hkn ρ i nx fun ρ' i'=>hnx ρ' ⟨k+1,hkn,e2,i'⟩
  · rintro ρ ⟨k,hk,e,i⟩
    have hlen:(rng 0 n).length=n:=by unfold rng;simp
    have hkn:k=n:=by
      rcases Nat.lt_or_ge k n with z | z
      · rw [List.drop_eq_getElem_cons (by omega)] at e;cases e
      · omega
    subst hkn
    exact hn ρ i
section
variable {X:Cx}
def gNeS:G2:=fun x y Q=>∃ a b,x = .str a∧y = .str b∧Q (.bl (!(a == b)))
theorem gNeS.mono:∀ x y P P',(∀ d,P d→P' d)→gNeS x y P→gNeS x y P':=fun x y P P' hp ⟨a,b,h1,h2,h3⟩=>⟨a,b,h1,h2,hp _ h3⟩
end
section
variable {X:Cx} {EX:XK} {pos p:Pos} {e:Expr} {target iter elt:Expr} {ifs:List Expr} {wi:WA} {g:WG} {wf:WT} {we:WE} {sc:Scope}
def isC:D→Bool
  | .non=>true
  | .bl _=>true
  | _=>false
def sameC:D→D→Bool
  | .non,.non=>true
  | .bl a,.bl b=>a == b
  | _,_=>false
def gIsC (neg:Bool):G2:=fun x y Q=>isC y=true∧Q (.bl (if neg then !sameC x y else sameC x y))
theorem gIsC.mono {neg:Bool}:∀ x y P P',(∀ d,P d→P' d)→gIsC neg x y P→gIsC neg x y P':=fun _ _ _ _ hp h=>⟨h.1,hp _ h.2⟩
theorem is_plain {K:PySem.W.Frag} {W:Wd} {x y:V} {v u:Value} {dx dy:D} (r1:Rep K W x dx) (r2:Rep K W y dy) (rx:RelV x v) (ry:RelV y u) (h:isC dy=true):plainIs v u=true∧(v == u)=sameC dx dy:=by
  cases r2<;>first
    | (cases h;done)
    | (cases ry;cases r1<;>first
        | (cases rx;first | exact ⟨rfl,rfl⟩ | (rename_i a b;cases a<;>cases b<;>exact ⟨rfl,rfl⟩))
        | (obtain ⟨t,rfl⟩:=rx;exact ⟨rfl,rfl⟩))
theorem o_is:OpP X (compareOp .Is) (gIsC false):=by
  refine ⟨⟨fun x y H Q=>∃ W dx dy,WOk W H∧Rep X.K W x dx∧Rep X.K W y dy∧gIsC false dx dy (RQ X.K W H Q),?_,fun W H x y dx dy Q ok rx ry hg=>⟨W,dx,dy,ok,rx,ry,hg⟩⟩,gIsC.mono⟩
  rintro pins s σ H x y v u Q I rx ry ⟨W,dx,dy,ok,r1,r2,h1,h2⟩
  obtain ⟨p,e⟩:=is_plain r1 r2 rx ry h1
  exact wpAny_is_plain p (fin_bl I (h2.now ok (.bl _)) (by rw [e];rfl))
theorem o_isnot:OpP X (compareOp .IsNot) (gIsC true):=by
  refine ⟨⟨fun x y H Q=>∃ W dx dy,WOk W H∧Rep X.K W x dx∧Rep X.K W y dy∧gIsC true dx dy (RQ X.K W H Q),?_,fun W H x y dx dy Q ok rx ry hg=>⟨W,dx,dy,ok,rx,ry,hg⟩⟩,gIsC.mono⟩
  rintro pins s σ H x y v u Q I rx ry ⟨W,dx,dy,ok,r1,r2,h1,h2⟩
  obtain ⟨p,e⟩:=is_plain r1 r2 rx ry h1
  exact wpAny_isNot_plain p (fin_bl I (h2.now ok (.bl _)) (by rw [e];rfl))
end
mutual
def toR:D→Option PyData
  | .non=>some .none
  | .bl b=>some (.bool b)
  | .int i=>some (.int i)
  | .str x=>some (.str x)
  | .tup xs=>(toRs xs).map .tuple
  | .lst xs=>(toRs xs).map .list
  | .dic=>some (.dict [])
  | _=>none
def toRs:List D→Option (List PyData)
  | []=>some []
  | x::r=>match toR x,toRs r with
    | some a,some b=>some (a::b)
    | _,_=>none
end
mutual
def noL:D→Bool
  | .lst _=>false
  | .tup xs=>noLs xs
  | _=>true
def noLs:List D→Bool
  | []=>true
  | x::r=>noL x && noLs r
end
section
variable {X:Cx} {pins:List (Addr×Obj)} {σ:L2.St} {H:Hp} {s:Shared} {W:Wd}
def gRepR:List D→(D→Prop)→Prop:=fun ds Q=>∃ x p,ds=[x]∧toR x=some p∧p.showable=true∧(p.hasDict=true→noL x=true)∧p.depth≤32∧p.shown.length≤sizeLine∧Q (.str p.shown)
theorem gRepR.mono:∀ ds P P',(∀ d,P d→P' d)→gRepR ds P→gRepR ds P':=fun ds P P' hp ⟨x,p,h1,h2,h3,h4,h5,h6,h7⟩=>⟨x,p,h1,h2,h3,h4,h5,h6,hp _ h7⟩
end
mutual
def bx (b:Nat):D→Nat→Bool
  | .non,_=>true
  | .bl _,_=>true
  | .int i,_=>decide (i.natAbs < 2 ^ 90)
  | .str x,_=>decide (x.cps.size≤4) && x.cps.toList.all fun c=>decide (c < 16 ^ 8)
  | .dic,_=>true
  | .tup xs,n=>decide (0 < n) && decide (xs.length≤b) && bxs b xs (n - 1)
  | .lst xs,n=>decide (0 < n) && decide (xs.length≤b) && bxs b xs (n - 1)
  | .pen,_=>false
  | .cls _,_=>false
  | .exc _,_=>false
  | .ty _,_=>false
  | .scr _,_=>false
def bxs (b:Nat):List D→Nat→Bool
  | [],_=>true
  | x::r,n=>bx b x n && bxs b r n
end
mutual
def noD:D→Bool
  | .dic=>false
  | .tup xs=>noDs xs
  | .lst xs=>noDs xs
  | _=>true
def noDs:List D→Bool
  | []=>true
  | x::r=>noD x && noDs r
end
theorem noLs_iff:∀ {xs:List D},noLs xs=true↔∀ x∈xs,noL x=true
  | []=>by simp [noLs]
  | x::r=>by rw [noLs,Bool.and_eq_true,noLs_iff];simp
theorem noDs_iff:∀ {xs:List D},noDs xs=true↔∀ x∈xs,noD x=true
  | []=>by simp [noDs]
  | x::r=>by rw [noDs,Bool.and_eq_true,noDs_iff];simp
def dl (x:D):Bool:=noL x || noD x
theorem noL_shq (q:Rat):noL (shq q)=true:=rfl
theorem noD_shq (q:Rat):noD (shq q)=true:=rfl
theorem noL_rowq (r:List Rat):noL (rowq r)=true:=by
  unfold rowq
  rw [noL,noLs_iff]
  intro x hx
  obtain ⟨q,_,rfl⟩:=List.mem_map.mp hx
  exact noL_shq q
theorem noD_rowq (r:List Rat):noD (rowq r)=true:=by
  unfold rowq
  rw [noD,noDs_iff]
  intro x hx
  obtain ⟨q,_,rfl⟩:=List.mem_map.mp hx
  exact noD_shq q
def tabq (T:List (List Rat)):D:=.tup (T.map rowq)
def isTb:D→Bool
  | .tup xs=>decide (1≤xs.length) && decide (xs.length≤5) && xs.all (Zey xs.length)
  | _=>false
structure IsT (T:List (List Rat)) (n:Nat):Prop where
  len:T.length=n
  row:∀ r∈T,r.length=n
  n1:1≤n
  n5:n≤5
def SzT (m:Nat) (T:List (List Rat)):Prop:=∀ r∈T,∀ x∈r,Sz m x
section
variable {E:Ex→Prop} {Q:D→Prop} {x y:D}
theorem IsT.tb {T:List (List Rat)} {n:Nat} (h:IsT T n):isTb (tabq T)=true:=by
  have h1:=h.n1
  have h5:=h.n5
  have hl:=h.len
  unfold isTb tabq
  simp only [List.length_map]
  rw [decide_eq_true (by omega),decide_eq_true (by omega)]
  simp only [Bool.true_and,List.all_eq_true]
  intro x hx
  obtain ⟨r,hr,rfl⟩:=List.mem_map.mp hx
  rw [hl,← h.row r hr]
  exact isRow_rowq r
end
namespace B
section
variable {E:Ex→Prop} {Q:D→Prop} {x y:D} {s:List Int} {n k:Nat} {r:List Rat} {a b:Int}
end
end B
namespace B
end B
theorem SzT.mono {m m':Nat} {T:List (List Rat)} (h:SzT m T) (l:m≤m'):SzT m' T:=fun r hr x hx=>(h r hr x hx).mono l
namespace B
end B
namespace B
theorem at3 {a b c:Nat} {k:Nat} (h:k < 3):∃ g:Nat,(g=a∨g=b∨g=c)∧atI [D.int (a:Int),D.int (b:Int),D.int (c:Int)] (k:Int)=some (.int (g:Int)):=by
  have:k=0∨k=1∨k=2:=by omega
  rcases this with rfl | rfl | rfl
  · exact ⟨a,.inl rfl,rfl⟩
  · exact ⟨b,.inr (.inl rfl),rfl⟩
  · exact ⟨c,.inr (.inr rfl),rfl⟩
def gx (n:Nat) (d:D):Prop:=bx 7 d n=true∧dl d=true
theorem dl_tup {xs:List D} (h:(∀ x∈xs,noL x=true)∨∀ x∈xs,noD x=true):dl (.tup xs)=true:=by
  unfold dl
  rw [noL,noD,Bool.or_eq_true,noLs_iff,noDs_iff]
  exact h
end B
namespace B
theorem nm_at {i:Nat} {E:Ex→Prop} {ρ:Rho} {d:D} (h:ρ[i]? = some (.d d)):∀ P:D→Prop,P d→wN i E ρ P:=fun P q=>by unfold wN;rw [h];exact q
end B
end LP
namespace L2
open PySem PySem.Spec PyProof.Rows
theorem draws_sq {κ:Bool} {prog:Program} {w:World} {A:Around} (hh:A.handled=none) (it l:Addr) (hne:l≠it) (xs:Array Value):Draws prog w A it [it,l] xs.size (fun i v=>xs[i]? = some v) (fun i h=>SIt κ h it l i∧SSq κ h l xs) where
  live:=fun _ _ st=>let ⟨o,ho,_⟩:=st.1.obj;⟨o,ho⟩
  frame:=fun _ _ _ st hk=>⟨st.1.keep fun o e=>hk it (by simp) o e,st.2.keep fun o e=>hk l (by simp) o e⟩
  item:=fun i s Q E hi st hQ=>Zc7 st.1 st.2 (x:=xs[i]) (by simp [hi]) fun h' hit' hs'=>hQ _ h' s.toks (by simp [hi]) ⟨hit',st.2.keep fun o e=>hs'.extBut l o hne e⟩ hs'
  done:=fun s Q E st hE=>ZdP hh st.1 st.2 (by simp) hE
theorem draws_end {κ:Bool} {prog:Program} {w:World} {A:Around} (hh:A.handled=none) (it l:Addr) (xs:Array Value) (n:Nat) (hn:xs[n]? = none):Draws prog w A it [it,l] n (fun _ _=>False) (fun j h=>j=n∧SIt κ h it l n∧SSq κ h l xs) where
  live:=fun _ _ st=>let ⟨o,ho,_⟩:=st.2.1.obj;⟨o,ho⟩
  frame:=fun _ _ _ st hk=>⟨st.1,st.2.1.keep fun o e=>hk it (by simp) o e,st.2.2.keep fun o e=>hk l (by simp) o e⟩
  item:=fun i s Q E hi st hQ=>absurd st.1 (Nat.ne_of_lt hi)
  done:=fun s Q E st hE=>ZdP hh st.2.1 st.2.2 hn hE
abbrev eg1 (κ:Bool) (h:Heap) (l:Addr):Heap:=h.push (io κ l)
abbrev eg2 (κ:Bool) (h:Heap) (l:Addr):Heap:=(eg1 κ h l).push { cls:=.type "enumerate",data:=.fields #[.none,.bool false,.ref h.objs.size,rawInt 0,.none,.none] }
theorem meets_enumT (l:Addr) (xs:Array Value) (n:Nat) (dct:Option Addr) (sl:Array (Option Value)) :
    Meets (Builtin.«enumerate.__new__» ⟨[.type "enumerate",.ref l],[]⟩) (fun _ R s=>s.heap.get? l=some { cls:=.type "tuple",dict:=dct,data:=.seq xs n,slots:=sl }∧R (.ok (.ret (.ref (eg1 true s.heap l).objs.size))) { s with heap:=eg2 true s.heap l }):=
  .of_wp fun prog w A R s h=>by
    obtain ⟨hp,g,d,tk,os⟩:=s;obtain ⟨hl,h⟩:=h
    have hsub:=sub_enumerate
    have hT:SSq true (Shared.heap ⟨hp,g,d,tk,os⟩) l xs:=(show Heap.IsTuple _ l xs from ⟨_,hl,rfl,n,rfl⟩)
    wp_walk using AutoSeq1.wpAny_loadPart' hl
    refine wpAny_stack_any fun st=>(wpAny_pure ?_)
    split
    · rename_i c _ _ _ _ _
      cases (c == Value.type "enumerate")<;>(wp_walk using AutoSeq1.wpAny_loadPart' hl,Zeq hT;exact ⟨_,rfl,h⟩)
    · wp_walk using AutoSeq1.wpAny_loadPart' hl,Zeq hT
      exact ⟨_,rfl,h⟩
theorem call_enum {κ:Bool} {prog:Program} {w:World} {A:Around} {E:Value→Shared→Prop} {s:Shared} {l:Addr} {xs:Array Value} {Q:Value→Shared→Prop} (hL:SSq κ s.heap l xs)
    (h:∀ h',IsEnum h' (s.heap.objs.size+1) s.heap.objs.size 0 .none→SIt κ h' s.heap.objs.size l 0→(∀ b o,s.heap.get? b=some o→h'.get? b=some o)→Q (.ref (s.heap.objs.size+1)) { s with heap:=h' }) :
    wpAny (model prog w) A (call (.type "enumerate") [.ref l]) Q E s:=by
  cases κ with
  | false=>exact call_enumerate_list hL fun h' he hi _ hk=>h h' he hi hk
  | true=>
    obtain ⟨⟨c,dct,dt,sl⟩,hl,hc,n,hd⟩:=(show s.heap.IsTuple l xs from hL)
    replace hc:c = .type "tuple" :=hc
    replace hd:dt = .seq xs n:=hd
    subst hc hd
    refine callType_new F.called_enumerate (by decide) (F.typeCall_enumerate_1 _) (F.newCall_enumerate_1 _) (fun obj=>F.args_object_init_2 obj _) F.entry_enumerate_new (meets_enumT l xs n dct sl) ⟨hl,?_⟩
    have hz:(eg1 true s.heap l).objs.size=s.heap.objs.size+1:=Heap.size_push ..
    have g2:(eg2 true s.heap l).get? (eg1 true s.heap l).objs.size=some _:=Heap.get?_push_size _ rfl
    have g1:(eg2 true s.heap l).get? s.heap.objs.size=some _:=Heap.get?_push_of_some _ (Heap.get?_push_size _ rfl)
    show _∧_
    rw [hz] at g2 ⊢
    exact ⟨⟨_,g2,rfl⟩,h _ g2 (io_it g1) fun b o x=>Heap.get?_push_of_some _ (Heap.get?_push_of_some _ x)⟩
def Ite (K:PySem.W.Frag) (κ:Bool) (a:Addr):It:=
  ⟨fun i H=>∃ xs x,Sq K κ H a xs∧xs[i]? = some x,
   fun i H v H'=>∃ p x,v = .ref p∧H p=none∧H'=upd H p (.tup [.int i,x])∧∀ xs,Sq K κ H a xs→xs[i]? = some x,
   fun i H=>∃ xs,Sq K κ H a xs∧xs.length≤i⟩
theorem turn_enum {P:Program} {w:World} {K:PySem.W.Frag} {es:List Expr} {n1:Nat} {ps:Pos} {κ:Bool} (a e it:Addr) (hne:e≠it) :
    Turn P w K (.Tuple es n1 ps) (Ite K κ a) [e,it] e (fun i h=>(∃ old,IsEnum h e it i old)∧SIt κ h it a i) where
  mem:=by simp
  obj:=fun i h ⟨⟨old,q1⟩,q2⟩ c hc=>by
    simp only [List.mem_cons,List.not_mem_nil,or_false] at hc
    rcases hc with rfl | rfl
    · exact ⟨_,q1,fun v e=>by cases e⟩
    · exact q2.obj
  keep:=fun i h h' ⟨⟨old,q1⟩,q2⟩ k=>⟨⟨old,k e (by simp) _ q1⟩,q2.keep fun o x=>k it (by simp) o x⟩
  item:=by
    intro X hP hw hK hc i pins s σ H E I hf ⟨⟨old,q1⟩,q2⟩ hg
    subst hP hw hK
    obtain ⟨xs,x,hx,ex⟩:=hg
    obtain ⟨its,rv,p,hz⟩:=I.sq hx
    obtain ⟨ux,hux,rux⟩:=rv.get ex
    have oe:=I.sq_out hx (hf e (by simp))
    have oi:=I.sq_out hx (hf it (by simp))
    have hi:i < its.toArray.size:=by have:=(List.getElem?_eq_some_iff.mp hux).1;simpa using this
    refine wpAny_pyNext_enum_itemD (draws_sq (κ:=κ) (A:=X.A.in1) (I.ok.hd hc) it a oi its.toArray) q1 ⟨q2,p⟩ hi hne (by simp [hne,Ne.symm oe]) fun y h' tk b1 b2 b3 b4 b5 b6=>⟨_,rfl,?_⟩
    have ey:y=ux:=by
      have:its[i]? = some y:=by simpa using b1
      rw [hux] at this
      exact (Option.some.inj this).symm
    subst ey
    refine wpAny_letOwnedTupleGo_enum (s:={ s with heap:=h',toks:=tk+1 }) b2 fun h2 c1 c2=>?_
    have lt:∀ {c o},s.heap.get? c=some o→c≠s.heap.objs.size:=fun z=>Nat.ne_of_lt (Heap.lt_size z)
    have el:=lt q1
    have up:∀ c o,c∉[e,it]→s.heap.get? c=some o→h2.get? c=some o:=fun c o hc z=>by
      simp only [List.mem_cons,List.not_mem_nil,or_false,not_or] at hc
      exact c2.extBut _ _ hc.1 (b6 c o hc.1 hc.2 z)
    refine ⟨.ref s.heap.objs.size,upd H s.heap.objs.size (.tup [.int i,x]),Inv.turnedN (s:=s) (t':=tk+1) [e,it] I up hf (Nat.le_refl _) ?_,rfl,⟨s.heap.objs.size,x,rfl,I.fresh,rfl,fun xs' h'=>by rw [I.sq_inj h' hx];exact ex⟩,?_,fun c hc=>?_⟩
    · refine ⟨by rw [sizeLine_eq];simp,[.int i tk,y],.cons ⟨_,rfl⟩ (.cons rux .nil),?_⟩
      exact ⟨_,c2.extBut _ _ (Ne.symm el) b4,rfl,_,rfl⟩
    · exact ⟨⟨_,by simpa using c1⟩,b3.1.keep fun o z=>c2.extBut _ o (Ne.symm hne) z⟩
    · have he:∃ o,s.heap.get? c=some o:=by
        simp only [List.mem_cons,List.not_mem_nil,or_false] at hc
        rcases hc with rfl | rfl
        · exact ⟨_,q1⟩
        · obtain ⟨o,z,_⟩:=q2.obj;exact ⟨o,z⟩
      obtain ⟨o,z⟩:=he
      rw [upd_ne (lt z)]
      exact (hf c hc).1
  done:=by
    intro X hP hw hK hc i pins s σ H E I hf ⟨⟨old,q1⟩,q2⟩ hg
    subst hP hw hK
    obtain ⟨xs,hx,en⟩:=hg
    obtain ⟨its,rv,p,hz⟩:=I.sq hx
    have l1:=rv.length
    have oi:=I.sq_out hx (hf it (by simp))
    refine wpAny_pyNext_enum_endD (draws_end (κ:=κ) (A:=X.A.in1) (I.ok.hd hc) it a its.toArray i (by simp;omega)) q1 ⟨rfl,q2,p⟩ fun h' k=>⟨rfl,?_⟩
    refine I.turnedL (t':=s.toks) [e,it] (fun c o hc z=>?_) hf
    simp only [List.mem_cons,List.not_mem_nil,or_false,not_or] at hc
    exact k c o hc.2 z
  self:=fun _ _ _ _ _ st h=>let ⟨⟨_,q⟩,_⟩:=st;wpAny_pyIter_enum q h
theorem two_le (n b:Nat) (h:b=n+1∨b=n):n≤b:=by omega
section
variable {X:Cx}
def iEnum (K:PySem.W.Frag) (ta:TA):TI:=fun σ H R=>ta σ H fun vs H1=>∃ κ a,vs=[.ref a]∧(∃ xs,Sq K κ H1 a xs)∧R (Ite K κ a) H1
theorem pi_enum {a:Expr} {ta:TA} {p pos ps:Pos} {es:List Expr} {n1:Nat} (hg:Gl X "enumerate") (hm:X.mg "enumerate" = none) (ha:PA X [a] ta) (hs:starEach [a] X.env=[(false,eval a X.env)]:=by rfl) :
    PI X (.Tuple es n1 ps) (.Call (.Name "enumerate" p) [a] [] pos) (iEnum X.K ta):=by
  intro pins s σ H R I h
  refine Call_ (ld_blt I hg hm boot_enumerate (PyProof.Rows.callWith_type1 (thn (ha pos pins s σ H _ I h) fun us s1 ⟨vs,H1,I1,r1,q1⟩=>?_) hs rfl))
  obtain ⟨κ,l,rfl,⟨xs,hx⟩,q⟩:=q1
  cases r1 with
  | cons r rr=>
    cases rr
    cases r
    obtain ⟨its,rv,p1,hz⟩:=I1.sq hx
    refine call_enum p1 fun h' a1 a2 k=>wpAny_pyIter_enum (s:={ s1 with heap:=h' }) a1 ?_
    refine ⟨_,[s1.heap.objs.size+1,s1.heap.objs.size],_,_,H1,rfl,I1.kept (t':=s1.toks) k,turn_enum (κ:=κ) l _ _ (Nat.succ_ne_self _),⟨⟨_,a1⟩,a2⟩,fun b hb=>?_,q⟩
    have hb':s1.heap.objs.size≤b:=by
      simp only [List.mem_cons,List.not_mem_nil,or_false] at hb
      exact two_le _ _ hb
    exact I1.fpOk hb' (I1.hok.fresh hb')
theorem call_sum_ints (hc:X.calm=true):CallR X (.builtin "sum") (fun xs H Q=>∃ (p:Addr) (ns:List Int),xs=[.ref p]∧SqL X.K H p (ns.map V.int)∧Q (.int ns.sum) H):=by
  intro pins s σ H xs us Q I r h
  obtain ⟨p,ns,rfl,hq,q⟩:=h
  obtain ⟨u,rfl,ru⟩:=vals1 r
  cases ru
  obtain ⟨its,rv,pl,hz⟩:=I.list hq
  have hits:∃ ps:List (Int×Tok),its=ps.map (fun p=>Value.int p.1 p.2)∧ps.map (·.1)=ns:=by
    clear hz pl hq q
    induction ns generalizing its with
    | nil=>cases rv;exact ⟨[],rfl,rfl⟩
    | cons n ns ih=>
      cases rv with
      | cons r1 r2=>
        obtain ⟨t,rfl⟩:=r1
        obtain ⟨ps,rfl,e⟩:=ih _ r2
        exact ⟨(n,t)::ps,rfl,by rw [List.map_cons,e]⟩
  obtain ⟨ps,rfl,e⟩:=hits
  have hl:s.heap.IsList p (intItems ps.toArray):=by
    have:=pl.isList
    simpa [intItems] using this
  refine sum_intListG (I.ok.hd hc) hl fun h' tk t' k=>⟨.int ns.sum,H,I.kept k,?_,q⟩
  refine ⟨t',?_⟩
  rw [preSum_eq,List.take_of_length_le (by simp),e]
end
end L2
namespace LP
open PySem PySem.Spec PyProof.Rows L2
section
variable {X:Cx} {EX:XK} {pos p p2 ps:Pos} {tg e a b:Expr} {es:List Expr} {w wa wb:WE}
def nums:Nat→List D→List D
  | _,[]=>[]
  | i,x::xs=>.tup [.int i,x]::nums (i+1) xs
theorem nums_len:∀ (i:Nat) (xs:List D),(nums i xs).length=xs.length
  | _,[]=>rfl
  | i,x::xs=>by rw [nums,List.length_cons,List.length_cons,nums_len]
theorem nums_get:∀ (i j:Nat) (xs:List D) (d:D),(nums i xs)[j]? = some d→∃ x,xs[j]? = some x∧d = .tup [.int ((i+j:Nat):Int),x]
  | _,_,[],_,h=>by simp [nums] at h
  | i,0,x::xs,d,h=>by
    rw [nums,List.getElem?_cons_zero] at h
    exact ⟨x,rfl,(Option.some.inj h).symm⟩
  | i,j+1,x::xs,d,h=>by
    rw [nums,List.getElem?_cons_succ] at h
    obtain ⟨y,e1,e2⟩:=nums_get (i+1) j xs d h
    exact ⟨y,by rw [List.getElem?_cons_succ];exact e1,by rw [e2,show i+1+j=i+(j+1) by omega]⟩
def iE (t:WA):WA:=fun E ρ Q=>t E ρ fun ds=>match ds with
  | [x]=>isS (fun xs=>Q (nums 0 xs)) x
  | _=>False
theorem pxi_enum {t:WA} {n1:Nat} (hm:X.mg "enumerate" = none) (ha:PXA X EX [a] t) (hg:Gl X "enumerate" :=by rfl) (hs:starEach [a] X.env=[(false,eval a X.env)]:=by rfl) :
    PXI X EX (.Tuple es n1 ps) (.Call (.Name "enumerate" p) [a] [] pos) (iE t):=by
  obtain ⟨t,q,k⟩:=ha.t
  refine ⟨⟨_,pi_enum hg hm q hs,fun W0 H0 W σ H ρ E R s eo h=>?_⟩,fun E ρ P P' hp h=>ha.mono _ _ _ _ (fun ds hd=>?_) h⟩
  · refine k W0 H0 W σ H ρ E _ s eo (ha.mono _ _ _ _ (fun ds hd vs W1 H1 x1 r1=>?_) h)
    split at hd
    · obtain ⟨v,rfl,rv⟩:=r1.one
      obtain ⟨κ,l,vs,xs,rfl,rr,hd,sq⟩:=rv.sq hd
      refine ⟨κ,l,rfl,⟨vs,sq W1 H1 (fun _ _ z=>z) x1.ok⟩,hd W1 H1 _ x1 fun W2 H2 i g2 p2 ok2=>⟨fun d hd=>?_,fun hi=>?_⟩⟩
      · have s1:=sq W2 H2 g2 ok2
        obtain ⟨x,ex,rfl⟩:=nums_get 0 i xs d hd
        obtain ⟨vx,evx,rvx⟩:=rr.get ex
        refine ⟨⟨vs,vx,s1,evx⟩,fun z H3 hy=>?_⟩
        obtain ⟨q,x',rfl,hq,rfl,e1⟩:=hy
        have e1:=e1 _ s1
        rw [evx] at e1
        cases e1
        have xt:=Ext.put (o:=.tup [.int i,vx]) ok2 hq
        rw [Nat.zero_add]
        exact ⟨_,xt,.tup (by unfold Wd.put;dsimp only;rw [upd_same]) (.cons (.int _) (.cons (xt.rep (rvx.mono g2 p2)) .nil))⟩
      · refine ⟨vs,sq W2 H2 g2 ok2,?_⟩
        rw [rr.length]
        rw [nums_len] at hi
        omega
    · exact hd.elim
  · split at hd
    · exact isS.mono (fun xs h1=>hp _ h1) _ hd
    · exact hd.elim
def gSum:List D→(D→Prop)→Prop:=fun ds Q=>match ds with
  | [.lst xs]=>∃ ns:List Int,xs=its ns∧Q (.int ns.sum)
  | _=>False
theorem c_sum (hc:X.calm=true):CallP X (.builtin "sum") gSum:=by
  refine ⟨⟨_,call_sum_ints hc,fun W H vs ds Q ok r hg=>?_⟩,fun ds P P' hp hg=>?_⟩
  · unfold gSum at hg
    split at hg
    · obtain ⟨ns,rfl,q⟩:=hg
      obtain ⟨v,rfl,rv⟩:=r.one
      obtain ⟨p,us,rfl,h1,rr⟩:=rv.sql ok
      rw [its_vs rr] at h1
      exact ⟨p,ns,rfl,h1,q.now ok (.int _)⟩
    · exact hg.elim
  · unfold gSum at hg ⊢
    split at hg
    · obtain ⟨bs,e,q⟩:=hg;exact ⟨bs,e,hp _ q⟩
    · exact hg.elim
end
theorem bootX_sum:bootBuiltins "sum" = some (.builtin "sum"):=by decide +kernel
end LP
namespace L2
open PySem PySem.Spec PyProof.Rows
section
variable {X:Cx}
end
end L2
namespace LP
open PySem PySem.Spec PyProof.Rows L2
section
variable {X:Cx} {EX:XK} {pos p p1 p2 ps sp1 sp2:Pos} {tg e a b:Expr} {es:List Expr} {w wa wb:WE}
def is2 (Q:D→D→Prop):D→Prop
  | .tup [x,y]=>Q x y
  | _=>False
theorem is2.mono {Q Q':D→D→Prop} (h:∀ x y,Q x y→Q' x y):∀ d,is2 Q d→is2 Q' d:=fun d z=>by
  unfold is2 at z ⊢
  split at z
  · exact h _ _ z
  · exact z.elim
end
end LP
namespace PySem
open Sem (wp)
open AutoSeq1 (wpAny_loadPart')
namespace F
end F
section
variable {prog:Program} {w:World} {A:Around} {E:Value→Shared→Prop} {s:Shared}
def IsRvT (h:Heap) (a t:Addr) (i:Int):Prop:=∃ o,h.get? a=some o∧o.cls = .type "reversed" ∧o.data = .fields #[.ref t,rawInt i]
theorem IsRvT.at {h h':Heap} {a t:Addr} {i:Int} (x:IsRvT h a t i) (e:∀ o,h.get? a=some o→h'.get? a=some o):IsRvT h' a t i:=let ⟨o,ho,r⟩:=x;⟨o,e _ ho,r⟩
end
section
variable {prog:Program} {w:World} {A:Around} {E:Value→Shared→Prop} {s:Shared}
end
end PySem
namespace L2
open PySem PySem.Spec PyProof.Rows
section
variable {X:Cx}
end
end L2
namespace LP
open PySem PySem.Spec PyProof.Rows L2
section
variable {X:Cx} {EX:XK} {pos p p1 p2:Pos} {a:Expr} {w:WE}
end
def sbg (f l:List Rat) (i j k:Nat):Rat:=f.getD (i - k) 0*l.getD (f.length - 1 - j+k) 0
def sbh (f l:List Rat) (i j k:Nat):Rat:=l.getD (i - k - 1) 0*f.getD (f.length - j+k) 0
def sp (f l:List Rat) (i j:Nat):Nat→Rat
  | 0=>0
  | k+1=>if k < min i j then sp f l i j k+sbg f l i j k - sbh f l i j k else sp f l i j k+sbg f l i j k
section
variable {E:Ex→Prop} {Q:D→Prop} {f l:List Rat} {n i j:Nat}
end
abbrev N_minus:List Str:=["one", "other"]
abbrev ps_minus:List Str:=["one", "other"]
def z_minus:WS:=(zRet (wF Zcp (Zab (w2 ZdB (w2 gMul (w2 gIx (wN 0) (wC (D.int (0)))) (w2 gIx (wN 1) (wC (D.int (1))))) (w2 gMul (w2 gIx (wN 1) (wC (D.int (0)))) (w2 gIx (wN 0) (wC (D.int (1)))))) (Zab (w2 gMul (w2 gIx (wN 0) (wC (D.int (1)))) (w2 gIx (wN 1) (wC (D.int (1))))) aNil))))
abbrev N_by:List Str:=["one", "other"]
abbrev ps_by:List Str:=["one", "other"]
def z_by:WS:=(zRet (wF Zcp (Zab (w2 gMul (w2 gIx (wN 0) (wC (D.int (0)))) (w2 gIx (wN 1) (wC (D.int (1))))) (Zab (w2 gMul (w2 gIx (wN 0) (wC (D.int (1)))) (w2 gIx (wN 1) (wC (D.int (0))))) aNil))))
local macro_rules | `(tactic| walk_at "w1")=>`(tactic| simp only [zRet,zIf,zSet,zNx,ZbQ,zPub,zOwn,zFor,ZaI,zPar,zAsg,zApp,Zb6,zInk,ZbE,zNox,ZaO,zTry,wM,Zb9,Zb7,wOrV,Zcr,wAnd,wOr,wNot,wT,wIf,w1,w2,wB,wF,wL,wTup,wCut,ZaA,aB,aLst,Zab,aNil,aLC,Zbz,ZaN,iS,iL,iT,iR1,iR2,iZ,Zbt,ZaL,wN,wC,gN,gTp,Zap,ZaZ,gIxP,Zai,wPen,wBor,tBor,aBor,wIxO,aAdd,aMul,aCut,rho,pub,List.map_cons,List.map_nil,List.length_cons,List.length_nil,List.cons_append,List.nil_append,List.replicate,List.getElem?_cons_zero,List.getElem?_cons_succ,List.set_cons_zero,List.set_cons_succ,Nat.reduceSub,Nat.reduceAdd,List.replicate_succ,List.replicate_zero,true_and,Bool.false_eq_true,if_true,if_false,ite_true,ite_false,Int.toNat_natCast,Bool.not_true,Bool.not_false,
  Zdk,Zdj,Zdi,Zb5,Zb4,Zdh,Zb0,ZbY,ZbZ,Zb2,Zb1,Zb3,Zb,Zbc,Zba,Zbb,Zbe,Zbd,Zbf,ZbR,ZbU,ZbS,ZbT,ZbW,ZbV,ZbX,Zbi,Zbl,Zbj,Zbk,Zbn,Zbm,Zbo,Za3,Za5,Za4,Za7,Za6,Za0,Za1,Za2,Zau,Zav,Zaw,Zbr,Zbq,Zbp,Za9,Za8,e_I2,Zdm,Zdg,Zbh,Zbg,Zdl,e_i1,e_i2])
local macro_rules | `(tactic| walk_at "st")=>`(tactic| ((try dsimp only at *);(try walk_at "w1");(try dsimp only)))
local macro_rules | `(tactic| walk_at "nx")=>`(tactic| ((try dsimp only);(refine Zaj ?_);walk_at "st"))
namespace B
end B
theorem rd_minus:∀ ds E Q,S_minus ds E Q→z_minus E { nx:=fun _=>Q .non,rt:=Q } (rho N_minus ds):=by
  rintro _ E Q ⟨⟨p,q⟩,rfl,hb,h⟩
  obtain ⟨b1,b2,b3,b4,b5,b6,b7,b8⟩:=hb.mul
  unfold z_minus
  simp only [zRet,wF,Zab,w2,wN,wC,rho,List.map_cons,List.cons_append,List.getElem?_cons_zero,List.getElem?_cons_succ]
  refine ix0 (ix1 ⟨b1,ix0 (ix1 ⟨b2,?_⟩)⟩)
  dsimp only
  simp only [e_I2,true_and]
  refine ix1 (ix1 ⟨b3,?_⟩)
  refine ⟨(_,_),rfl,⟨b6,b5⟩,?_⟩
  dsimp only at h ⊢
  have e:Rat.divInt (p.num*q.den - q.num*p.den) ((p.den:Int)*q.den)=p - q:=by
    rw [Rat.sub_def',← Rat.divInt_ofNat]
    rfl
  rw [e]
  exact h
theorem rd_by:∀ ds E Q,S_by ds E Q→z_by E { nx:=fun _=>Q .non,rt:=Q } (rho N_by ds):=by
  rintro _ E Q ⟨⟨p,q⟩,rfl,⟨hb,h0⟩,h⟩
  dsimp only at hb h0 h
  obtain ⟨b1,b2,b3,b4,b5,b6,b7,b8⟩:=hb.mul
  unfold z_by
  simp only [zRet,wF,Zab,w2,wN,wC,rho,List.map_cons,List.cons_append,List.getElem?_cons_zero,List.getElem?_cons_succ]
  refine ix0 (ix1 ⟨b1,ix1 (ix0 ⟨b7,?_⟩)⟩)
  have hq:q.num≠0:=fun z=>h0 (Rat.num_eq_zero.mp z)
  refine ⟨(_,_),rfl,⟨Int.mul_ne_zero (by exact_mod_cast p.den_nz) hq,b8⟩,?_⟩
  dsimp only at h ⊢
  have e:Rat.divInt (p.num*q.den) ((p.den:Int)*q.num)=p / q:=by
    rw [Rat.div_def,Rat.inv_def]
    have:p*Rat.divInt (q.den:Int) q.num=Rat.divInt p.num p.den*Rat.divInt (q.den:Int) q.num:=by rw [Rat.num_divInt_den]
    rw [this,Rat.divInt_mul_divInt]
  rw [e]
  exact h
theorem deq_shq (p q:Rat):deq (shq p) (shq q)=decide (p=q):=by
  unfold shq
  rw [deq_pair,Bool.eq_iff_iff]
  simp only [Bool.and_eq_true,beq_iff_eq,decide_eq_true_eq]
  constructor
  · rintro ⟨h1,h2⟩
    exact Rat.ext h1 (by exact_mod_cast h2)
  · rintro rfl
    exact ⟨rfl,rfl⟩
theorem shq_zero:shq 0 = .tup [.int 0,.int 1]:=rfl
namespace B.C
def gr (t:List (List Int)) (k:Nat):List Int:=t.getD k []
structure Sm (b n:Nat) (t:List (List Int)):Prop where
  len:t.length=n
  row:∀ r∈t,r.length=n
  sm:∀ r∈t,∀ x∈r,x.natAbs < 2 ^ b
theorem Sm.up {b c n:Nat} {t:List (List Int)} (h:Sm b n t) (l:b≤c):Sm c n t:=⟨h.len,h.row,fun r hr x hx=>Nat.lt_of_lt_of_le (h.sm r hr x hx) (Nat.pow_le_pow_right (by decide) l)⟩
theorem Sm.gr {b n k:Nat} {t:List (List Int)} (h:Sm b n t) (hk:k < n):t[k]? = some (gr t k)∧(C.gr t k).length=n∧∀ x∈C.gr t k,x.natAbs < 2 ^ b:=by
  have e:=h.len
  have:t[k]? = some (C.gr t k):=by unfold C.gr;rw [List.getD_eq_getElem?_getD,List.getElem?_eq_getElem (by omega)];rfl
  have hm:=List.mem_of_getElem? this
  exact ⟨this,h.row _ hm,h.sm _ hm⟩
end B.C
namespace B.C
end B.C
namespace B.C
end B.C
theorem for_lo {g:WG} {zb:WS} {E:Ex→Prop} {N:Nds} (lo:Int) (I:Nat→Rho→Prop) (n:Nat) (h:∀ k,k < n→∀ ρ,I k ρ→∀ nx:Rho→Prop,(∀ ρ,I (k+1) ρ→nx ρ)→g (.int (lo+k)) ρ fun ρ1=>zb E { nx:=nx,rt:=N.rt,bk:=N.nx,ct:=nx } ρ1) (hn:∀ ρ,I n ρ→N.nx ρ) (ρ:Rho) (h0:I 0 ρ):ZaW g zb E N (rng lo n) ρ:=by
  refine for_inv (fun ds ρ=>∃ k,k≤n∧ds=(rng lo n).drop k∧I k ρ) ?_ ?_ _ ρ ⟨0,Nat.zero_le _,by rw [List.drop_zero],h0⟩
  · rintro d ds ρ ⟨k,hk,e,i⟩ nx hnx
    have hlen:(rng lo n).length=n:=by unfold rng;simp
    rcases Nat.lt_or_ge k n with hkn | hkn
    · rw [List.drop_eq_getElem_cons (by omega)] at e
      injection e with e1 e2
      have e3:d = .int (lo+k):=by rw [e1];unfold rng;simp
      rw [e3]
      exact h k hkn ρ i nx fun ρ' i'=>hnx ρ' ⟨k+1,by omega,e2,i'⟩
    · rw [List.drop_eq_nil_of_le (by omega)] at e
      cases e
  · rintro ρ ⟨k,hk,e,i⟩
    have hlen:(rng lo n).length=n:=by unfold rng;simp
    have:k=n:=by
      have:=congrArg List.length e
      rw [List.length_drop,hlen] at this
      simp at this
      omega
    subst this
    exact hn ρ i
theorem lc_flt {α:Type} {wf:WT} {tail:Rho} {Q:List D→Prop} {g:α→D} {p:α→Bool}:∀ (L:List α),(∀ a∈L,∀ P:Bool→Prop,P (p a)→wf No (.d (g a)::tail) P)→∀ (sv:SV) (acc:List D),acc.length+L.length≤small→Q (acc++(L.filter p).map g)→lcW (gN 0) wf (wN 0) (L.map g) (sv::tail) acc Q
  | [],_,sv,acc,_,hq=>by simpa [lcW] using hq
  | a::L,h,sv,acc,hl,hq=>by
    rw [List.map_cons,lcW]
    show wf No (SV.d (g a)::tail) _
    rw [List.length_cons] at hl
    refine h a (by simp) _ ?_
    cases e:p a with
    | true=>
      rw [if_pos rfl]
      refine ⟨by omega,lc_flt L (fun b hb=>h b (by simp [hb])) _ _ (by rw [List.length_append,List.length_singleton];omega) ?_⟩
      rw [List.filter_cons_of_pos e,List.map_cons] at hq
      rw [List.append_assoc]
      exact hq
    | false=>
      rw [if_neg (by decide)]
      refine lc_flt L (fun b hb=>h b (by simp [hb])) _ _ (by omega) ?_
      rw [List.filter_cons_of_neg (by rw [e];decide)] at hq
      exact hq
namespace B.C
theorem own_by {i:Nat} {t:WA} {E:Ex→Prop} {N:Nds} {ρ ρ':Rho} {xs:List D} (e:ρ.set i (.ow xs)=ρ') (ht:∀ P:List D→Prop,P xs→t E ρ P) (h:N.nx ρ'):zOwn i t E N ρ:=ht _ (by rw [e];exact h)
theorem pub_by {i:Nat} {z:WS} {E:Ex→Prop} {N:Nds} {ρ ρ':Rho} (e:pub i ρ=ρ') (h:z E N ρ'):zPub i z E N ρ:=by unfold zPub;rw [e];exact h
theorem ixN_nat {n k:Nat} (h:k < n):ixN n (k:Int)=some k:=by
  unfold ixN
  rw [if_pos (by omega),if_pos (by omega),Int.toNat_natCast]
end B.C
namespace B.C
section
variable {E:Ex→Prop} {Q:D→Prop} {f l:List Rat} {n m k:Nat} {a x y:Rat}
end
end B.C
namespace B.C
end B.C
namespace B.C
end B.C
namespace B.C
end B.C
namespace B.C
end B.C
namespace B.C
end B.C
end LP
set_option exponentiation.threshold 400
namespace LP
open PySem PySem.Spec PyProof.Rows L2
namespace B.C
mutual
def bx (b:Nat):D→Nat→Bool
  | .non,_=>true
  | .bl _,_=>true
  | .int i,_=>decide (i.natAbs < 2 ^ 300)
  | .str x,_=>decide (x.cps.size≤4) && x.cps.toList.all fun c=>decide (c < 16 ^ 8)
  | .dic,_=>true
  | .tup xs,n=>decide (0 < n) && decide (xs.length≤b) && bxs b xs (n - 1)
  | .lst xs,n=>decide (0 < n) && decide (xs.length≤b) && bxs b xs (n - 1)
  | .pen,_=>false
  | .cls _,_=>false
  | .exc _,_=>false
  | .ty _,_=>false
  | .scr _,_=>false
def bxs (b:Nat):List D→Nat→Bool
  | [],_=>true
  | x::r,n=>bx b x n && bxs b r n
end
theorem bxs_iff {b:Nat}:∀ {xs:List D} {n:Nat},bxs b xs n=true↔∀ x∈xs,bx b x n=true
  | [],_=>by simp [bxs]
  | x::r,n=>by rw [bxs,Bool.and_eq_true,bxs_iff];simp
mutual
theorem bx_mono {b:Nat}:∀ (x:D) {n m:Nat},n≤m→bx b x n=true→bx b x m=true
  | .non,_,_,_,h=>h
  | .bl _,_,_,_,h=>h
  | .int _,_,_,_,h=>h
  | .str _,_,_,_,h=>h
  | .dic,_,_,_,h=>h
  | .tup xs,n,m,l,h=>by
    rw [bx,Bool.and_eq_true,Bool.and_eq_true,decide_eq_true_eq,decide_eq_true_eq] at h ⊢
    exact ⟨⟨by omega,h.1.2⟩,bxs_mono xs (by omega) h.2⟩
  | .lst xs,n,m,l,h=>by
    rw [bx,Bool.and_eq_true,Bool.and_eq_true,decide_eq_true_eq,decide_eq_true_eq] at h ⊢
    exact ⟨⟨by omega,h.1.2⟩,bxs_mono xs (by omega) h.2⟩
  | .pen,n,_,_,h=>by rw [bx] at h;cases h
  | .cls _,n,_,_,h=>by rw [bx] at h;cases h
  | .exc _,n,_,_,h=>by rw [bx] at h;cases h
  | .ty _,n,_,_,h=>by rw [bx] at h;cases h
  | .scr _,n,_,_,h=>by rw [bx] at h;cases h
theorem bxs_mono {b:Nat}:∀ (xs:List D) {n m:Nat},n≤m→bxs b xs n=true→bxs b xs m=true
  | [],_,_,_,_=>by rw [bxs]
  | x::r,n,m,l,h=>by
    rw [bxs,Bool.and_eq_true] at h ⊢
    exact ⟨bx_mono x l h.1,bxs_mono r l h.2⟩
end
theorem bx_tup {b n:Nat} {xs:List D} (hl:xs.length≤b) (h:∀ x∈xs,bx b x n=true):bx b (.tup xs) (n+1)=true:=by
  rw [bx,decide_eq_true hl,decide_eq_true (Nat.succ_pos n),bxs_iff.mpr (by simpa using h)];rfl
theorem bx_shq {b n:Nat} {q:Rat} (hb:2≤b) (h:Sz 223 q):bx b (shq q) (n+1)=true:=by
  unfold shq
  refine bx_tup hb fun x hx=>?_
  simp only [List.mem_cons,List.not_mem_nil,or_false] at hx
  have h1:q.num.natAbs < 2 ^ 300:=Nat.lt_trans h.1 (by decide)
  have h2:(q.den:Int).natAbs < 2 ^ 300:=Nat.lt_trans (by simpa using h.2) (by decide:2 ^ 223 < 2 ^ 300)
  rcases hx with rfl | rfl
  · rw [bx,decide_eq_true h1]
  · rw [bx,decide_eq_true h2]
theorem bx_rowq {b n:Nat} {r:List Rat} (hb:2≤b) (hl:r.length≤b) (h:∀ x∈r,Sz 223 x):bx b (rowq r) (n+2)=true:=by
  unfold rowq
  refine bx_tup (by simpa using hl) fun x hx=>?_
  obtain ⟨q,hq,rfl⟩:=List.mem_map.mp hx
  exact bx_shq hb (h q hq)
end B.C
namespace B
section
variable {E:Ex→Prop} {Q:D→Prop} {x y z:D} {s:List Int} {n k:Nat} {r p:List Rat}
end
end B
namespace B
end B
local macro_rules | `(tactic| walk_at "w1")=>`(tactic| simp only [zRet,zIf,zSet,zNx,ZbQ,zPub,zOwn,zFor,ZaI,zPar,zAsg,zApp,Zb6,zInk,ZbE,zNox,ZaO,zTry,wM,Zb9,Zb7,wOrV,Zcr,wAnd,wOr,wNot,wT,wIf,w1,w2,wB,wF,wL,wTup,wCut,ZaA,aB,aLst,Zab,aNil,aLC,Zbz,ZaN,iS,iL,iT,iR1,iR2,iZ,Zbt,ZaL,wN,wC,gN,gTp,Zap,ZaZ,gIxP,Zai,wPen,wBor,tBor,aBor,wIxO,aAdd,aMul,aCut,rho,pub,List.map_cons,List.map_nil,List.length_cons,List.length_nil,List.cons_append,List.nil_append,List.replicate,List.getElem?_cons_zero,List.getElem?_cons_succ,List.set_cons_zero,List.set_cons_succ,Nat.reduceSub,Nat.reduceAdd,List.replicate_succ,List.replicate_zero,true_and,Bool.false_eq_true,if_true,if_false,ite_true,ite_false,Int.toNat_natCast,Bool.not_true,Bool.not_false,
  Zdk,Zdj,Zdi,Zb5,Zb4,Zdh,Zb0,ZbY,ZbZ,Zb2,Zb1,Zb3,Zb,Zbc,Zba,Zbb,Zbe,Zbd,Zbf,ZbR,ZbU,ZbS,ZbT,ZbW,ZbV,ZbX,Zbi,Zbl,Zbj,Zbk,Zbn,Zbm,Zbo,Za3,Za5,Za4,Za7,Za6,Za0,Za1,Za2,Zau,Zav,Zaw,Zbr,Zbq,Zbp,Za9,Za8,e_I2,Zdm,Zdg,Zbh,Zbg,Zdl,e_i1,e_i2])
local macro_rules | `(tactic| walk_at "st")=>`(tactic| ((try dsimp only at *);(try walk_at "w1");(try dsimp only)))
local macro_rules | `(tactic| walk_at "nx")=>`(tactic| ((try dsimp only);(refine Zaj ?_);walk_at "st"))
namespace B
end B
end LP
namespace L2
open PySem PySem.Spec PyProof.Rows
section
variable {X:Cx} {CX:CXT} {E:XK} {pos:Pos} {c e:Expr} {es:List Expr} {tc:TE} {t:TA}
end
end L2
namespace LP
open PySem PySem.Spec PyProof.Rows L2
section
variable {X:Cx} {EX:XK} {pos:Pos} {c e:Expr} {es:List Expr} {wc:WE} {t:WA} {j:Nat}
def wSel (Ss:List (Str×Zaq)) (wc:WE) (t:WA):WE:=fun E ρ Q=>wc E ρ fun d=>∃ x∈Ss,d = .cls x.1∧t E ρ fun ds=>x.2 ds E Q
end
section
variable {X:Cx}
def gEqS:G2:=fun x y Q=>∃ a b,x = .str a∧y = .str b∧Q (.bl (a == b))
theorem gEqS.mono:∀ x y P P',(∀ d,P d→P' d)→gEqS x y P→gEqS x y P':=fun x y P P' hp ⟨a,b,h1,h2,h3⟩=>⟨a,b,h1,h2,hp _ h3⟩
end
local macro_rules | `(tactic| walk_at "w1")=>`(tactic| simp only [zRet,zIf,zSet,zNx,ZbQ,zPub,zOwn,zFor,ZaI,zPar,zAsg,zApp,Zb6,zInk,ZbE,zNox,ZaO,zTry,wM,Zb9,Zb7,wOrV,Zcr,wAnd,wOr,wNot,wT,wIf,w1,w2,wB,wF,wL,wTup,wCut,ZaA,aB,aLst,Zab,aNil,aLC,Zbz,ZaN,iS,iL,iT,iR1,iR2,iZ,Zbt,ZaL,wN,wC,gN,gTp,Zap,ZaZ,gIxP,Zai,wPen,wBor,tBor,aBor,wIxO,aAdd,aMul,aCut,rho,pub,List.map_cons,List.map_nil,List.length_cons,List.length_nil,List.cons_append,List.nil_append,List.replicate,List.getElem?_cons_zero,List.getElem?_cons_succ,List.set_cons_zero,List.set_cons_succ,Nat.reduceSub,Nat.reduceAdd,List.replicate_succ,List.replicate_zero,true_and,Bool.false_eq_true,if_true,if_false,ite_true,ite_false,Int.toNat_natCast,Bool.not_true,Bool.not_false,
  Zdk,Zdj,Zdi,Zb5,Zb4,Zdh,Zb0,ZbY,ZbZ,Zb2,Zb1,Zb3,Zb,Zbc,Zba,Zbb,Zbe,Zbd,Zbf,ZbR,ZbU,ZbS,ZbT,ZbW,ZbV,ZbX,Zbi,Zbl,Zbj,Zbk,Zbn,Zbm,Zbo,Za3,Za5,Za4,Za7,Za6,Za0,Za1,Za2,Zau,Zav,Zaw,Zbr,Zbq,Zbp,Za9,Za8,e_I2,Zdm,Zdg,Zbh,Zbg,Zdl,e_i1,e_i2])
local macro_rules | `(tactic| walk_at "st")=>`(tactic| ((try dsimp only at *);(try walk_at "w1");(try dsimp only)))
local macro_rules | `(tactic| walk_at "nx")=>`(tactic| ((try dsimp only);(refine Zaj ?_);walk_at "st"))
namespace B
end B
namespace B.C
section
variable {E:Ex→Prop} {Q:D→Prop} {x y:D} {f l:List Rat} {t:List (List Int)}
end
end B.C
namespace B.C
end B.C
namespace B.C
end B.C
namespace B.C
def okp (d:D):Prop:=∃ a b,d = .tup [a,b]∧bx 7 a 3=true∧bx 7 b 3=true∧dl (.tup [a,b])=true
theorem okp.of {a b:D} (h1:bx 7 a 3=true) (h2:bx 7 b 3=true) (h3:dl (.tup [a,b])=true):okp (.tup [a,b]):=⟨a,b,rfl,h1,h2,h3⟩
theorem dl_both {a b:D} (h1:noL a=true) (h2:noD a=true) (h:dl b=true):dl (.tup [a,b])=true∧dl (.tup [b,a])=true:=by
  refine ⟨dl_tup ?_,dl_tup ?_⟩<;>(
    rcases Bool.or_eq_true_iff.mp (show (noL b || noD b)=true from h) with e | e
    · refine .inl fun x hx=>?_
      simp only [List.mem_cons,List.not_mem_nil,or_false] at hx
      rcases hx with rfl | rfl<;>assumption
    · refine .inr fun x hx=>?_
      simp only [List.mem_cons,List.not_mem_nil,or_false] at hx
      rcases hx with rfl | rfl<;>assumption)
theorem dl_rowq (r:List Rat):dl (rowq r)=true:=by unfold dl;rw [noL_rowq];rfl
theorem bx_row {r:List Rat} (h:r.length≤7) (hs:∀ x∈r,Sz 223 x):bx 7 (rowq r) 3=true:=bx_mono _ (n:=2) (by decide) (bx_rowq (by decide) h hs)
theorem okp.rows {p r:List Rat} (h1:p.length≤7) (h2:r.length≤7) (s1:∀ x∈p,Sz 223 x) (s2:∀ x∈r,Sz 223 x):okp (.tup [rowq p,rowq r]):=.of (bx_row h1 s1) (bx_row h2 s2) (dl_both (noL_rowq _) (noD_rowq _) (dl_rowq _)).1
end B.C
namespace B.C
end B.C
namespace B.C
end B.C
section
variable {E:Ex→Prop} {Q:D→Prop} {x y:D} {s:List Int} {n k:Nat} {r:List Rat}
end
namespace B.C.E
section
variable {E:Ex→Prop} {Q:D→Prop} {x y:D} {s:List Int} {n k:Nat} {r:List Rat} {S T:List (List Rat)}
end
end B.C.E
namespace B.C.E
end B.C.E
theorem ZdK (n k:Nat):(unit n k).length=n:=by unfold unit;rw [List.length_map,List.length_range]
def lesF (a:List Rat) (s:Rat) (c:List Rat):List Rat:=List.zipWith (fun l r=>l - s*r) a c
def byF (a:List Rat) (s:Rat):List Rat:=a.map fun x=>x / s
def firF:List (List Rat)→Nat→Option Nat
  | [],_=>none
  | r::R,p=>if r.getD p 0=0 then (firF R p).map (· + 1) else some 0
def witF (R:List (List Rat)) (lead:List Rat) (p:Nat):List (List Rat):=R.map fun r=>lesF r (r.getD p 0) lead
structure Cl where
  ld:List (List Rat)
  pl:List Nat
  rs:List (List Rat)
def Zdf (R:List (List Rat)) (a p:Nat):List Rat:=byF (R.getD a []) ((R.getD a []).getD p 0)
def clS (p:Nat) (x:Cl):Cl:=match firF x.rs p with
  | none=>x
  | some a=>⟨witF x.ld (Zdf x.rs a p) p++[Zdf x.rs a p],x.pl++[p],witF (x.rs.take a++x.rs.drop (a+1)) (Zdf x.rs a p) p⟩
def clR (R:List (List Rat)):Nat→Cl
  | 0=>⟨[],[],R⟩
  | p+1=>clS p (clR R p)
structure Lf (b m:Nat) (row:List Rat):Prop where
  ex:∃ (c:List Int) (e:Int),c.length=m∧e≠0∧e.natAbs < 2 ^ b∧(∀ x∈c,x.natAbs < 2 ^ b)∧row=c.map fun x=>Rat.divInt x e
theorem Lf.len {b m:Nat} {row:List Rat} (h:Lf b m row):row.length=m:=by
  obtain ⟨c,e,h1,_,_,_,rfl⟩:=h.ex
  rw [List.length_map];exact h1
theorem Lf.mono {b b' m:Nat} {row:List Rat} (l:b≤b') (h:Lf b m row):Lf b' m row:=by
  obtain ⟨c,e,h1,h2,h3,h4,h5⟩:=h.ex
  have p:2 ^ b≤2 ^ b':=Nat.pow_le_pow_right (by decide) l
  exact ⟨c,e,h1,h2,Nat.lt_of_lt_of_le h3 p,fun x hx=>Nat.lt_of_lt_of_le (h4 x hx) p,h5⟩
theorem Lf.sz {b m:Nat} {row:List Rat} (h:Lf b m row):∀ x∈row,Sz b x:=by
  obtain ⟨c,e,h1,h2,h3,h4,rfl⟩:=h.ex
  intro x hx
  obtain ⟨y,hy,rfl⟩:=List.mem_map.mp hx
  exact divInt_sz h2 (h4 y hy) h3
theorem Lf.get {b m k:Nat} {row:List Rat} (h:Lf b m row) (hk:k < m):row[k]? = some (row.getD k 0)∧Sz b (row.getD k 0):=by
  have e:row[k]? = some (row.getD k 0):=by rw [List.getD_eq_getElem?_getD,List.getElem?_eq_getElem (by rw [h.len];exact hk)];rfl
  exact ⟨e,h.sz _ (List.mem_of_getElem? e)⟩
theorem Lf.int {b:Nat} {c:List Int} (hb:0 < b) (h:∀ x∈c,x.natAbs < 2 ^ b):Lf b c.length (Zan c):=by
  refine ⟨c,1,rfl,by decide,?_,h,?_⟩
  · show 1 < 2 ^ b
    exact Nat.one_lt_two_pow (by omega)
  · unfold Zan
    exact List.map_congr_left fun x _=>by have:=Rat.num_divInt_den (x:Rat);rw [Rat.num_intCast,Rat.den_intCast] at this;exact this.symm
theorem divInt_ne {c e:Int} (he:e≠0):Rat.divInt c e≠0↔c≠0:=by
  constructor
  · rintro h rfl
    exact h (Rat.zero_divInt e)
  · intro h z
    have e1:Rat.divInt c e*Rat.divInt e c=1:=by
      rw [Rat.divInt_mul_divInt,Int.mul_comm e c]
      have:=Rat.divInt_mul_right (n:=1) (d:=1) (Int.mul_ne_zero h he)
      rw [Int.one_mul] at this
      rw [this]
      rfl
    rw [z,Rat.zero_mul] at e1
    exact absurd e1 (by decide)
theorem Lf.norm {b m p:Nat} {row:List Rat} (h:Lf b m row) (hp:p < m) (h0:row.getD p 0≠0):Lf b m (byF row (row.getD p 0)):=by
  obtain ⟨c,e,h1,h2,h3,h4,rfl⟩:=h.ex
  have hc:c[p]? = some (c.getD p 0):=by rw [List.getD_eq_getElem?_getD,List.getElem?_eq_getElem (by omega)];rfl
  have eg:(c.map fun x=>Rat.divInt x e).getD p 0=Rat.divInt (c.getD p 0) e:=by
    rw [List.getD_eq_getElem?_getD,List.getElem?_map,hc];rfl
  rw [eg] at h0 ⊢
  have hc0:c.getD p 0≠0:=(divInt_ne h2).mp h0
  refine ⟨c,c.getD p 0,h1,hc0,h4 _ (List.mem_of_getElem? hc),h4,?_⟩
  unfold byF
  rw [List.map_map]
  refine List.map_congr_left fun x _=>?_
  show Rat.divInt x e / (Rat.divInt (c.getD p 0) e)=Rat.divInt x (c.getD p 0)
  rw [Rat.div_def,Rat.inv_divInt,Rat.divInt_mul_divInt _ _ ,Int.mul_comm e]
  exact Rat.divInt_mul_right h2
theorem les_num {b:Nat} {w x y z:Int} (h1:w.natAbs < 2 ^ b) (h2:x.natAbs < 2 ^ b) (h3:y.natAbs < 2 ^ b) (h4:z.natAbs < 2 ^ b):(w*x - y*z).natAbs < 2 ^ (2*b+1):=by
  have m1:(w*x).natAbs < 2 ^ b*2 ^ b:=by rw [Int.natAbs_mul];exact Nat.mul_lt_mul'' h1 h2
  have m2:(y*z).natAbs < 2 ^ b*2 ^ b:=by rw [Int.natAbs_mul];exact Nat.mul_lt_mul'' h3 h4
  have:=Int.natAbs_sub_le (w*x) (y*z)
  rw [Nat.pow_succ,show 2*b=b+b by omega,Nat.pow_add]
  omega
theorem Lf.less {b m p:Nat} {row piv:List Rat} (h:Lf b m row) (hq:Lf b m piv) (hp:p < m):Lf (2*b+1) m (lesF row (row.getD p 0) piv):=by
  obtain ⟨c,e,h1,h2,h3,h4,rfl⟩:=h.ex
  obtain ⟨d,f,g1,g2,g3,g4,rfl⟩:=hq.ex
  have hc:c[p]? = some (c.getD p 0):=by rw [List.getD_eq_getElem?_getD,List.getElem?_eq_getElem (by omega)];rfl
  have eg:(c.map fun x=>Rat.divInt x e).getD p 0=Rat.divInt (c.getD p 0) e:=by
    rw [List.getD_eq_getElem?_getD,List.getElem?_map,hc];rfl
  rw [eg]
  have bc:(c.getD p 0).natAbs < 2 ^ b:=h4 _ (List.mem_of_getElem? hc)
  refine ⟨List.zipWith (fun x y=>x*f - c.getD p 0*y) c d,e*f,by rw [List.length_zipWith];omega,Int.mul_ne_zero h2 g2,?_,fun z hz=>?_,?_⟩
  · rw [Int.natAbs_mul,Nat.pow_succ,show 2*b=b+b by omega,Nat.pow_add]
    have:=Nat.mul_lt_mul'' h3 g3
    omega
  · obtain ⟨i,hi,e1⟩:=List.mem_iff_getElem.mp hz
    rw [List.getElem_zipWith] at e1
    rw [← e1]
    exact les_num (h4 _ (List.getElem_mem _)) g3 bc (g4 _ (List.getElem_mem _))
  · unfold lesF
    rw [List.zipWith_map,List.map_zipWith]
    refine congrArg (fun g=>List.zipWith g c d) ?_
    funext x y
    rw [Rat.divInt_mul_divInt,Rat.divInt_sub_divInt _ _ h2 (Int.mul_ne_zero h2 g2)]
    rw [show x*(e*f) - c.getD p 0*y*e=(x*f - c.getD p 0*y)*e by grind,Int.mul_comm e (e*f)]
    exact (Rat.divInt_mul_right h2)
def bq (b:Nat):Nat→Nat
  | 0=>b
  | k+1=>2*bq b k+1
theorem Zej {b:Nat}:∀ {k k':Nat},k≤k'→bq b k≤bq b k'
  | k,0,h=>by rw [Nat.le_zero.mp h];exact Nat.le_refl _
  | k,k'+1,h=>by
    by_cases e:k=k'+1
    · rw [e];exact Nat.le_refl _
    · have:=Zej (b:=b) (k:=k) (k':=k') (by omega)
      rw [bq];omega
theorem ZeA:∀ {R:List (List Rat)} {p a:Nat},firF R p=some a→a < R.length∧(R.getD a []).getD p 0≠0
  | [],_,_,h=>nomatch h
  | r::R,p,a,h=>by
    rw [firF] at h
    split at h
    · cases e:firF R p with
      | none=>rw [e] at h;cases h
      | some b=>
        rw [e] at h
        have h':b+1=a:=by simpa using h
        subst h'
        obtain ⟨h1,h2⟩:=ZeA e
        exact ⟨by simpa using h1,by simpa using h2⟩
    · rename_i h0
      have h':0=a:=by simpa using h
      subst h'
      exact ⟨by simp,by simpa using h0⟩
theorem ZfL {R:List (List Rat)} {a:Nat} (h:a < R.length):R.getD a []∈R:=by
  rw [List.getD_eq_getElem?_getD,List.getElem?_eq_getElem h]
  exact List.getElem_mem _
theorem mem_cut {α:Type} {R:List α} {a:Nat} {r:α} (h:r∈R.take a++R.drop (a+1)):r∈R:=by
  rcases List.mem_append.mp h with h | h
  · exact List.mem_of_mem_take h
  · exact List.mem_of_mem_drop h
def Zat (R:List (List Rat)):D:=.lst (R.map rowq)
def natsL (xs:List Nat):D:=.lst (xs.map fun (k:Nat)=>D.int (k:Int))
def optI:Option Nat→D
  | none=>.non
  | some a=>.int (a:Int)
def Rz (b w:Nat) (R:List (List Rat)):Prop:=∀ r∈R,r.length=w∧∀ x∈r,Sz b x
def Zfj:Zaq:=fnS (fun x:Nat×List Rat×Rat=>[rowq x.2.1,shq x.2.2]) (fun x=>2*x.1 < 8990∧x.2.1.length≤1000∧(∀ y∈x.2.1,Sz x.1 y)∧Sz x.1 x.2.2∧x.2.2≠0) fun x=>rowq (byF x.2.1 x.2.2)
def ZdS:Zaq:=fnS (fun x:(Nat×Rat)×List Rat×List Rat=>[rowq x.2.1,shq x.1.2,rowq x.2.2]) (fun x=>3*x.1.1 < 8990∧x.2.1.length≤1000∧(∀ y∈x.2.1,Sz x.1.1 y)∧Sz x.1.1 x.1.2∧∀ y∈x.2.2,Sz x.1.1 y) fun x=>rowq (lesF x.2.1 x.1.2 x.2.2)
def ZcL:Zaq:=fnS (fun x:Nat×List (List Rat)=>[Zat x.2,.int x.1]) (fun x=>x.2.length≤1000∧∀ r∈x.2,x.1 < r.length) fun x=>optI (firF x.2 x.1)
def Zbu:Zaq:=fnS (fun x:((Nat×Nat)×Nat)×List (List Rat)×List Rat=>[Zat x.2.1,rowq x.2.2,.int x.1.2]) (fun x=>3*x.1.1.1 < 8990∧x.1.1.2≤1000∧x.2.1.length≤1000∧x.1.2 < x.1.1.2∧Rz x.1.1.1 x.1.1.2 x.2.1∧∀ y∈x.2.2,Sz x.1.1.1 y) fun x=>Zat (witF x.2.1 x.2.2 x.1.2)
section
variable {E:Ex→Prop} {Q:D→Prop} {x y:D} {s:List Int} {n k b w m p:Nat} {r t lead:List Rat} {R L:List (List Rat)} {q0:Rat} {pl:List Nat}
theorem u_row_by (h1:2*b < 8990) (h2:r.length≤1000) (h3:∀ y∈r,Sz b y) (h4:Sz b q0) (h5:q0≠0) (q:Q (rowq (byF r q0))):Zfj [rowq r,shq q0] E Q:=⟨(b,r,q0),rfl,⟨h1,h2,h3,h4,h5⟩,q⟩
theorem u_row_less (h1:3*b < 8990) (h2:r.length≤1000) (h3:∀ y∈r,Sz b y) (h4:Sz b q0) (h5:∀ y∈t,Sz b y) (q:Q (rowq (lesF r q0 t))):ZdS [rowq r,shq q0,rowq t] E Q:=⟨((b,q0),r,t),rfl,⟨h1,h2,h3,h4,h5⟩,q⟩
theorem u_first_with (h1:R.length≤1000) (h2:∀ r∈R,p < r.length) (q:Q (optI (firF R p))):ZcL [Zat R,.int p] E Q:=⟨(p,R),rfl,⟨h1,h2⟩,q⟩
theorem Zds (h1:3*b < 8990) (h2:w≤1000) (h3:R.length≤1000) (h4:p < w) (h5:Rz b w R) (h6:∀ y∈lead,Sz b y) (q:Q (Zat (witF R lead p))):Zbu [Zat R,rowq lead,.int p] E Q:=⟨(((b,w),p),R,lead),rfl,⟨h1,h2,h3,h4,h5,h6⟩,q⟩
end
abbrev N_row_by:List Str:=["row", "share"]
abbrev ps_row_by:List Str:=["row", "share"]
def Zfe:WS:=(zRet (wB ZbM (Zab (wL (aLC (iS (wN 0)) 1 [1] (gN 0) ZaN (wF S_by (Zab (wN 0) (Zab (wN 1) aNil))))) aNil)))
abbrev N_row_less:List Str:=["one", "share", "other"]
abbrev ps_row_less:List Str:=["one", "share", "other"]
def ZdJ:WS:=(zRet (wB ZbM (Zab (wL (aLC (iZ (Zab (wN 0) (Zab (wN 2) aNil))) 2 [1] (gTp 2 (Zap (gN 0) (Zap (gN 1) ZaZ))) ZaN (wF S_minus (Zab (wN 0) (Zab (wF ZdE (Zab (wN 2) (Zab (wN 1) aNil))) aNil))))) aNil)))
abbrev Ze5:List Str:=["rows", "place", "at", "row"]
abbrev ps_first_with:List Str:=["rows", "place"]
def ZcE:WS:=(zSeq (zNox (zFor (iE (Zab (wN 0) aNil)) (gTp 2 (Zap (gN 2) (Zap (gN 3) ZaZ))) (zIf (wT (w2 (gEq true) (w2 gIx (wN 3) (wN 1)) (wC (D.tup [(D.int (0)),(D.int (1))])))) (zRet (wN 2)) zNx))) (zRet (wC D.non)))
abbrev ZdH:List Str:=["rows", "lead", "place"]
abbrev Zfa:List Str:=["rows", "lead", "place"]
def ZbN:WS:=(zRet (wL (aLC (iS (wN 0)) 1 [1,2] (gN 0) ZaN (wF ZdS (Zab (wN 0) (Zab (w2 gIx (wN 0) (wN 2)) (Zab (wN 1) aNil)))))))
abbrev N_cleared:List Str:=["rows", "many", "leading", "places", "rest", "place", "at", "lead"]
abbrev ps_cleared:List Str:=["rows", "many"]
def Zek:WS:=(zSeq (zSet 2 (wL (aLst aNil))) (zSeq (zOwn 3 (aLst aNil)) (zSeq (zSet 4 (wL (aB (gSeq (α:=Unit)) (Zab (wN 0) aNil)))) (zSeq (zNox (zFor (iR1 (Zab (wN 1) aNil)) (gN 5) (zSeq (zSet 6 (wF ZcL (Zab (wN 4) (Zab (wN 5) aNil)))) (zIf (wT (w2 (gIsC true) (wN 6) (wC D.non))) (zSeq (zSet 7 (wF Zfj (Zab (w2 gIx (wN 4) (wN 6)) (Zab (w2 gIx (w2 gIx (wN 4) (wN 6)) (wN 5)) aNil)))) (zSeq (zSet 2 (w2 gAdd (wF Zbu (Zab (wN 2) (Zab (wN 7) (Zab (wN 5) aNil)))) (wL (aLst (Zab (wN 7) aNil))))) (zSeq (zSet 4 (wF Zbu (Zab (w2 gAdd (wCut (wN 4) Zbt (ZaL (wN 6))) (wCut (wN 4) (ZaL (w2 gAdd (wN 6) (wC (D.int (1))))) Zbt)) (Zab (wN 7) (Zab (wN 5) aNil))))) (zApp 3 (wN 5))))) zNx)))) (zPub 3 (zRet (wTup (Zab (wN 2) (Zab (wN 3) aNil)))))))))
local macro_rules | `(tactic| walk_at "w1")=>`(tactic| simp only [zRet,zIf,zSet,zNx,ZbQ,zPub,zOwn,zFor,ZaI,zPar,zAsg,zApp,Zb6,zInk,ZbE,zNox,ZaO,zTry,wM,Zb9,Zb7,wOrV,Zcr,wAnd,wOr,wNot,wT,wIf,w1,w2,wB,wF,wL,wTup,wCut,ZaA,aB,aLst,Zab,aNil,aLC,Zbz,ZaN,iS,iE,iL,iT,iR1,iR2,iZ,Zbt,ZaL,wN,wC,gN,gTp,Zap,ZaZ,gIxP,Zai,wPen,wBor,tBor,aBor,wIxO,aAdd,aMul,aCut,rho,pub,List.map_cons,List.map_nil,List.length_cons,List.length_nil,List.cons_append,List.nil_append,List.replicate,List.getElem?_cons_zero,List.getElem?_cons_succ,List.set_cons_zero,List.set_cons_succ,Nat.reduceSub,Nat.reduceAdd,List.replicate_succ,List.replicate_zero,true_and,Bool.false_eq_true,if_true,if_false,ite_true,ite_false,Int.toNat_natCast,Bool.not_true,Bool.not_false,
  Zdk,Zdj,Zdi,Zb5,Zb4,Zdh,Zb0,ZbY,ZbZ,Zb2,Zb1,Zb3,Zb,Zbc,Zba,Zbb,Zbe,Zbd,Zbf,ZbR,ZbU,ZbS,ZbT,ZbW,ZbV,ZbX,Zbi,Zbl,Zbj,Zbk,Zbn,Zbm,Zbo,Za3,Za5,Za4,Za7,Za6,Za0,Za1,Za2,Zau,Zav,Zaw,Zbr,Zbq,Zbp,Za9,Za8,e_I2,Zdm,Zdg,Zbh,Zbg,Zdl,e_i1,e_i2])
theorem rd_row_by:∀ ds E Q,Zfj ds E Q→Zfe E { nx:=fun _=>Q .non,rt:=Q } (rho N_row_by ds):=by
  rintro _ E Q ⟨⟨b,r,q0⟩,rfl,⟨h1,h2,h3,h4,h5⟩,q⟩
  dsimp only at h1 h2 h3 h4 h5 q
  show Zfe E _ [.d (rowq r),.d (shq q0)]
  unfold Zfe rowq
  walk_at "st"
  refine lc_of (g:=shq) (f:=fun x:Rat=>shq (x / q0)) r (fun x hx Q hq=>?_) .un [] (by simp [small];omega) ?_
  · walk_at "st"
    exact u_by (B2.of (h3 x hx) h4 (by omega)) h5 hq
  · walk_at "st"
    unfold rowq byF at q
    rw [List.map_map] at q
    exact q
theorem lc_zipL {we:WE} {tail:Rho} {Q:List D→Prop} {f:Rat→Rat→D}:∀ (A C:List Rat),(∀ x∈A,∀ y∈C,∀ Q:D→Prop,Q (f x y)→we No (.d (shq x)::.d (shq y)::tail) Q)→∀ (sv sv':SV) (acc:List D),acc.length+A.length≤small→Q (acc++List.zipWith f A C)→lcW (gTp 2 (Zap (gN 0) (Zap (gN 1) ZaZ))) ZaN we (zips (A.map shq) (C.map shq)) (sv::sv'::tail) acc Q
  | [],C,_,sv,sv',acc,_,hq=>by simpa [lcW,zips] using hq
  | x::A,[],_,sv,sv',acc,_,hq=>by simpa [lcW,zips] using hq
  | x::A,y::C,h,sv,sv',acc,hl,hq=>by
    have e:zips ((x::A).map shq) ((y::C).map shq) = .tup [shq x,shq y]::zips (A.map shq) (C.map shq):=by simp [zips]
    rw [e,lcW]
    refine ⟨rfl,?_⟩
    rw [List.length_cons] at hl
    refine h x (by simp) y (by simp) _ ⟨by omega,lc_zipL A C (fun a ha c hc=>h a (by simp [ha]) c (by simp [hc])) _ _ _ (by simp;omega) ?_⟩
    rw [List.append_assoc]
    simpa using hq
theorem rd_row_less:∀ ds E Q,ZdS ds E Q→ZdJ E { nx:=fun _=>Q .non,rt:=Q } (rho N_row_less ds):=by
  rintro _ E Q ⟨⟨⟨b,q0⟩,r,t⟩,rfl,⟨h1,h2,h3,h4,h5⟩,q⟩
  dsimp only at h1 h2 h3 h4 h5 q
  show ZdJ E _ [.d (rowq r),.d (shq q0),.d (rowq t)]
  unfold ZdJ rowq
  walk_at "st"
  refine lc_zipL (f:=fun x y=>shq (x - q0*y)) r t (fun x hx y hy Q hq=>?_) .un .un [] (by simp [small];omega) ?_
  · walk_at "st"
    exact u_times (B2.of h4 (h5 y hy) (by omega)) (u_minus (B2.of (h3 x hx) (h4.mul (h5 y hy)) (by omega)) hq)
  · walk_at "st"
    unfold rowq lesF at q
    rw [List.map_zipWith] at q
    exact q
theorem shz (q:Rat):(if true=true then !deq (shq q) (.tup [.int 0,.int 1]) else deq (shq q) (.tup [.int 0,.int 1])) = !decide (q=0):=by
  rw [if_pos rfl,← shq_zero,deq_shq]
theorem fir_walk {p:Nat} {Q:D→Prop} {E:Ex→Prop} {N:Nds} {s0:SV} (hN:N.rt=Q):∀ (R:List (List Rat)) (k:Nat) (s2 s3:SV),(∀ r∈R,p < r.length)→(∀ a,firF R p=some a→Q (.int ((k+a:Nat):Int)))→(firF R p=none→∀ s2 s3,N.nx [s0,.d (.int p),s2,s3])→ZaW (gTp 2 (Zap (gN 2) (Zap (gN 3) ZaZ))) (zIf (wT (w2 (gEq true) (w2 gIx (wN 3) (wN 1)) (wC (D.tup [(D.int (0)),(D.int (1))])))) (zRet (wN 2)) zNx) E N (nums k (R.map rowq)) [s0,.d (.int p),s2,s3]
  | [],k,s2,s3,_,_,h2=>h2 rfl s2 s3
  | r::R,k,s2,s3,hp,h1,h2=>by
    rw [List.map_cons,nums,ZaW]
    refine ⟨rfl,?_⟩
    simp only [Zap,ZaZ,gN,List.set_cons_succ,List.set_cons_zero]
    have hr:=hp r (by simp)
    have e1:(r.map shq)[p]? = some (shq (r.getD p 0)):=by
      rw [List.getElem?_map,List.getD_eq_getElem?_getD,List.getElem?_eq_getElem hr];rfl
    refine Zce (b:=!decide (r.getD p 0=0)) (fun P hP=>?_) (fun e=>?_) fun e=>?_
    · unfold rowq
      walk_at "st"
      refine ⟨_,atI_nat e1,gEq_ok (okD_shq _ 59) (by decide +kernel) ?_⟩
      rw [shz]
      exact hP
    · have e0:¬ r.getD p 0=0:=by simpa using e
      have:=h1 0 (by rw [firF,if_neg e0])
      rw [← hN] at this
      exact this
    · have e0:r.getD p 0=0:=by simpa using e
      refine fir_walk hN R (k+1) _ _ (fun x hx=>hp x (by simp [hx])) (fun a ha=>?_) fun hn=>?_
      · have:=h1 (a+1) (by rw [firF,if_pos e0,ha];rfl)
        rw [show k+1+a=k+(a+1) by omega]
        exact this
      · exact h2 (by rw [firF,if_pos e0,hn];rfl)
theorem rd_first_with:∀ ds E Q,ZcL ds E Q→ZcE E { nx:=fun _=>Q .non,rt:=Q } (rho Ze5 ds):=by
  rintro _ E Q ⟨⟨p,R⟩,rfl,⟨h1,h2⟩,q⟩
  dsimp only at h1 h2 q
  show ZcE E _ [.d (Zat R),.d (.int p),.un,.un]
  unfold ZcE Zat
  refine Zaj ?_
  simp only [zNox,zFor,iE,Zab,aNil,wN,List.getElem?_cons_zero]
  refine fir_walk (Q:=Q) rfl R 0 .un .un h2 (fun a ha=>?_) fun hn s2 s3=>?_
  · rw [ha] at q
    rw [Nat.zero_add]
    exact q
  · rw [hn] at q
    exact q
theorem Ze9:∀ ds E Q,Zbu ds E Q→ZbN E { nx:=fun _=>Q .non,rt:=Q } (rho ZdH ds):=by
  rintro _ E Q ⟨⟨⟨⟨b,w⟩,p⟩,R,lead⟩,rfl,⟨h1,h2,h3,h4,h5,h6⟩,q⟩
  dsimp only at h1 h2 h3 h4 h5 h6 q
  show ZbN E _ [.d (Zat R),.d (rowq lead),.d (.int p)]
  unfold ZbN Zat
  walk_at "st"
  refine lc_of (g:=rowq) (f:=fun r:List Rat=>rowq (lesF r (r.getD p 0) lead)) R (fun r hr Q hq=>?_) .un [] (by simp [small];omega) ?_
  · obtain ⟨hl,hs⟩:=h5 r hr
    have e0:r[p]? = some (r.getD p 0):=by rw [List.getD_eq_getElem?_getD,List.getElem?_eq_getElem (by omega)];rfl
    have e1:(r.map shq)[p]? = some (shq (r.getD p 0)):=by rw [List.getElem?_map,e0];rfl
    simp only [wF,Zab,aNil,wN,w2,List.getElem?_cons_zero,List.getElem?_cons_succ]
    exact ⟨_,atI_nat e1,u_row_less h1 (by omega) hs (hs _ (List.mem_of_getElem? e0)) h6 hq⟩
  · unfold Zat witF at q
    rw [List.map_map] at q
    exact q
theorem eset {i:Nat} {w:WE} {E:Ex→Prop} {N:Nds} {ρ ρ':Rho} {d:D} (e:ρ.set i (.d d)=ρ') (hw:∀ P:D→Prop,P d→w E ρ P) (h:N.nx ρ'):zSet i w E N ρ:=hw _ (by rw [e];exact h)
theorem eapp {i:Nat} {w:WE} {E:Ex→Prop} {N:Nds} {ρ ρ':Rho} {xs:List D} {d:D} (e:ρ[i]? = some (.ow xs)) (hl:xs.length < small) (e2:ρ.set i (.ow (xs++[d]))=ρ') (hw:∀ P:D→Prop,P d→w E ρ P) (h:N.nx ρ'):zApp i w E N ρ:=by
  unfold zApp
  rw [e]
  exact hw _ ⟨hl,by rw [e2];exact h⟩
theorem rows_at {R:List (List Rat)} {k:Nat} (h:k < R.length):atI (R.map rowq) (k:Int)=some (rowq (R.getD k [])):=by
  refine atI_nat ?_
  rw [List.getElem?_map,List.getD_eq_getElem?_getD,List.getElem?_eq_getElem h]
  rfl
theorem row_at {r:List Rat} {k:Nat} (h:k < r.length):atI (r.map shq) (k:Int)=some (shq (r.getD k 0)):=by
  refine atI_nat ?_
  rw [List.getElem?_map,List.getD_eq_getElem?_getD,List.getElem?_eq_getElem h]
  rfl
def freL (place:Nat):List (List Rat)→List Nat→List Rat→List Rat
  | l::L,a::pl,row=>freL place L pl (row.set a (0 - l.getD place 0))
  | _,_,row=>row
def sumN (f:Nat→Rat):Nat→Rat
  | 0=>0
  | n+1=>sumN f n+f n
theorem Zam {f g:Nat→Rat}:∀ {n:Nat},(∀ i,i < n→f i=g i)→sumN f n=sumN g n
  | 0,_=>rfl
  | n+1,h=>by rw [sumN,sumN,Zam (fun i hi=>h i (by omega)),h n (by omega)]
theorem Zem {f:Nat→Rat}:∀ {n:Nat},(∀ i,i < n→f i=0)→sumN f n=0
  | 0,_=>rfl
  | n+1,h=>by rw [sumN,Zem (fun i hi=>h i (by omega)),h n (by omega),Rat.add_zero]
theorem Zcs {f:Nat→Rat} {k:Nat}:∀ {n:Nat},k < n→(∀ i,i < n→i≠k→f i=0)→sumN f n=f k
  | 0,h,_=>by omega
  | n+1,h,h0=>by
    rw [sumN]
    by_cases e:k=n
    · subst e
      rw [Zem (fun i hi=>h0 i (by omega) (by omega)),Rat.zero_add]
    · rw [Zcs (k:=k) (by omega) (fun i hi hk=>h0 i (by omega) hk),h0 n (by omega) (Ne.symm e),Rat.add_zero]
theorem Zff (f g:Nat→Rat):∀ n:Nat,sumN (fun i=>f i - g i) n=sumN f n - sumN g n
  | 0=>by simp only [sumN];grind
  | n+1=>by rw [sumN,sumN,sumN,Zff f g n];grind
theorem ZcR (f:Nat→Rat):∀ n:Nat,sumN f (n+1)=f 0+sumN (fun i=>f (i+1)) n
  | 0=>by simp only [sumN];grind
  | n+1=>by rw [sumN,ZcR f n,sumN];grind
theorem Zc8:∀ (r x:List Rat) (n:Nat),r.length=n→x.length=n→dot r x=sumN (fun j=>r.getD j 0*x.getD j 0) n
  | [],[],_,h,_=>by subst h;rfl
  | [],_::_,n,h,h'=>by simp at h h';omega
  | _::_,[],n,h,h'=>by simp at h h';omega
  | a::r,y::x,n,h,h'=>by
    subst h
    rw [dot,Zc8 r x r.length rfl (by simpa using h'),List.length_cons,ZcR]
    rfl
theorem dot_by {r x:List Rat} {n:Nat} {q:Rat} (hr:r.length=n) (hx:x.length=n):dot (byF r q) x=dot r x / q:=by
  clear hr hx
  unfold byF
  induction r generalizing x with
  | nil=>show (0:Rat)=0 / q;rw [Rat.div_def,Rat.zero_mul]
  | cons a r ih=>
    cases x with
    | nil=>show (0:Rat)=0 / q;rw [Rat.div_def,Rat.zero_mul]
    | cons y x=>
      rw [List.map_cons,dot,dot,ih,Rat.div_def,Rat.div_def,Rat.div_def]
      grind
theorem dot_les {r c x:List Rat} {q:Rat} (h:r.length=c.length):dot (lesF r q c) x=dot r x - q*dot c x:=by
  unfold lesF
  induction r generalizing c x with
  | nil=>
    cases c with
    | nil=>show (0:Rat)=0 - q*0;grind
    | cons _ _=>simp at h
  | cons a r ih=>
    cases c with
    | nil=>simp at h
    | cons b c=>
      cases x with
      | nil=>show (0:Rat)=0 - q*0;grind
      | cons y x=>
        rw [List.zipWith_cons_cons,dot,dot,dot,ih (by simpa using h)]
        grind
theorem dot_unit {r:List Rat} {n k:Nat} (hr:r.length=n) (hk:k < n):dot r (unit n k)=r.getD k 0:=by
  rw [Zc8 r (unit n k) n hr (ZdK n k),Zcs hk]
  · rw [unit_at' hk,if_pos rfl,Rat.mul_one]
  · intro i hi e
    rw [unit_at' hi,if_neg e,Rat.mul_zero]
where
  unit_at' {n k i:Nat} (hi:i < n):(unit n k).getD i 0=if i=k then 1 else 0:=by
    unfold unit
    rw [List.getD_eq_getElem?_getD,List.getElem?_map,List.getElem?_range hi]
    rfl
theorem unit_at {n k i:Nat} (hi:i < n):(unit n k).getD i 0=if i=k then 1 else 0:=by
  unfold unit
  rw [List.getD_eq_getElem?_getD,List.getElem?_map,List.getElem?_range hi]
  rfl
theorem set_at {x:List Rat} {a i:Nat} {v:Rat} (ha:a < x.length):(x.set a v).getD i 0=if i=a then v else x.getD i 0:=by
  rw [List.getD_eq_getElem?_getD,List.getElem?_set,List.getD_eq_getElem?_getD]
  by_cases e:a=i
  · subst e;rw [if_pos rfl,if_pos rfl,if_pos ha];rfl
  · rw [if_neg e,if_neg (Ne.symm e)]
theorem dot_set {r x:List Rat} {n a:Nat} {v:Rat} (hr:r.length=n) (hx:x.length=n) (ha:a < n) (h0:x.getD a 0=0):dot r (x.set a v)=dot r x+r.getD a 0*v:=by
  rw [Zc8 r _ n hr (by rw [List.length_set];exact hx),Zc8 r x n hr hx]
  have:sumN (fun j=>r.getD j 0*(x.set a v).getD j 0 - r.getD j 0*x.getD j 0) n=r.getD a 0*v:=by
    rw [Zcs ha]
    · rw [set_at (by omega),if_pos rfl,h0,Rat.mul_zero];grind
    · intro i hi e
      rw [set_at (by omega),if_neg e];grind
  rw [Zff] at this
  grind
structure Ec (n:Nat) (R:List (List Rat)) (p:Nat) (ld:List (List Rat)) (pl:List Nat) (rs:List (List Rat)):Prop where
  wl:∀ r∈ld,r.length=n
  ws:∀ r∈rs,r.length=n
  ll:ld.length=pl.length
  nul:∀ x:List Rat,x.length=n→((∀ r∈R,dot r x=0)↔(∀ r∈ld,dot r x=0)∧∀ r∈rs,dot r x=0)
  lt:∀ a∈pl,a < p
  asc:pl.Pairwise (· < ·)
  one:∀ i j,i < ld.length→j < pl.length→(ld.getD i []).getD (pl.getD j 0) 0=if i=j then 1 else 0
  low:∀ i,i < ld.length→∀ q,q < pl.getD i 0→(ld.getD i []).getD q 0=0
  zer:∀ r∈rs,∀ q,q < p→r.getD q 0=0
theorem Ec.start {n:Nat} {R:List (List Rat)} (h:∀ r∈R,r.length=n):Ec n R 0 [] [] R:=⟨by simp,h,rfl,fun x _=>by simp,by simp,.nil,fun i j hi=>by simp at hi,fun i hi=>by simp at hi,fun r _ q hq=>by omega⟩
theorem Ec.skip {n p:Nat} {R ld rs:List (List Rat)} {pl:List Nat} (h:Ec n R p ld pl rs) (h0:∀ r∈rs,r.getD p 0=0):Ec n R (p+1) ld pl rs:=
  ⟨h.wl,h.ws,h.ll,h.nul,fun a ha=>Nat.lt_succ_of_lt (h.lt a ha),h.asc,h.one,h.low,fun r hr q hq=>by
    by_cases e:q=p
    · rw [e];exact h0 r hr
    · exact h.zer r hr q (by omega)⟩
theorem Ec.pivot {n p:Nat} {R ld rs rs1 rs2:List (List Rat)} {pl:List Nat} {r lead:List Rat} (h:Ec n R p ld pl rs) (hp:p < n) (hr0:r.getD p 0≠0) (hrs:∀ t,t∈rs↔t=r∨t∈rs1) (hld:lead=byF r (r.getD p 0)) (h2:∀ t,t∈rs2↔∃ u∈rs1,t=lesF u (u.getD p 0) lead):Ec n R (p+1) (witF ld lead p++[lead]) (pl++[p]) rs2:=by
  have rr:r∈rs:=(hrs r).mpr (.inl rfl)
  have rl:=h.ws r rr
  have ll:lead.length=n:=by rw [hld];unfold byF;rw [List.length_map];exact rl
  have lat:∀ j,lead.getD j 0=r.getD j 0 / r.getD p 0:=fun j=>by
    rw [hld]
    unfold byF
    rw [List.getD_eq_getElem?_getD,List.getElem?_map,List.getD_eq_getElem?_getD (i:=j)]
    cases r[j]? with
    | none=>show (0:Rat)=0 / _;rw [Rat.div_def,Rat.zero_mul]
    | some x=>rfl
  have lp:lead.getD p 0=1:=by rw [lat,Rat.div_def,Rat.mul_inv_cancel _ hr0]
  have lz:∀ q,q < p→lead.getD q 0=0:=fun q hq=>by rw [lat,h.zer r rr q hq,Rat.div_def,Rat.zero_mul]
  have lesL:∀ (u:List Rat) (z:Rat),u.length=n→(lesF u z lead).length=n:=fun u z hu=>by unfold lesF;rw [List.length_zipWith];omega
  have lesA:∀ (u:List Rat) (z:Rat) (j:Nat),u.length=n→(lesF u z lead).getD j 0=u.getD j 0 - z*lead.getD j 0:=fun u z j hu=>by
    unfold lesF
    simp only [List.getD_eq_getElem?_getD]
    by_cases hj:j < n
    · rw [List.getElem?_eq_getElem (by rw [List.length_zipWith];omega),List.getElem?_eq_getElem (by omega),List.getElem?_eq_getElem (by omega),List.getElem_zipWith]
      rfl
    · rw [List.getElem?_eq_none (by rw [List.length_zipWith];omega),List.getElem?_eq_none (by omega),List.getElem?_eq_none (by omega)]
      show (0:Rat)=0 - z*0
      grind
  have wlen:(witF ld lead p).length=ld.length:=by unfold witF;rw [List.length_map]
  have wat:∀ i,i < ld.length→(witF ld lead p++[lead]).getD i []=lesF (ld.getD i []) ((ld.getD i []).getD p 0) lead:=fun i hi=>by
    rw [List.getD_eq_getElem?_getD,List.getElem?_append_left (by omega)]
    unfold witF
    rw [List.getElem?_map,List.getD_eq_getElem?_getD,List.getElem?_eq_getElem hi]
    rfl
  have wlast:(witF ld lead p++[lead]).getD ld.length []=lead:=by
    rw [List.getD_eq_getElem?_getD,List.getElem?_append_right (by omega),wlen,Nat.sub_self]
    rfl
  have plat:∀ i,i < pl.length→(pl++[p]).getD i 0=pl.getD i 0:=fun i hi=>by
    rw [List.getD_eq_getElem?_getD,List.getElem?_append_left hi,List.getD_eq_getElem?_getD]
  have plast:(pl++[p]).getD pl.length 0=p:=by
    rw [List.getD_eq_getElem?_getD,List.getElem?_append_right (Nat.le_refl _),Nat.sub_self]
    rfl
  have plt:∀ i,i < pl.length→pl.getD i 0 < p:=fun i hi=>by
    rw [List.getD_eq_getElem?_getD,List.getElem?_eq_getElem hi]
    exact h.lt _ (List.getElem_mem _)
  have ldm:∀ i,i < ld.length→ld.getD i []∈ld:=fun i hi=>ZfL hi
  have hll:=h.ll
  refine ⟨fun t ht=>?_,fun t ht=>?_,?_,fun x hx=>?_,fun a ha=>?_,?_,fun i j hi hj=>?_,fun i hi q hq=>?_,fun t ht q hq=>?_⟩
  · rcases List.mem_append.mp ht with ht | ht
    · unfold witF at ht
      obtain ⟨u,hu,rfl⟩:=List.mem_map.mp ht
      exact lesL u _ (h.wl u hu)
    · rw [List.mem_singleton.mp ht];exact ll
  · obtain ⟨u,hu,rfl⟩:=(h2 t).mp ht
    exact lesL u _ (h.ws u ((hrs u).mpr (.inr hu)))
  · rw [List.length_append,List.length_append,wlen,hll];rfl
  · rw [h.nul x hx]
    have dl:dot lead x=dot r x / r.getD p 0:=by rw [hld];exact dot_by rl hx
    constructor
    · rintro ⟨g1,g2⟩
      have z:dot lead x=0:=by rw [dl,g2 r rr,Rat.div_def,Rat.zero_mul]
      refine ⟨fun t ht=>?_,fun t ht=>?_⟩
      · rcases List.mem_append.mp ht with ht | ht
        · unfold witF at ht
          obtain ⟨u,hu,rfl⟩:=List.mem_map.mp ht
          rw [dot_les (by rw [h.wl u hu,ll]),g1 u hu,z];grind
        · rw [List.mem_singleton.mp ht];exact z
      · obtain ⟨u,hu,rfl⟩:=(h2 t).mp ht
        have hu':=(hrs u).mpr (.inr hu)
        rw [dot_les (by rw [h.ws u hu',ll]),g2 u hu',z];grind
    · rintro ⟨g1,g2⟩
      have z:dot lead x=0:=g1 lead (by simp)
      have zr:dot r x=0:=by
        rw [dl,Rat.div_def] at z
        have:dot r x*(r.getD p 0)⁻¹*r.getD p 0=0:=by rw [z,Rat.zero_mul]
        rw [Rat.mul_assoc,Rat.inv_mul_cancel _ hr0,Rat.mul_one] at this
        exact this
      refine ⟨fun t ht=>?_,fun t ht=>?_⟩
      · have:=g1 (lesF t (t.getD p 0) lead) (List.mem_append.mpr (.inl (by unfold witF;exact List.mem_map_of_mem (f:=fun r=>lesF r (r.getD p 0) lead) ht)))
        rw [dot_les (by rw [h.wl t ht,ll]),z] at this
        grind
      · rcases (hrs t).mp ht with rfl | hu
        · exact zr
        · have:=g2 (lesF t (t.getD p 0) lead) ((h2 _).mpr ⟨t,hu,rfl⟩)
          rw [dot_les (by rw [h.ws t ht,ll]),z] at this
          grind
  · rcases List.mem_append.mp ha with ha | ha
    · exact Nat.lt_succ_of_lt (h.lt a ha)
    · rw [List.mem_singleton.mp ha];exact Nat.lt_succ_self p
  · refine List.pairwise_append.mpr ⟨h.asc,by simp,fun a ha b hb=>?_⟩
    rw [List.mem_singleton.mp hb]
    exact h.lt a ha
  · rw [List.length_append,wlen,List.length_singleton] at hi
    rw [List.length_append,List.length_singleton] at hj
    by_cases hi':i < ld.length
    · have hw:=h.wl _ (ldm i hi')
      rw [wat i hi',lesA _ _ _ hw]
      by_cases hj':j < pl.length
      · rw [plat j hj',h.one i j hi' hj',lz _ (plt j hj')];grind
      · obtain rfl:j=pl.length:=by omega
        rw [plast,lp,if_neg (by omega)];grind
    · obtain rfl:i=ld.length:=by omega
      rw [wlast]
      by_cases hj':j < pl.length
      · rw [plat j hj',lz _ (plt j hj'),if_neg (by omega)]
      · obtain rfl:j=pl.length:=by omega
        rw [plast,lp,if_pos hll]
  · rw [List.length_append,wlen,List.length_singleton] at hi
    by_cases hi':i < ld.length
    · have hw:=h.wl _ (ldm i hi')
      rw [plat i (by omega)] at hq
      rw [wat i hi',lesA _ _ _ hw,h.low i hi' q hq,lz q (by have:=plt i (by omega);omega)];grind
    · obtain rfl:i=ld.length:=by omega
      rw [hll,plast] at hq
      rw [wlast]
      exact lz q hq
  · obtain ⟨u,hu,rfl⟩:=(h2 t).mp ht
    have hu':=(hrs u).mpr (.inr hu)
    rw [lesA _ _ _ (h.ws u hu')]
    by_cases e:q=p
    · rw [e,lp];grind
    · rw [h.zer u hu' q (by omega),lz q (by omega)];grind
def sumL (r:List Rat) (q:Nat):List (List Rat)→List Nat→Rat
  | l::L,a::P=>r.getD a 0*l.getD q 0+sumL r q L P
  | _,_=>0
theorem freL_len (q:Nat):∀ (L:List (List Rat)) (P:List Nat) (row:List Rat),(freL q L P row).length=row.length
  | [],_,_=>by simp [freL]
  | _::_,[],_=>by simp [freL]
  | l::L,a::P,row=>by rw [freL,freL_len q L P,List.length_set]
theorem freL_at {q t:Nat}:∀ (L:List (List Rat)) (P:List Nat) (row:List Rat),(∀ a∈P,a < row.length)→t∉P→(freL q L P row).getD t 0=row.getD t 0
  | [],_,_,_,_=>by simp [freL]
  | _::_,[],_,_,_=>by simp [freL]
  | l::L,a::P,row,h,ht=>by
    rw [freL,freL_at L P _ (fun b hb=>by rw [List.length_set];exact h b (by simp [hb])) (fun hb=>ht (by simp [hb])),set_at (h a (by simp)),if_neg (fun e=>ht (by simp [e]))]
theorem freL_dot {r:List Rat} {q n:Nat} (hr:r.length=n):∀ (L:List (List Rat)) (P:List Nat) (row:List Rat),row.length=n→(∀ a∈P,a < n)→P.Pairwise (· < ·)→(∀ a∈P,row.getD a 0=0)→dot r (freL q L P row)=dot r row - sumL r q L P
  | [],_,row,_,_,_,_=>by simp only [freL,sumL];grind
  | _::_,[],row,_,_,_,_=>by simp only [freL,sumL];grind
  | l::L,a::P,row,hw,hn,ha,h0=>by
    obtain ⟨h1,h2⟩:=List.pairwise_cons.mp ha
    rw [freL,freL_dot hr L P _ (by rw [List.length_set];exact hw) (fun b hb=>hn b (by simp [hb])) h2 (fun b hb=>by
      rw [set_at (by rw [hw];exact hn a (by simp)),if_neg (by have:=h1 b hb;omega)]
      exact h0 b (by simp [hb])),dot_set hr hw (hn a (by simp)) (h0 a (by simp)),sumL]
    grind
theorem Zft {r:List Rat} {q:Nat}:∀ (L:List (List Rat)) (P:List Nat),(∀ j,j < P.length→j < L.length→r.getD (P.getD j 0) 0*(L.getD j []).getD q 0=0)→sumL r q L P=0
  | [],_,_=>by simp [sumL]
  | _::_,[],_=>by simp [sumL]
  | l::L,a::P,h=>by
    rw [sumL,Zft L P (fun j h1 h2=>by simpa using h (j+1) (by simpa using h1) (by simpa using h2))]
    have:=h 0 (by simp) (by simp)
    rw [List.getD_cons_zero,List.getD_cons_zero] at this
    rw [this,Rat.add_zero]
theorem sumL_one {r:List Rat} {q:Nat}:∀ (L:List (List Rat)) (P:List Nat) (i:Nat),i < L.length→L.length=P.length→(∀ j,j < P.length→r.getD (P.getD j 0) 0=if i=j then 1 else 0)→sumL r q L P=(L.getD i []).getD q 0
  | [],_,i,hi,_,_=>by simp at hi
  | _::_,[],i,_,hl,_=>by simp at hl
  | l::L,a::P,0,hi,hl,h=>by
    have h0:=h 0 (by simp)
    rw [List.getD_cons_zero,if_pos rfl] at h0
    rw [sumL,h0,Zft L P (fun j h1 h2=>by
      have:=h (j+1) (by simpa using h1)
      rw [List.getD_cons_succ,if_neg (by omega)] at this
      rw [this,Rat.zero_mul]),List.getD_cons_zero]
    grind
  | l::L,a::P,i+1,hi,hl,h=>by
    have h0:=h 0 (by simp)
    rw [List.getD_cons_zero,if_neg (by omega)] at h0
    rw [sumL,h0,sumL_one L P i (by simpa using hi) (by simpa using hl) (fun j hj=>by
      have:=h (j+1) (by simpa using hj)
      rw [List.getD_cons_succ] at this
      rw [this]
      by_cases e:i=j
      · rw [if_pos e,if_pos (by omega)]
      · rw [if_neg e,if_neg (by omega)]),List.getD_cons_succ]
    grind
theorem Ec.free {n q:Nat} {R ld rs:List (List Rat)} {pl:List Nat} (h:Ec n R n ld pl rs) (hq:q < n) (hn:q∉pl):(freL q ld pl (unit n q)).length=n∧∀ r∈R,dot r (freL q ld pl (unit n q))=0:=by
  have l:(freL q ld pl (unit n q)).length=n:=by rw [freL_len,ZdK]
  have z0:∀ a∈pl,(unit n q).getD a 0=0:=fun a ha=>by
    rw [unit_at (h.lt a ha),if_neg (show ¬ a=q from fun e=>hn (by rw [← e];exact ha))]
  refine ⟨l,(h.nul _ l).mpr ⟨fun r hr=>?_,fun r hr=>?_⟩⟩
  · obtain ⟨i,hi,e⟩:=List.mem_iff_getElem.mp hr
    have e':ld.getD i []=r:=by rw [List.getD_eq_getElem?_getD,List.getElem?_eq_getElem hi];exact e
    rw [freL_dot (h.wl r hr) ld pl _ (ZdK n q) h.lt h.asc z0,dot_unit (h.wl r hr) hq,sumL_one ld pl i hi h.ll (fun j hj=>by rw [← e'];exact h.one i j hi hj),e']
    grind
  · rw [Zc8 r _ n (h.ws r hr) l]
    exact Zem fun j hj=>by rw [h.zer r hr j hj,Rat.zero_mul]
theorem Ec.sub {n:Nat} {R ld rs ld' rs':List (List Rat)} {pl pl':List Nat} (h:Ec n R n ld pl rs) (h':Ec n R n ld' pl' rs') {q:Nat} (hq:q∈pl):q∈pl':=by
  refine Classical.byContradiction fun hn=>?_
  have qn:=h.lt q hq
  obtain ⟨i,hi,e⟩:=List.mem_iff_getElem.mp hq
  have e':pl.getD i 0=q:=by rw [List.getD_eq_getElem?_getD,List.getElem?_eq_getElem hi];exact e
  have hi':i < ld.length:=by rw [h.ll];exact hi
  obtain ⟨l,f0⟩:=h'.free qn hn
  have fl:=((h.nul _ l).mp f0).1 _ (ZfL hi')
  have wl:=h.wl _ (ZfL hi')
  have z0:∀ a∈pl',(unit n q).getD a 0=0:=fun a ha=>by
    rw [unit_at (h'.lt a ha),if_neg (show ¬ a=q from fun e=>hn (by rw [← e];exact ha))]
  have o:=h.one i i hi' hi
  rw [e',if_pos rfl] at o
  rw [freL_dot wl ld' pl' _ (ZdK n q) h'.lt h'.asc z0,dot_unit wl qn,o,Zft ld' pl' (fun j h1 h2=>?_)] at fl
  · exact absurd fl (by decide +kernel)
  · have hm:pl'.getD j 0∈pl':=by rw [List.getD_eq_getElem?_getD,List.getElem?_eq_getElem h1];exact List.getElem_mem _
    rcases Nat.lt_trichotomy (pl'.getD j 0) q with g | g | g
    · rw [h.low i hi' _ (by rw [e'];exact g),Rat.zero_mul]
    · exact absurd (by rw [g] at hm;exact hm) hn
    · rw [h'.low j h2 q g,Rat.mul_zero]
theorem asc_eq:∀ {a b:List Nat},a.Pairwise (· < ·)→b.Pairwise (· < ·)→(∀ x,x∈a↔x∈b)→a=b
  | [],[],_,_,_=>rfl
  | [],y::b,_,_,h=>by have:=(h y).mpr (by simp);simp at this
  | x::a,[],_,_,h=>by have:=(h x).mp (by simp);simp at this
  | x::a,y::b,ha,hb,h=>by
    obtain ⟨a1,a2⟩:=List.pairwise_cons.mp ha
    obtain ⟨b1,b2⟩:=List.pairwise_cons.mp hb
    have hx:=(h x).mp (by simp)
    have hy:=(h y).mpr (by simp)
    have e:x=y:=by
      rcases List.mem_cons.mp hx with e | hx
      · exact e
      · rcases List.mem_cons.mp hy with e | hy
        · exact e.symm
        · have:=a1 y hy;have:=b1 x hx;omega
    subst e
    rw [asc_eq a2 b2 fun z=>?_]
    constructor
    · intro hz
      rcases List.mem_cons.mp ((h z).mp (by simp [hz])) with e | e
      · have:=a1 z hz;omega
      · exact e
    · intro hz
      rcases List.mem_cons.mp ((h z).mpr (by simp [hz])) with e | e
      · have:=b1 z hz;omega
      · exact e
theorem Ec.places {n:Nat} {R ld rs ld' rs':List (List Rat)} {pl pl':List Nat} (h:Ec n R n ld pl rs) (h':Ec n R n ld' pl' rs'):pl=pl':=asc_eq h.asc h'.asc fun _=>⟨h.sub h',h'.sub h⟩
theorem fir_none:∀ {R:List (List Rat)} {p:Nat},firF R p=none→∀ r∈R,r.getD p 0=0
  | [],_,_,r,hr=>by cases hr
  | t::R,p,h,r,hr=>by
    rw [firF] at h
    by_cases e:t.getD p 0=0
    · rw [if_pos e] at h
      rcases List.mem_cons.mp hr with rfl | hr
      · exact e
      · exact fir_none (by cases e2:firF R p with
          | none=>rfl
          | some a=>rw [e2] at h;cases h) r hr
    · rw [if_neg e] at h;cases h
theorem mem_out {R:List (List Rat)} {a:Nat} (h:a < R.length) (t:List Rat):t∈R↔t=R.getD a []∨t∈R.take a++R.drop (a+1):=by
  have e:R=R.take a++R.getD a []::R.drop (a+1):=by
    conv=>lhs;rw [← List.take_append_drop a R]
    rw [List.drop_eq_getElem_cons h,List.getD_eq_getElem?_getD,List.getElem?_eq_getElem h]
    rfl
  conv=>lhs;rw [e]
  simp only [List.mem_append,List.mem_cons]
  constructor
  · rintro (h | h | h)
    · exact .inr (.inl h)
    · exact .inl h
    · exact .inr (.inr h)
  · rintro (h | h | h)
    · exact .inr (.inl h)
    · exact .inl h
    · exact .inr (.inr h)
theorem cl_ec {n:Nat} {R:List (List Rat)} (hR:∀ r∈R,r.length=n):∀ p,p≤n→Ec n R p (clR R p).ld (clR R p).pl (clR R p).rs
  | 0,_=>Ec.start hR
  | p+1,hp=>by
    have ih:=cl_ec hR p (by omega)
    rw [clR]
    generalize clR R p=x at ih
    unfold clS
    cases e:firF x.rs p with
    | none=>exact ih.skip (fir_none e)
    | some a=>
      obtain ⟨a1,a2⟩:=ZeA e
      exact ih.pivot (r:=x.rs.getD a []) (rs1:=x.rs.take a++x.rs.drop (a+1)) (by omega) a2 (mem_out a1) rfl fun t=>by
        unfold witF
        rw [List.mem_map]
        constructor
        · rintro ⟨u,hu,rfl⟩;exact ⟨u,hu,rfl⟩
        · rintro ⟨u,hu,rfl⟩;exact ⟨u,hu,rfl⟩
def FnAt (K:PySem.W.Frag) (mg:Str→Option Value) (x:Str) (st:Stmt):Prop:=∃ f fd,Fun K x x st f fd∧mg x=some (.ref f)∧clsAt K x=some f
def CI (mg:Str→Option Value) (x:Str) (i:Int):Prop:=∃ t,mg x=some (.int i t)
def CT (K:PySem.W.Frag) (mg:Str→Option Value) (x:Str) (ds:List D):Prop:=∃ a vs,mg x=some (.ref a)∧KT K a vs∧∀ W,Reps K W vs ds
section
variable {K:PySem.W.Frag} {h:Heap} {mg:Str→Option Value} {x:Str}
theorem mkF (X:K.In h) (G:h.Ns mainGlobals mg) {st:Stmt} {f:Addr} {oc:Value} {od an:Option Addr} {osl:Array (Option Value)} {kV doc pm cdv ct:Value} (a:PySem.W.nsIn K mainGlobals x=some (some (.ref f))) (l:K.lookup f=some ⟨oc,od,.func (PySem.W.fnOf x x (defArgs st) (defBody st) (defScope st) .none kV doc pm an cdv ct),osl⟩)
    (c:PySem.W.codeIn K cdv x=true) (k:PySem.W.keepIn K (.ref f)=true):FnAt K mg x st:=⟨f,_,fun_mk l c k,PySem.W.mg_of X G a,clsAt_of a⟩
theorem mkI (X:K.In h) (G:h.Ns mainGlobals mg) {i:Int} {t:Tok} (a:PySem.W.nsIn K mainGlobals x=some (some (.int i t))):CI mg x i:=⟨t,PySem.W.mg_of X G a⟩
theorem mkT (X:K.In h) (G:h.Ns mainGlobals mg) {f:Addr} {d:Option Addr} {n:Nat} {sl:Array (Option Value)} {i j:Int} {t u:Tok} (a:PySem.W.nsIn K mainGlobals x=some (some (.ref f))) (l:K.lookup f=some ⟨.type "tuple",d,.seq #[.int i t,.int j u] n,sl⟩):CT K mg x [.int i,.int j]:=
  ⟨f,[.int i,.int j],PySem.W.mg_of X G a,⟨_,_,_,l,rfl,rfl,(by show 2≤sizeLine;decide),.cons ⟨_,rfl⟩ (.cons ⟨_,rfl⟩ .nil)⟩,fun _=>.cons (.int _) (.cons (.int _) .nil)⟩
theorem mkX (X:K.In h) (G:h.Ns mainGlobals mg) {f:Addr} (a:PySem.W.nsIn K mainGlobals x=some (some (.ref f))) (e:PySem.W.excIn K f [.type "ValueError",.type "Exception",.type "BaseException",.type "object"] "ValueError.__new__" = true):XC K mg x:=
  ⟨f,_,_,_,clsAt_of a,PySem.W.mg_of X G a,e,PySem.F.excBase_ValueError⟩
end
section
variable {P:Program} {w:World} {K:PySem.W.Frag} {mg:Str→Option Value} {base:Heap} {x:Str} {st:Stmt} {N ps:List Str} {k:Nat} {S:Zaq} {z:WS}
theorem mkp (h:FnAt K mg x st)
    (hbody:∀ (sc:N.Nodup) (f:Addr) (cdv:Value) (A:Around) (outer:List Env) (s:Shared) (H:Hp) (E:XK),Room k (A.deeper (envOfC x (defScope st) s.heap.objs.size f cdv))→
      Passes (CXv P w) (cxOf (CXv P w) P w K mg base N x (defScope st) f cdv A outer s H E) E→Rais (cxOf (CXv P w) P w K mg base N x (defScope st) f cdv A outer s H E) E→
      PZs (cxOf (CXv P w) P w K mg base N x (defScope st) f cdv A outer s H E) E (defBody st) z)
    (rd:∀ ds E Q,S ds E Q→z E { nx:=fun _=>Q .non,rt:=Q } (rho N ds))
    (sc:FnScope N ps (defScope st):=by exact ⟨rfl,rfl,rfl,by decide +kernel,rfl,by decide +kernel,by decide +kernel⟩)
    (len:∀ ds E Q,S ds E Q→ds.length=ps.length:=by first | exact fnS.len fun _=>rfl | exact xS.len fun _=>rfl | exact rlS.len fun _=>rfl)
    (hb:∀ (kV doc pm:Value) (an:Option Addr) (cdv ct:Value) (us:List Value),us.length=ps.length→bindArgs (PySem.W.fnOf x x (defArgs st) (defBody st) (defScope st) .none kV doc pm an cdv ct) ⟨us,[]⟩=pure (ps.zip us):=by
      intro _ _ _ _ _ _ us hl
      first | (match us,hl with | [_],_=>rfl) | (match us,hl with | [_,_],_=>rfl) | (match us,hl with | [_,_,_],_=>rfl) | (match us,hl with | [_,_,_,_],_=>rfl))
    (mono:PMono S:=by first | exact fnS.mono | exact rlS.mono | exact xS.mono):Fp P w K mg base (k+1) x ps S:=by
  obtain ⟨f,fd,F,m,q⟩:=h
  exact Fp.of (fnpx (z:=z) F sc len (fun cdv A outer s H E hr hx hw=>hbody sc.nd f cdv A outer s H E hr hx hw) rd) mono m F.kp (F.binds hb)
theorem mkl {l:PySem.W.OpenLaw} {fa:Addr} (h:FnAt K mg x st) (hfa:mg x=some (.ref fa))
    (hbody:∀ (base:Heap) (sc:N.Nodup) (f:Addr) (cdv:Value) (A:Around) (outer:List Env) (s:Shared) (H:Hp) (E:XK),Room k (A.deeper (envOfC x (defScope st) s.heap.objs.size f cdv))→
      Passes (CXv l.prog w) (cxOf (CXv l.prog w) l.prog w K mg base N x (defScope st) f cdv A outer s H E) E→Rais (cxOf (CXv l.prog w) l.prog w K mg base N x (defScope st) f cdv A outer s H E) E→
      PZs (cxOf (CXv l.prog w) l.prog w K mg base N x (defScope st) f cdv A outer s H E) E (defBody st) z)
    (rd:∀ ds E Q,S ds E Q→z E { nx:=fun _=>Q .non,rt:=Q } (rho N ds))
    (sc:FnScope N ["_law_script"] (defScope st):=by exact ⟨rfl,rfl,rfl,by decide +kernel,rfl,by decide +kernel,by decide +kernel⟩)
    (len:∀ ds E Q,S ds E Q→ds.length=1:=by exact fnS.len (ps:=["_law_script"]) fun _=>rfl)
    (hb:∀ (kV doc pm:Value) (an:Option Addr) (cdv ct:Value) (s:Shared) (v:Value),BindsTo s (PySem.W.fnOf x x (defArgs st) (defBody st) (defScope st) .none kV doc pm an cdv ct) ⟨[v],[]⟩ [("_law_script",v)]:=by exact fun _ _ _ _ _ _ _ _=>.of_eq rfl) :
    ∃ fd:FuncData,(∀ (s:Shared) (v:Value),BindsTo s fd ⟨[v],[]⟩ [("_law_script",v)])∧∀ base:Heap,K.In base→base.Ns mainGlobals mg→FnOk l.prog w K mg base (CXv l.prog w) (k+1) fa fd ["_law_script"] (spOf K S):=by
  obtain ⟨f,fd,F,m,q⟩:=h
  rw [m] at hfa
  cases hfa
  refine ⟨fd,?_,fun base _ _=>fnpx (z:=z) F sc len (fun cdv A outer s H E hr hx hw=>hbody base sc.nd _ cdv A outer s H E hr hx hw) rd⟩
  obtain ⟨_,_,_,_,_,_,_,_,_,rfl,_⟩:=F.ex
  exact hb _ _ _ _ _ _
end
section
variable {X:Cx} {EX:XK} {pos:Pos} {x:Str} {j k:Nat} {ps:List Str} {S:Zaq} {l:List (Str×Zaq)}
theorem Zca {i:Int} (h:CI X.mg x i) (hg:Gl X x:=by rfl) (hd:(x == ("__debug__" : Str))=false:=by decide):PX X EX (.Name x pos) (wC (.int i)):=let ⟨_,m⟩:=h;px_gint m hg hd
theorem px_gtupE {ds:List D} (h:CT X.K X.mg x ds) (hg:Gl X x:=by rfl) (hd:(x == ("__debug__" : Str))=false:=by decide):PX X EX (.Name x pos) (wC (.tup ds)):=let ⟨_,_,m,k,r⟩:=h;px_gtup m k r hg hd
end
section
variable {K:PySem.W.Frag} {n m:Str} {D C f:Addr} {M:List Str}
end
end LP
namespace L2
open PySem PySem.Spec PyProof.Rows
section
variable {X:Cx}
end
end L2
namespace LP
open PySem PySem.Spec PyProof.Rows L2
section
variable {X:Cx}
end
end LP
namespace L2
open PySem PySem.Spec PyProof.Rows
section
variable {X:Cx}
end
end L2
namespace LP
open PySem PySem.Spec PyProof.Rows L2
section
variable {X:Cx}
end
end LP
namespace L2
open PySem PySem.Spec PyProof.Rows
section
variable {X:Cx} {pos:Pos}
end
end L2
namespace LP
open PySem PySem.Spec PyProof.Rows L2
section
variable {X:Cx} {es:List Expr} {pos:Pos}
end
theorem Ext.none {W W':Wd} {H H':Hp} {a:Addr} (x:Ext W H W' H') (h:H' a=none):H a=none:=by
  cases e:H a with
  | none=>rfl
  | some o=>
    by_cases p:W.Pn a
    · obtain ⟨po,_⟩:=x.ok.p a (x.p a p)
      unfold PenOk at po
      rw [h] at po
      simp at po
    · rw [x.h a o e p] at h
      cases h
abbrev LSpec:=List D→(Ex→Prop)→(List D→Prop)→Prop
abbrev WSL:=(Ex→Prop)→(List D→Prop)→Rho→Prop
section
variable {X:Cx} {EX:XK} {e:Expr} {pos:Pos} {st:Stmt} {rest:List Stmt}
end
section
variable {X:Cx} {EX:XK} {pos p:Pos} {e:Expr} {es:List Expr} {t:WA} {x:Str} {k j:Nat} {ps:List Str} {S:LSpec}
end
section
variable {P:Program} {w:World} {K:PySem.W.Frag} {mg:Str→Option Value} {base:Heap} {x:Str} {st:Stmt} {N ps:List Str} {k:Nat} {S:LSpec} {z:WSL}
end
section
variable {X:Cx} {EX:XK} {pos:Pos} {e:Expr} {w:WE}
def zAug (i:Nat) (w:WE):WS:=fun E N ρ=>match ρ[i]? with
  | some (.d (.int c))=>w E ρ (isI fun d=>N.nx (ρ.set i (.d (.int (c+d)))))
  | _=>False
theorem pz_aug (i:Nat) {x:Str} {pos':Pos} (he:PX X EX e w) (hN:X.N.Nodup) (hi:X.N[i]? = some x:=by rfl) (hx:Loc X.env.scope x:=by first | exact Or.inl rfl | exact Or.inr rfl)
    (hf:X.fn x=true∨X.env.scope.names.lookup x=some .local:=by first | exact .inl rfl | exact .inr rfl | assumption):PZ X EX (.AugAssign (.Name x pos') .Add e pos) (zAug i w):=by
  obtain ⟨t,p,k⟩:=he.t
  refine ⟨⟨_,ps_aug hN hi hx p ip_add hf,fun W0 H0 F W σ H ρ E Dn N s fl eo no h=>?_⟩,fun E ρ N N' hl q=>?_⟩
  · unfold zAug at h
    split at h
    · rename_i c ec
      obtain ⟨v,e1,r⟩:=s.d i _ ec
      cases r
      refine ⟨_,e1,k W0 H0 W σ H ρ E _ s eo (he.mono _ _ _ _ (fun d hd v W1 H1 x1 r1=>?_) h)⟩
      obtain ⟨dn,rfl,hn⟩:=Zeh hd
      cases r1
      exact ⟨c,dn,rfl,rfl,no.nx W1 _ H1 _ ((s.step x1).set (.int _)) (fl.ext x1) hn⟩
    · exact h.elim
  · unfold zAug at q ⊢
    split at q
    · exact he.mono _ _ _ _ (fun d hd=>isI.mono (fun n hn=>hl.nx _ hn) _ hd) q
    · exact q.elim
end
section
variable {X:Cx} {EX:XK} {pos:Pos} {c e:Expr} {es:List Expr} {wc:WE} {t:WA} {j:Nat}
end
section
variable {X:Cx} {EX:XK} {st:Stmt} {pos:Pos}
def zCt:WS:=fun _ N ρ=>N.ct ρ
def Zfq (i j:Nat) (w:WE) (t:WA):WS:=fun E N ρ=>w E ρ fun x=>t E ρ fun ys=>N.nx ((ρ.set i (.d x)).set j (.ow ys))
def zExt (i:Nat) (t:WA):WS:=fun E N ρ=>match ρ[i]? with
  | some (.ow xs)=>t E ρ fun ys=>xs.length+ys.length≤small∧N.nx (ρ.set i (.ow (xs++ys)))
  | _=>False
end
end LP
namespace L2
open PySem PySem.Spec PyProof.Rows
section
variable {X:Cx} {a b:Expr} {rest:List Expr} {pos:Pos} {ta tb:TE}
end
end L2
namespace LP
open PySem PySem.Spec PyProof.Rows L2
section
variable {X:Cx} {EX:XK} {a b:Expr} {rest:List Expr} {pos:Pos} {wa wb:WE}
def wOrT (wa wb:WE):WE:=fun E ρ Q=>wa E ρ fun d=>match d with
  | .tup xs=>if xs.isEmpty=true then wb E ρ Q else Q (.tup xs)
  | _=>False
end
end LP
namespace L2
open PySem PySem.Spec PyProof.Rows
section
variable {X:Cx} {pos:Pos}
end
end L2
namespace LP
open PySem PySem.Spec PyProof.Rows L2
section
variable {X:Cx} {EX:XK} {pos:Pos}
def zPar3 (i j k:Nat) (t:WA):WS:=fun E N ρ=>t E ρ fun ds=>match ds with
  | [x,y,z]=>N.nx (((ρ.set i (.d x)).set j (.d y)).set k (.d z))
  | _=>False
end
namespace B.C.K4
end B.C.K4
end LP
set_option exponentiation.threshold 2000
namespace LP
open PySem PySem.Spec PyProof.Rows L2
namespace B.C.K4
end B.C.K4
def nmG (m:Int):D→Bool
  | .tup xs=>xs.all (inR (-50) 50) && decide (1≤(xs.length:Int)) && decide ((xs.length:Int)≤m)
  | _=>false
def nnR (x:D) (m:Int):Except Str D:=if nmG m x=true then .ok .non else .error "NoRow"
def ZaG:Zaq:=xS (fun x:D×Int=>[x.1,.int x.2]) (fun x=>kd x.1=true) fun x=>nnR x.1 x.2
section
variable {E:Ex→Prop} {Q:D→Prop} {x y:D} {r t:List Int} {n:Nat}
end
abbrev Zd5:List Str:=["thing", "most"]
abbrev ZfB:List Str:=["thing", "most"]
def ZcN:WS:=(zIf (wOr (wNot (wT (wF Zcg (Zab (wN 0) (Zab (wC (.int (-50))) (Zab (wC (.int (50))) aNil)))))) (wNot (wT (ZaA gLeI gLeI (wC (D.int (1))) (wB gLen (Zab (wN 0) aNil)) (wN 1))))) (ZaO (PySem.Str.ofString "NoRow")) zNx)
local macro_rules | `(tactic| walk_at "w1")=>`(tactic| simp only [zRet,zIf,zSet,zNx,ZbQ,zPub,zOwn,zFor,ZaI,zPar,zAsg,zApp,Zb6,zInk,ZbE,zNox,ZaO,zTry,wM,Zb9,Zb7,wOrV,Zcr,wAnd,wOr,wNot,wT,wIf,w1,w2,wB,wF,wL,wTup,wCut,ZaA,aB,aLst,Zab,aNil,aLC,Zbz,ZaN,iS,iL,iT,iR1,iR2,iZ,Zbt,ZaL,wN,wC,gN,gTp,Zap,ZaZ,gIxP,Zai,wPen,wBor,tBor,aBor,wIxO,aAdd,aMul,aCut,rho,pub,List.map_cons,List.map_nil,List.length_cons,List.length_nil,List.cons_append,List.nil_append,List.replicate,List.getElem?_cons_zero,List.getElem?_cons_succ,List.set_cons_zero,List.set_cons_succ,Nat.reduceSub,Nat.reduceAdd,List.replicate_succ,List.replicate_zero,true_and,Bool.false_eq_true,if_true,if_false,ite_true,ite_false,Int.toNat_natCast,Bool.not_true,Bool.not_false,
  Zdk,Zdj,Zdi,Zb5,Zb4,Zdh,Zb0,ZbY,ZbZ,Zb2,Zb1,Zb3,Zb,Zbc,Zba,Zbb,Zbe,Zbd,Zbf,ZbR,ZbU,ZbS,ZbT,ZbW,ZbV,ZbX,Zbi,Zbl,Zbj,Zbk,Zbn,Zbm,Zbo,Za3,Za5,Za4,Za7,Za6,Za0,Za1,Za2,Zau,Zav,Zaw,Zbr,Zbq,Zbp,Za9,Za8,e_I2,Zdm,Zdg,Zbh,Zbg,Zdl,e_i1,e_i2])
local macro_rules | `(tactic| walk_at "st")=>`(tactic| ((try dsimp only at *);(try walk_at "w1");(try dsimp only)))
local macro_rules | `(tactic| walk_at "nx")=>`(tactic| ((try dsimp only);(refine Zaj ?_);walk_at "st"))
theorem Zfv:∀ ds E Q,ZaG ds E Q→ZcN E { nx:=fun _=>Q .non,rt:=Q } (rho Zd5 ds):=by
  rintro _ E Q ⟨⟨x,m⟩,rfl,hk,q⟩
  dsimp only at hk q
  unfold nnR at q
  unfold ZcN
  walk_at "st"
  refine ZeW hk ?_
  walk_at "st"
  cases ha:areW (-50) 50 x with
  | false=>
    have:nmG m x=false:=by
      cases x<;>try rfl
      simp only [areW] at ha
      simp only [nmG,ha,Bool.false_and]
    rw [this] at q
    simpa [exQ] using q
  | true=>
    cases x<;>try (cases ha;done)
    rename_i xs
    simp only [areW] at ha
    walk_at "st"
    simp only [nmG,ha,Bool.true_and] at q
    cases h1:decide (1≤(xs.length:Int)) with
    | false=>rw [h1] at q;simpa [exQ] using q
    | true=>
      cases h2:decide ((xs.length:Int)≤m) with
      | false=>rw [h1,h2] at q;simpa [exQ] using q
      | true=>rw [h1,h2] at q;simpa [exQ] using q
namespace B.C.K4
structure Cm (b:Nat) (e:Int) (c:List Int) (r:List Rat):Prop where
  e0:e≠0
  eb:e.natAbs≤2 ^ b
  cb:∀ x∈c,x.natAbs≤2 ^ b
  row:r=c.map fun x=>Rat.divInt x e
structure IsN (ns:List Int):Prop where
  n1:1≤ns.length
  n10:ns.length≤10
  b:∀ x∈ns,-50≤x∧x≤50
def msF (ns:List Int) (r:List Rat):List Nat:=(List.range' r.length (ns.length - r.length)).filter fun p=>!(dot r (Zan (ns.take p)).reverse == ((ns.getD p 0:Int):Rat))
def msD (ns:List Int) (r:List Rat):List D:=(msF ns r).map fun (k:Nat)=>D.int (k:Int)
def ft (b:Nat) (r:List Rat):Prop:=(∀ x∈r,Sz b x)∧(r.length+1)*(b+7)+1 < 8990
def fits (d:D):Prop:=∀ r:List Rat,d=rowq r→∃ b,ft b r
def nI (x:D):List Int:=sI x
def mbR (x y:D):Except Str D:=if nmG 10 x=true∧ZcH 0 (nI x).length y=true then .ok (.lst (msD (nI x) (rQ y))) else .error "NoRow"
def foR (x y:D):Except Str D:=if nmG 10 x=true then .ok (.bl (ZcH 0 (nI x).length y && (msF (nI x) (rQ y)).isEmpty)) else .error "NoRow"
def ZdF:Zaq:=fnS (fun x:List Int×D=>[Zag x.1,x.2]) (fun x=>IsN x.1∧kd x.2=true) fun x=>.bl (ZcH 0 (x.1.length:Int) x.2)
def Zcz:Zaq:=xS (fun x:D×D=>[x.1,x.2]) (fun x=>kd x.1=true∧kd x.2=true∧fits x.2) fun x=>mbR x.1 x.2
def Zbw:Zaq:=xS (fun x:D×D=>[x.1,x.2]) (fun x=>kd x.1=true∧kd x.2=true∧fits x.2) fun x=>foR x.1 x.2
def ZbB:Zaq:=rlS (fun _:Unit=>[.pen]) (fun _=>True) fun _ d=>∃ ns,IsN ns∧d=Zag ns
section
variable {E:Ex→Prop} {Q:D→Prop} {QL:List D→Prop} {x y d:D} {n m k b:Nat} {a c:Int} {ns:List Int} {r p q:List Rat} {u v:Rat}
theorem u_is_rule (h:IsN ns) (h':kd d=true) (z:Q (.bl (ZcH 0 (ns.length:Int) d))):ZdF [Zag ns,d] E Q:=⟨(ns,d),rfl,⟨h,h'⟩,z⟩
theorem ZeN (z:∀ ns,IsN ns→Q (Zag ns)):ZbB [.pen] E Q:=⟨(),rfl,trivial,fun d ⟨ns,h,e⟩=>by rw [e];exact z ns h⟩
end
end B.C.K4
namespace B.C.K4
abbrev N_is_rule:List Str:=["numbers", "thing"]
abbrev ps_is_rule:List Str:=["numbers", "thing"]
def Zfm:WS:=(zRet (wF Zbv (Zab (wN 1) (Zab (wC (D.int (0))) (Zab (wB gLen (Zab (wN 0) aNil)) aNil)))))
abbrev N_follows:List Str:=["numbers", "thing"]
abbrev ps_follows:List Str:=["numbers", "thing"]
def Zfp:WS:=(zSeq (ZbQ (wF ZaG (Zab (wN 0) (Zab (wC (.int (10))) aNil)))) (zRet (Zb7 (wF ZdF (Zab (wN 0) (Zab (wN 1) aNil))) (w2 (gEq false) (wB gLen (Zab (wF Zcz (Zab (wN 0) (Zab (wN 1) aNil))) aNil)) (wC (D.int (0)))))))
abbrev Zc0:List Str:=["_law_pen", "_law_many", "_law_most", "_law_found", "_law_way", "_law_size", "_law_rule", "_law_place", "_law_number"]
abbrev Zes:List Str:=["_law_pen"]
def Zbx:WS:=(zSeq (zSet 1 (w2 gAdd (wC (D.int (1))) (wF ZaC (Zab (wN 0) (Zab (wC (D.int (10))) aNil))))) (zSeq (zSet 2 (w2 gIx (wL (aLst (Zab (wC (D.int (1))) (Zab (wC (D.int (2))) (Zab (wC (D.int (50))) aNil))))) (wF ZaC (Zab (wN 0) (Zab (wC (D.int (3))) aNil))))) (zSeq (zOwn 3 (aLC (iR1 (Zab (wN 1) aNil)) 1 [0,2] (gN 0) ZaN (w2 ZdB (wF ZaC (Zab (wN 1) (Zab (w2 gAdd (w2 gMul (wC (D.int (2))) (wN 2)) (wC (D.int (1)))) aNil))) (wN 2)))) (zSeq (zSet 4 (wF ZaC (Zab (wN 0) (Zab (wC (D.int (6))) aNil)))) (zSeq (zSet 5 (w2 gAdd (wC (D.int (1))) (wF ZaC (Zab (wN 0) (Zab (wC (D.int (4))) aNil))))) (zSeq (zOwn 6 (aLC (iR1 (Zab (wN 5) aNil)) 1 [0] (gN 0) ZaN (w2 ZdB (wF ZaC (Zab (wN 1) (Zab (wC (D.int (5))) aNil))) (wC (D.int (2)))))) (zPub 6 (zSeq (zIf (wT (w2 gGtI (wN 4) (wC (D.int (1))))) (zPub 6 (zNox (zFor (iR2 (Zab (wN 5) (Zab (wN 1) aNil))) (gN 7) (zPub 6 (zSeq (zSet 8 (wBor 3 (wB gSum (Zab (wL (aLC (iR1 (Zab (wN 5) aNil)) 1 [3,6,7] (gN 0) ZaN (w2 gMul (w2 gIx (wN 2) (wN 0)) (w2 gIx (wN 1) (w2 ZdB (w2 ZdB (wN 3) (wC (D.int (1)))) (wN 0)))))) aNil)))) (zIf (wT (ZaA gLeI gLeI (w1 gNeg (wC (D.int (50)))) (wN 8) (wC (D.int (50))))) (Zb6 3 (wN 7) (wN 8)) zNx)))))) zNx) (zSeq (zIf (wT (w2 (gEq false) (wN 4) (wC (D.int (0))))) (zOwn 3 (aBor 3 (aAdd (w2 gMul (wL (aLst (Zab (wC (D.int (0))) aNil))) (wF ZaC (Zab (wN 0) (Zab (wN 1) aNil)))) (wN 3)))) zNx) (zSeq (zIf (wAnd (wT (w2 (gEq false) (wN 4) (wC (D.int (5))))) (wT (w2 (gEq false) (wF ZaC (Zab (wN 0) (Zab (wC (D.int (2))) aNil))) (wC (D.int (0)))))) (Zb6 3 (w1 gNeg (wC (D.int (1)))) (w2 ZdB (wF ZaC (Zab (wN 0) (Zab (wC (D.int (101))) aNil))) (wC (D.int (50))))) zNx) (zPub 3 (zRet (wB ZbM (Zab (wCut (wN 3) Zbt (ZaL (wN 1))) aNil))))))))))))))
end B.C.K4
local macro_rules | `(tactic| walk_at "w1")=>`(tactic| simp only [zRet,zIf,zSet,zNx,ZbQ,zPub,zOwn,zFor,ZaI,zPar,zAsg,zApp,Zb6,zInk,ZbE,zNox,ZaO,zTry,zCt,zExt,Zfq,wSel,wM,Zb9,Zb7,wOrV,Zcr,wAnd,wOr,wNot,wT,wIf,w1,w2,wB,wF,wL,wTup,wCut,ZaA,aB,aLst,Zab,aNil,aLC,Zbz,ZaN,iS,iE,iL,iT,iR1,iR2,iZ,Zbt,ZaL,wN,wC,gN,gTp,Zap,ZaZ,gIxP,Zai,wPen,wBor,tBor,aBor,wIxO,aAdd,aMul,aCut,rho,pub,List.map_cons,List.map_nil,List.length_cons,List.length_nil,List.cons_append,List.nil_append,List.replicate,List.getElem?_cons_zero,List.getElem?_cons_succ,List.set_cons_zero,List.set_cons_succ,Nat.reduceSub,Nat.reduceAdd,List.replicate_succ,List.replicate_zero,true_and,Bool.false_eq_true,if_true,if_false,ite_true,ite_false,Int.toNat_natCast,Bool.not_true,Bool.not_false,
  Zdk,Zdj,Zdi,Zb5,Zb4,Zdh,Zb0,ZbY,ZbZ,Zb2,Zb1,Zb3,Zb,Zbc,Zba,Zbb,Zbe,Zbd,Zbf,ZbR,ZbU,ZbS,ZbT,ZbW,ZbV,ZbX,Zbi,Zbl,Zbj,Zbk,Zbn,Zbm,Zbo,Za3,Za5,Za4,Za7,Za6,Za0,Za1,Za2,Zau,Zav,Zaw,Zbr,Zbq,Zbp,Za9,Za8,e_I2,Zdm,Zdg,Zbh,Zbg,Zdl,e_i1,e_i2])
theorem ZfG {x:D} (h:nmG 10 x=true):∃ ns,x=Zag ns∧B.C.K4.IsN ns:=by
  cases x<;>try (cases h;done)
  rename_i xs
  simp only [nmG,Bool.and_eq_true,decide_eq_true_eq,List.all_eq_true] at h
  obtain ⟨⟨h1,h2⟩,h3⟩:=h
  have e:xs=(xs.map toI).map D.int:=by
    rw [List.map_map]
    refine ((List.map_congr_left fun x hx=>?_).trans (List.map_id _)).symm
    have:=h1 x hx
    cases x<;>first | rfl | cases this
  refine ⟨xs.map toI,by unfold Zag;rw [← e],⟨by rw [List.length_map];omega,by rw [List.length_map];omega,fun i hi=>?_⟩⟩
  obtain ⟨x,hx,rfl⟩:=List.mem_map.mp hi
  have:=h1 x hx
  cases x<;>first | (cases this;done) | skip
  simp only [inR,Bool.and_eq_true,decide_eq_true_eq] at this
  exact this
theorem row0_inv {m:Nat} {y:D} (h:ZcH 0 (m:Int) y=true):∃ r,y=rowq r∧r.length≤m:=by
  cases y<;>try (cases h;done)
  rename_i xs
  simp only [ZcH,Bool.and_eq_true,decide_eq_true_eq] at h
  obtain ⟨r,rfl⟩:=rows_inv h.2
  have:=h.1.2
  rw [List.length_map] at this
  exact ⟨r,rfl,by omega⟩
theorem row0_of {m:Nat} {r:List Rat} (h:r.length≤m):ZcH 0 (m:Int) (rowq r)=true:=by
  show (decide ((0:Int)≤((r.map shq).length:Int)) && decide (((r.map shq).length:Int)≤(m:Int)) && (r.map shq).all isSh)=true
  rw [List.length_map,decide_eq_true (by omega),decide_eq_true (by omega)]
  rw [Bool.and_self,Bool.true_and,List.all_eq_true]
  intro x hx
  obtain ⟨q,_,rfl⟩:=List.mem_map.mp hx
  first | exact isSh_shq q | exact isSh_shq | simp
namespace B.C.K4
theorem IsN.nm {ns:List Int} (h:IsN ns):nmG 10 (Zag ns)=true:=by
  have h1:=h.n1
  have h5:=h.n10
  unfold Zag
  simp only [nmG,Bool.and_eq_true,decide_eq_true_eq,List.all_eq_true,List.length_map]
  refine ⟨⟨fun x hx=>?_,by omega⟩,by omega⟩
  obtain ⟨i,hi,rfl⟩:=List.mem_map.mp hx
  have:=h.b i hi
  simp only [inR,Bool.and_eq_true,decide_eq_true_eq]
  exact this
theorem rd_is_rule:∀ ds E Q,ZdF ds E Q→Zfm E { nx:=fun _=>Q .non,rt:=Q } (rho N_is_rule ds):=by
  rintro _ E Q ⟨⟨ns,d⟩,rfl,⟨h1,h2⟩,q⟩
  dsimp only at h1 h2 q
  unfold Zfm
  walk_at "st"
  exact Zdt h2 q
theorem rng_r (L m:Nat):rng (L:Int) m=(List.range' L m).map fun (k:Nat)=>D.int (k:Int):=by
  unfold rng
  rw [List.range'_eq_map_range,List.map_map]
  refine List.map_congr_left fun k _=>?_
  simp
theorem cast_sz {ns:List Int} (h:IsN ns):∀ x∈Zan ns,Sz 6 x:=fun x hx=>by
  obtain ⟨i,hi,rfl⟩:=List.mem_map.mp hx
  have:=h.b i hi
  exact Sz.int (n:=6) i (by decide) (by show i.natAbs < 64;omega)
theorem br_of {b p:Nat} {ns:List Int} {r:List Rat} (h:IsN ns) (hf:ft b r):BR r (Zan (ns.take p)).reverse:=by
  refine ⟨b,6,hf.1,fun x hx=>?_,?_⟩
  · obtain ⟨i,hi,rfl⟩:=List.mem_map.mp (List.mem_reverse.mp hx)
    exact cast_sz h _ (List.mem_map_of_mem (List.mem_of_mem_take hi))
  · have:=hf.2
    rw [Nat.succ_mul] at this
    rw [show b+6+1=b+7 from rfl]
    omega
theorem u_nn {x:D} {E:Ex→Prop} {Q:D→Prop} (h:kd x=true) (q:exQ E Q (if nmG 10 x=true then .ok .non else .error "NoRow")):ZaG [x,.int 10] E Q:=⟨(x,10),rfl,h,q⟩
theorem Zeg {ns:List Int} (h:IsN ns):kd (Zag ns)=true:=by
  have:=h.n10
  unfold Zag
  rw [kd,Bool.and_eq_true]
  refine ⟨decide_eq_true (by rw [List.length_map];omega),kds_of fun x hx=>?_⟩
  obtain ⟨i,_,rfl⟩:=List.mem_map.mp hx
  rw [kd]
theorem rd_follows:∀ ds E Q,Zbw ds E Q→Zfp E { nx:=fun _=>Q .non,rt:=Q } (rho N_follows ds):=by
  rintro _ E Q ⟨⟨x,y⟩,rfl,⟨h1,h2,h3⟩,q⟩
  dsimp only at h1 h2 h3 q
  unfold Zfp
  walk_at "nx"
  refine u_nn h1 ?_
  unfold foR at q
  by_cases hn:nmG 10 x=true
  case neg=>
    rw [if_neg hn] at q ⊢
    exact q
  rw [if_pos hn] at q ⊢
  obtain ⟨ns,rfl,hN⟩:=ZfG hn
  unfold nI at q
  rw [ZaX] at q
  simp only [exQ] at q ⊢
  walk_at "st"
  refine u_is_rule hN h2 ?_
  by_cases hy:ZcH 0 (ns.length:Int) y=true
  case neg=>
    rw [Bool.eq_false_iff.mpr hy] at q ⊢
    exact q
  rw [hy] at q ⊢
  simp only [isB,if_true]
  refine ⟨(Zag ns,y),rfl,⟨h1,h2,h3⟩,?_⟩
  dsimp only
  unfold mbR nI
  rw [ZaX,if_pos ⟨hn,hy⟩]
  simp only [exQ]
  walk_at "st"
  have e:((msD ns (rQ y)).length:Int)=((msF ns (rQ y)).length:Int):=by unfold msD;rw [List.length_map]
  rw [e]
  rw [Bool.true_and] at q
  have e2:(((msF ns (rQ y)).length:Int) == 0)=(msF ns (rQ y)).isEmpty:=by
    cases msF ns (rQ y) with
    | nil=>rfl
    | cons a l=>simp;omega
  rw [e2]
  exact q
theorem dot_take:∀ (r q:List Rat),dot r q=dot r (q.take r.length)
  | [],_=>rfl
  | x::r,[]=>by simp
  | x::r,y::q=>by
    rw [List.length_cons,List.take_succ_cons,dot,dot,dot_take r q]
def ahF (ns:List Int) (p L:Nat):List Int:=(List.range L).map fun k=>ns.getD (p - 1 - k) 0
theorem ah_rev {ns:List Int} {p L:Nat} (hp:p≤ns.length) (hL:L≤p):Zan (ahF ns p L)=((Zan (ns.take p)).reverse).take L:=by
  unfold Zan ahF
  rw [← List.map_reverse,← List.map_take]
  congr 1
  apply List.ext_getElem?
  intro k
  rw [List.getElem?_map,List.getElem?_take]
  by_cases hk:k < L
  · rw [if_pos hk,List.getElem?_range hk,List.getElem?_reverse (by rw [List.length_take];omega),List.length_take,List.getElem?_take]
    rw [if_pos (by omega),Nat.min_eq_left hp,Option.map_some,List.getD_eq_getElem?_getD,List.getElem?_eq_getElem (by omega)]
    rfl
  · rw [if_neg hk,List.getElem?_eq_none (by rw [List.length_range];omega)]
    rfl
end B.C.K4
local macro_rules | `(tactic| walk_at "w1")=>`(tactic| simp only [zRet,zIf,zSet,zNx,ZbQ,zPub,zOwn,zFor,ZaI,zPar,zAsg,zApp,Zb6,zInk,ZbE,zNox,ZaO,zTry,wM,Zb9,Zb7,wOrV,Zcr,wAnd,wOr,wNot,wT,wIf,w1,w2,wB,wF,wL,wTup,wCut,ZaA,aB,aLst,Zab,aNil,aLC,Zbz,ZaN,iS,iL,iT,iR1,iR2,iZ,Zbt,ZaL,wN,wC,gN,gTp,Zap,ZaZ,gIxP,Zai,wPen,wBor,tBor,aBor,wIxO,aAdd,aMul,aCut,rho,pub,List.map_cons,List.map_nil,List.length_cons,List.length_nil,List.cons_append,List.nil_append,List.replicate,List.getElem?_cons_zero,List.getElem?_cons_succ,List.set_cons_zero,List.set_cons_succ,Nat.reduceSub,Nat.reduceAdd,List.replicate_succ,List.replicate_zero,true_and,Bool.false_eq_true,if_true,if_false,ite_true,ite_false,Int.toNat_natCast,Bool.not_true,Bool.not_false,
  Zdk,Zdj,Zdi,Zb5,Zb4,Zdh,Zb0,ZbY,ZbZ,Zb2,Zb1,Zb3,Zb,Zbc,Zba,Zbb,Zbe,Zbd,Zbf,ZbR,ZbU,ZbS,ZbT,ZbW,ZbV,ZbX,Zbi,Zbl,Zbj,Zbk,Zbn,Zbm,Zbo,Za3,Za5,Za4,Za7,Za6,Za0,Za1,Za2,Zau,Zav,Zaw,Zbr,Zbq,Zbp,Za9,Za8,e_I2,Zdm,Zdg,Zbh,Zbg,Zdl,e_i1,e_i2])
namespace B.C.E
end B.C.E
local macro_rules | `(tactic| walk_at "w1")=>`(tactic| simp only [zRet,zIf,zSet,zNx,ZbQ,zPub,zOwn,zFor,ZaI,zPar,zAsg,zApp,Zb6,zInk,ZbE,zNox,ZaO,zTry,zCt,zExt,Zfq,wSel,wM,Zb9,Zb7,wOrV,Zcr,wAnd,wOr,wNot,wT,wIf,w1,w2,wB,wF,wL,wTup,wCut,ZaA,aB,aLst,Zab,aNil,aLC,Zbz,ZaN,iS,iE,iL,iT,iR1,iR2,iZ,Zbt,ZaL,wN,wC,gN,gTp,Zap,ZaZ,gIxP,Zai,wPen,wBor,tBor,aBor,wIxO,aAdd,aMul,aCut,rho,pub,List.map_cons,List.map_nil,List.length_cons,List.length_nil,List.cons_append,List.nil_append,List.replicate,List.getElem?_cons_zero,List.getElem?_cons_succ,List.set_cons_zero,List.set_cons_succ,Nat.reduceSub,Nat.reduceAdd,List.replicate_succ,List.replicate_zero,true_and,Bool.false_eq_true,if_true,if_false,ite_true,ite_false,Int.toNat_natCast,Bool.not_true,Bool.not_false,
  Zdk,Zdj,Zdi,Zb5,Zb4,Zdh,Zb0,ZbY,ZbZ,Zb2,Zb1,Zb3,Zb,Zbc,Zba,Zbb,Zbe,Zbd,Zbf,ZbR,ZbU,ZbS,ZbT,ZbW,ZbV,ZbX,Zbi,Zbl,Zbj,Zbk,Zbn,Zbm,Zbo,Za3,Za5,Za4,Za7,Za6,Za0,Za1,Za2,Zau,Zav,Zaw,Zbr,Zbq,Zbp,Za9,Za8,e_I2,Zdm,Zdg,Zbh,Zbg,Zdl,e_i1,e_i2])
namespace B.C.K4
def szB (b:Nat):D→Bool
  | .tup [.int i,.int j]=>decide (i.natAbs < 2 ^ b) && decide (j.natAbs < 2 ^ b)
  | _=>true
theorem szB_shq {b:Nat} {q:Rat}:szB b (shq q)=true↔Sz b q:=by
  show (decide (q.num.natAbs < 2 ^ b) && decide ((q.den:Int).natAbs < 2 ^ b))=true↔_
  rw [Bool.and_eq_true,decide_eq_true_eq,decide_eq_true_eq,Int.natAbs_natCast]
  exact Iff.rfl
theorem fits_tup {b:Nat} {xs:List D} (hl:(xs.length+1)*(b+7)+1 < 8990) (h:∀ x∈xs,szB b x=true):fits (.tup xs):=fun r e=>by
  cases e
  refine ⟨b,fun q hq=>szB_shq.mp (h _ (List.mem_map_of_mem hq)),?_⟩
  rw [List.length_map] at hl
  exact hl
theorem Zfg {z z':WS} {E:Ex→Prop} {N:Nds} {ρ:Rho} (I:Rho→Prop) (h:∀ nx:Rho→Prop,(∀ ρ,I ρ→nx ρ)→z E { N with nx:=nx } ρ) (h2:∀ ρ,I ρ→z' E N ρ):zSeq z z' E N ρ:=h _ h2
theorem Zep:∀ ds E Q,ZbB ds E Q→Zbx E { nx:=fun _=>Q .non,rt:=Q } (rho Zc0 ds):=by
  rintro _ E Q ⟨_,rfl,_,q⟩
  replace q:∀ ns,IsN ns→Q (Zag ns):=fun ns h=>q _ ⟨ns,h,rfl⟩
  show Zbx E _ [.d .pen,.un,.un,.un,.un,.un,.un,.un,.un]
  unfold Zbx
  walk_at "nx"
  refine ZaQ (n:=10) (by decide) (by decide) fun m0 hm0=>?_
  walk_at "st"
  rw [show (1:Int)+(m0:Int)=((m0+1:Nat):Int) by omega]
  walk_at "nx"
  refine ⟨by decide,ZaQ (n:=3) (by decide) (by decide) fun k3 hk3=>?_⟩
  obtain ⟨g,hg,hat⟩:=at3 (a:=1) (b:=2) (c:=50) hk3
  refine ⟨_,hat,?_⟩
  walk_at "nx"
  have hg50:1≤g∧g≤50:=by omega
  clear hat hg
  refine ⟨by omega,by omega,?_⟩
  refine lc_some (R:=fun _ y=>∃ i:Int,y = .int i∧-50≤i∧i≤50) (fun d hd Q hq=>?_) .un [] (by simp [rng,small];omega) fun ys hl hys=>?_
  · walk_at "st"
    refine ⟨⟨Zcw (n:=2) (by decide) (by omega),Zcw (n:=10) (by omega) (by omega)⟩,?_⟩
    have e:(2:Int)*(g:Int)+1=((2*g+1:Nat):Int):=by omega
    rw [e]
    refine ZaQ (by omega) (by omega) fun j hj=>?_
    walk_at "st"
    exact hq _ ⟨_,rfl,by omega,by omega⟩
  obtain ⟨s,rfl,hs⟩:=ints_of fun y hy=>let ⟨_,_,h⟩:=hys y hy;h
  simp only [rng,List.length_map,List.length_range] at hl
  rw [List.nil_append]
  walk_at "nx"
  refine ZaQ (n:=6) (by decide) (by decide) fun way hw=>?_
  walk_at "nx"
  refine ZaQ (n:=4) (by decide) (by decide) fun z0 hz0=>?_
  walk_at "st"
  rw [show (1:Int)+(z0:Int)=((z0+1:Nat):Int) by omega]
  walk_at "nx"
  refine ⟨by omega,by omega,?_⟩
  refine lc_some (R:=fun _ y=>∃ i:Int,y = .int i∧-2≤i∧i≤2) (fun d hd Q hq=>?_) .un [] (by simp [rng,small];omega) fun yt hlt hyt=>?_
  · walk_at "st"
    refine ZaQ (n:=5) (by decide) (by decide) fun j hj=>?_
    walk_at "st"
    exact hq _ ⟨_,rfl,by omega,by omega⟩
  have ints2:∃ u:List Int,yt=u.map D.int∧∀ x∈u,-2≤x∧x≤2:=by
    clear hlt
    induction yt with
    | nil=>exact ⟨[],rfl,by simp⟩
    | cons y l ih=>
      obtain ⟨_,_,i,e,hi⟩:=hyt y (by simp)
      obtain ⟨u,e2,hu⟩:=ih fun y' hy'=>hyt y' (by simp [hy'])
      refine ⟨i::u,by rw [e,e2];rfl,fun x hx=>?_⟩
      rcases List.mem_cons.mp hx with rfl | hx
      · exact hi
      · exact hu x hx
  obtain ⟨u,rfl,hu⟩:=ints2
  simp only [rng,List.length_map,List.length_range] at hlt
  rw [List.nil_append]
  generalize hM:m0+1=M at *
  generalize hZ:z0+1=Z at *
  clear hys hyt
  have M1:1≤M:=by omega
  have M10:M≤10:=by omega
  have Z4:Z≤4:=by omega
  have Z1:1≤Z:=by omega
  clear hM hZ
  refine Zfg (fun ρ=>∃ (fs:List Int) (s7 s8:SV),fs.length=M∧(∀ x∈fs,-50≤x∧x≤50)∧ρ=[.d .pen,.d (.int M),.d (.int g),.ow (fs.map D.int),.d (.int way),.d (.int Z),.d (.lst (u.map D.int)),s7,s8]) (fun nx hnx=>?_) ?_
  · refine Zce (b:=decide ((way:Int) > 1)) (fun P hP=>?_) (fun _=>?_) fun _=>hnx _ ⟨s,_,_,hl,hs,rfl⟩
    · walk_at "st"
      exact hP
    walk_at "st"
    refine ⟨by omega,?_⟩
    rw [show ((M:Int) - (Z:Int)).toNat=M - Z by omega]
    refine for_lo _ (fun j ρ=>∃ (fs:List Int) (s7 s8:SV),fs.length=M∧(∀ x∈fs,-50≤x∧x≤50)∧ρ=[.d .pen,.d (.int M),.d (.int g),.ow (fs.map D.int),.d (.int way),.d (.int Z),.d (.lst (u.map D.int)),s7,s8]) _ ?_ (fun ρ h=>hnx ρ h) _ ⟨s,_,_,hl,hs,rfl⟩
    rintro j hj _ ⟨fs,s7,s8,hfl,hfs,rfl⟩ nx2 hnx2
    rw [show (Z:Int)+(j:Int)=((Z+j:Nat):Int) by omega]
    have hp1:Z+j < M:=by omega
    have hp0:Z≤Z+j:=by omega
    generalize Z+j=p at *
    walk_at "st"
    refine Zaj ?_
    walk_at "st"
    refine ⟨by omega,by omega,?_⟩
    refine lc_some (R:=fun _ y=>∃ i:Int,y = .int i) (fun d hd Q hq=>?_) .un [] (by simp [rng,small];omega) fun ys hyl hys=>?_
    · unfold rng at hd
      obtain ⟨k,hk,rfl⟩:=List.mem_map.mp hd
      rw [List.mem_range] at hk
      rw [Int.zero_add]
      walk_at "st"
      rw [show (p:Int) - 1 - (k:Int)=((p - 1 - k:Nat):Int) by omega]
      obtain ⟨a,ha,ea⟩:∃ a∈u,atI (u.map D.int) (k:Int)=some (.int a):=⟨u[k]'(by omega),List.getElem_mem _,atI_nat (by rw [List.getElem?_map,List.getElem?_eq_getElem (by omega)];rfl)⟩
      obtain ⟨c,hc,ec⟩:∃ c∈fs,atI (fs.map D.int) ((p - 1 - k:Nat):Int)=some (.int c):=⟨fs[p - 1 - k]'(by omega),List.getElem_mem _,atI_nat (by rw [List.getElem?_map,List.getElem?_eq_getElem (by omega)];rfl)⟩
      have:=hu a ha
      have:=hfs c hc
      exact ⟨_,ea,_,ec,⟨Zcw (n:=2) (by show a.natAbs < 4;omega) (by omega),Zcw (n:=6) (by show c.natAbs < 64;omega) (by omega)⟩,hq _ ⟨_,rfl⟩⟩
    have hv:∃ vs:List Int,ys=vs.map D.int:=by
      clear hyl
      induction ys with
      | nil=>exact ⟨[],rfl⟩
      | cons y l ih=>
        obtain ⟨_,_,i,e⟩:=hys y (by simp)
        obtain ⟨vs,e2⟩:=ih fun y' hy'=>hys y' (by simp [hy'])
        exact ⟨i::vs,by rw [e,e2];rfl⟩
    obtain ⟨vs,rfl⟩:=hv
    rw [List.nil_append]
    refine ⟨vs,rfl,rfl,?_⟩
    walk_at "st"
    by_cases c1:(-50:Int)≤vs.sum
    case neg=>
      rw [decide_eq_false c1,if_neg Bool.false_ne_true]
      exact hnx2 _ ⟨fs,_,_,hfl,hfs,rfl⟩
    rw [decide_eq_true c1,if_pos rfl]
    by_cases c2:vs.sum≤(50:Int)
    case neg=>
      rw [decide_eq_false c2,if_neg Bool.false_ne_true]
      exact hnx2 _ ⟨fs,_,_,hfl,hfs,rfl⟩
    rw [decide_eq_true c2,if_pos rfl]
    refine ⟨p,?_,hnx2 _ ⟨fs.set p vs.sum,_,_,by rw [List.length_set];exact hfl,fun x hx=>?_,by rw [List.map_set]⟩⟩
    · rw [List.length_map];exact ixN_nat (by omega)
    · rcases List.mem_or_eq_of_mem_set hx with hx | rfl
      · exact hfs x hx
      · exact ⟨c1,c2⟩
  rintro _ ⟨fs,s7,s8,hfl,hfs,rfl⟩
  refine Zfg (fun ρ=>∃ (fs:List Int),M≤fs.length∧fs.length≤20∧(∀ x∈fs,-50≤x∧x≤50)∧ρ=[.d .pen,.d (.int M),.d (.int g),.ow (fs.map D.int),.d (.int way),.d (.int Z),.d (.lst (u.map D.int)),s7,s8]) (fun nx hnx=>?_) ?_
  · refine Zce (b:=decide (way=0)) (fun P hP=>?_) (fun _=>?_) fun _=>hnx _ ⟨fs,by omega,by omega,hfs,rfl⟩
    · walk_at "st"
      rw [show ((way:Int) == 0)=decide (way=0) by rw [Bool.eq_iff_iff];simp]
      exact hP
    walk_at "st"
    refine ⟨by decide,ZaQ (by omega) (by omega) fun j hj=>?_⟩
    walk_at "st"
    have er:(List.replicate j [D.int 0]).flatten++List.map D.int fs=(List.replicate j (0:Int)++fs).map D.int:=by
      rw [List.map_append,List.map_replicate]
      congr 1
      clear hj
      induction j with
      | zero=>rfl
      | succ j ih=>rw [List.replicate_succ,List.flatten_cons,ih];rfl
    have el:(List.replicate j [D.int 0]).flatten.length=j:=by
      have:=congrArg List.length er
      simp only [List.length_append,List.length_map,List.length_replicate] at this
      omega
    rw [el,er]
    refine ⟨by omega,by omega,by simp [small];omega,Zby (by rw [List.length_map];omega),flats_ints _,hnx _ ⟨List.replicate j 0++fs,by simp;omega,by simp;omega,fun x hx=>?_,rfl⟩⟩
    rcases List.mem_append.mp hx with hx | hx
    · rw [List.eq_of_mem_replicate hx];omega
    · exact hfs x hx
  rintro _ ⟨fs,hf1,hf2,hfs,rfl⟩
  refine Zfg (fun ρ=>∃ (fs:List Int),M≤fs.length∧fs.length≤20∧(∀ x∈fs,-50≤x∧x≤50)∧ρ=[.d .pen,.d (.int M),.d (.int g),.ow (fs.map D.int),.d (.int way),.d (.int Z),.d (.lst (u.map D.int)),s7,s8]) (fun nx hnx=>?_) ?_
  · walk_at "st"
    have same:nx [.d .pen,.d (.int M),.d (.int g),.ow (fs.map D.int),.d (.int way),.d (.int Z),.d (.lst (u.map D.int)),s7,s8]:=hnx _ ⟨fs,hf1,hf2,hfs,rfl⟩
    by_cases h5:way=5
    case neg=>
      rw [if_neg (by simp;omega)]
      exact same
    rw [if_pos (by simp;omega)]
    refine ZaQ (n:=2) (by decide) (by decide) fun j2 hj2=>?_
    walk_at "st"
    by_cases h0:j2=0
    case neg=>
      rw [if_neg (by simp;omega)]
      exact same
    rw [if_pos (by simp;omega)]
    refine ZaQ (n:=101) (by decide) (by decide) fun v hv=>?_
    walk_at "st"
    refine ⟨fs.length - 1,?_,hnx _ ⟨fs.set (fs.length - 1) ((v:Int) - 50),by rw [List.length_set];exact hf1,by rw [List.length_set];exact hf2,fun x hx=>?_,by rw [List.map_set]⟩⟩
    · rw [List.length_map]
      unfold ixN
      rw [if_neg (by omega),if_pos (by omega)]
      congr 1
      omega
    · rcases List.mem_or_eq_of_mem_set hx with hx | rfl
      · exact hfs x hx
      · omega
  rintro _ ⟨fs,hf1,hf2,hfs,rfl⟩
  walk_at "st"
  rw [cut_to rfl,← List.map_take]
  exact q _ ⟨by rw [List.length_take];omega,by rw [List.length_take];omega,fun x hx=>hfs x (List.mem_of_mem_take hx)⟩
end B.C.K4
namespace B.C.K4
theorem Cm.sz {b:Nat} {e:Int} {c:List Int} {r:List Rat} (h:Cm b e c r):∀ x∈r,Sz (b+1) x:=fun x hx=>by
  rw [h.row] at hx
  obtain ⟨i,hi,rfl⟩:=List.mem_map.mp hx
  have:=h.cb i hi
  have:=h.eb
  have h2:2 ^ b < 2 ^ (b+1):=Nat.pow_lt_pow_right (by decide) (by omega)
  exact divInt_sz h.e0 (by omega) (by omega)
def partQ (f:Rat) (k:Nat) (bf:List Rat):List Rat:=List.replicate k 0++[f]++bf.map fun o=>-(f*o)
end B.C.K4
local macro_rules | `(tactic| walk_at "w1")=>`(tactic| simp only [zRet,zIf,zSet,zNx,ZbQ,zPub,zOwn,zFor,ZaI,zPar,zAsg,zApp,Zb6,zInk,ZbE,zNox,ZaO,zTry,zCt,zExt,Zfq,zPar3,wSel,wM,Zb9,Zb7,wOrV,Zcr,wAnd,wOr,wNot,wT,wIf,w1,w2,wB,wF,wL,wTup,wCut,ZaA,aB,aLst,Zab,aNil,aLC,Zbz,ZaN,iS,iE,iL,iT,iR1,iR2,iZ,Zbt,ZaL,wN,wC,gN,gTp,Zap,ZaZ,gIxP,Zai,wPen,wBor,tBor,aBor,wIxO,aAdd,aMul,aCut,rho,pub,List.map_cons,List.map_nil,List.length_cons,List.length_nil,List.cons_append,List.nil_append,List.replicate,List.getElem?_cons_zero,List.getElem?_cons_succ,List.set_cons_zero,List.set_cons_succ,Nat.reduceSub,Nat.reduceAdd,List.replicate_succ,List.replicate_zero,true_and,Bool.false_eq_true,if_true,if_false,ite_true,ite_false,Int.toNat_natCast,Bool.not_true,Bool.not_false,
  Zdk,Zdj,Zdi,Zb5,Zb4,Zdh,Zb0,ZbY,ZbZ,Zb2,Zb1,Zb3,Zb,Zbc,Zba,Zbb,Zbe,Zbd,Zbf,ZbR,ZbU,ZbS,ZbT,ZbW,ZbV,ZbX,Zbi,Zbl,Zbj,Zbk,Zbn,Zbm,Zbo,Za3,Za5,Za4,Za7,Za6,Za0,Za1,Za2,Zau,Zav,Zaw,Zbr,Zbq,Zbp,Za9,Za8,e_I2,Zdm,Zdg,Zbh,Zbg,Zdl,e_i1,e_i2])
namespace B.C.K4
theorem rep_sh (k:Nat):(List.replicate k [D.tup [D.int 0,D.int 1]]).flatten=(List.replicate k (0:Rat)).map shq:=by
  induction k with
  | zero=>rfl
  | succ k ih=>rw [List.replicate_succ,List.flatten_cons,ih,List.replicate_succ];rfl
end B.C.K4
theorem sumN_add (f g:Nat→Rat):∀ n:Nat,sumN (fun i=>f i+g i) n=sumN f n+sumN g n
  | 0=>by simp only [sumN];grind
  | n+1=>by rw [sumN,sumN,sumN,sumN_add f g n];grind
theorem ZbH (c:Rat) (f:Nat→Rat):∀ n:Nat,sumN (fun i=>c*f i) n=c*sumN f n
  | 0=>by simp only [sumN];grind
  | n+1=>by rw [sumN,sumN,ZbH c f n];grind
theorem sumN_swap (f:Nat→Nat→Rat) (m:Nat):∀ n:Nat,sumN (fun i=>sumN (fun j=>f i j) m) n=sumN (fun j=>sumN (fun i=>f i j) n) m
  | 0=>by rw [sumN];exact (Zem (f:=fun j=>sumN (fun i=>f i j) 0) fun j _=>rfl).symm
  | n+1=>by rw [sumN,sumN_swap f m n,← sumN_add];exact Zam fun j _=>rfl
theorem sumN_cut {f:Nat→Rat} {m:Nat}:∀ {n:Nat},m≤n→(∀ i,m≤i→i < n→f i=0)→sumN f n=sumN f m
  | 0,h,_=>by rw [Nat.le_zero.mp h]
  | n+1,h,h0=>by
    by_cases e:m=n+1
    · rw [e]
    · rw [sumN,sumN_cut (n:=n) (by omega) (fun i h1 h2=>h0 i h1 (by omega)),h0 n (by omega) (by omega),Rat.add_zero]
def lsum:List Rat→(Nat→Rat)→Rat
  | [],_=>0
  | x::l,h=>x*h 0+lsum l fun k=>h (k+1)
theorem Zbs:∀ (l:List Rat) (h:Nat→Rat),lsum l h=sumN (fun k=>l.getD k 0*h k) l.length
  | [],_=>rfl
  | x::l,h=>by
    rw [lsum,Zbs l,List.length_cons,ZcR]
    rfl
theorem lsum_to {l:List Rat} {h:Nat→Rat} {n:Nat} (hn:l.length≤n):lsum l h=sumN (fun k=>l.getD k 0*h k) n:=by
  rw [Zbs,sumN_cut hn]
  intro i h1 h2
  rw [List.getD_eq_getElem?_getD,List.getElem?_eq_none h1,Option.getD_none,Rat.zero_mul]
theorem ZdQ {l:List Rat} {h g:Nat→Rat} (e:∀ k,k < l.length→h k=g k):lsum l h=lsum l g:=by
  rw [Zbs,Zbs]
  exact Zam fun k hk=>by rw [e k hk]
theorem lsum_app:∀ (l m:List Rat) (h:Nat→Rat),lsum (l++m) h=lsum l h+lsum m fun k=>h (l.length+k)
  | [],m,h=>by
    rw [List.nil_append,lsum,Rat.zero_add]
    exact ZdQ fun k _=>by rw [List.length_nil,Nat.zero_add]
  | x::l,m,h=>by
    rw [List.cons_append,lsum,lsum,lsum_app l m,Rat.add_assoc]
    congr 2
    exact ZdQ fun k _=>by rw [List.length_cons,show l.length+1+k=l.length+k+1 by omega]
theorem lsum_zero:∀ (n:Nat) (h:Nat→Rat),lsum (List.replicate n 0) h=0
  | 0,_=>rfl
  | n+1,h=>by rw [List.replicate_succ,lsum,lsum_zero n,Rat.zero_mul,Rat.zero_add]
theorem lsum_mul (c:Rat):∀ (l:List Rat) (h:Nat→Rat),lsum (l.map fun x=>c*x) h=c*lsum l h
  | [],_=>by rw [List.map_nil,lsum];grind
  | x::l,h=>by rw [List.map_cons,lsum,lsum_mul c l,lsum];grind
def vl (s:Nat→Rat) (r:List Rat) (p:Nat):Rat:=lsum r fun k=>s (p - 1 - k)
def Gn (s:Nat→Rat) (r:List Rat) (n:Nat):Prop:=∀ p,r.length≤p→p < n→vl s r p=s p
theorem Gn.mono {s:Nat→Rat} {r:List Rat} {n m:Nat} (h:Gn s r n) (l:m≤n):Gn s r m:=fun p h1 h2=>h p h1 (by omega)
theorem massey {s:Nat→Rat} {r t:List Rat} {p:Nat} (hr:Gn s r p) (hd:vl s r p≠s p) (hL:r.length≤p) (ht:Gn s t (p+1)):p+1≤r.length+t.length:=by
  by_cases h:p+1≤r.length+t.length
  · exact h
  exfalso
  apply hd
  have e1:s p=sumN (fun i=>sumN (fun j=>t.getD i 0*(r.getD j 0*s (p - 1 - i - 1 - j))) r.length) t.length:=by
    rw [← ht p (by omega) (by omega)]
    unfold vl
    rw [Zbs]
    refine Zam fun i hi=>?_
    rw [ZbH,← hr (p - 1 - i) (by omega) (by omega)]
    unfold vl
    rw [Zbs]
  have e2:vl s r p=sumN (fun j=>sumN (fun i=>t.getD i 0*(r.getD j 0*s (p - 1 - i - 1 - j))) t.length) r.length:=by
    unfold vl
    rw [Zbs]
    refine Zam fun j hj=>?_
    have:sumN (fun i=>t.getD i 0*(r.getD j 0*s (p - 1 - i - 1 - j))) t.length=r.getD j 0*sumN (fun i=>t.getD i 0*s (p - 1 - j - 1 - i)) t.length:=by
      rw [← ZbH]
      refine Zam fun i hi=>?_
      rw [show p - 1 - i - 1 - j=p - 1 - j - 1 - i by omega]
      grind
    rw [this,← ht (p - 1 - j) (by omega) (by omega)]
    unfold vl
    rw [Zbs]
  rw [e2,e1,sumN_swap]
open B.C.K4
structure Bm (s:Nat→Rat) (p:Nat) (r B:List Rat) (dB:Rat) (g:Nat):Prop where
  gr:Gn s r p
  le:r.length≤p
  mn:∀ t,Gn s t p→r.length≤t.length
  db:dB≠0
  bf:(g=p+1∧B=[]∧r=[])∨∃ m,m+g=p∧1≤g∧Gn s B m∧B.length≤m∧s m - vl s B m=dB∧r.length+B.length=m+1
theorem Bm.start (s:Nat→Rat):Bm s 0 [] [] 1 1:=⟨fun p h1 h2=>by omega,Nat.le_refl _,fun t _=>Nat.zero_le _,by decide,.inl ⟨rfl,rfl,rfl⟩⟩
theorem Bm.stay {s:Nat→Rat} {p g:Nat} {r B:List Rat} {dB:Rat} (h:Bm s p r B dB g) (e:s p - vl s r p=0):Bm s (p+1) r B dB (g+1):=by
  have e':vl s r p=s p:=by grind
  refine ⟨fun q h1 h2=>?_,by have:=h.le;omega,fun t ht=>h.mn t (ht.mono (by omega)),h.db,?_⟩
  · by_cases hq:q=p
    · rw [hq];exact e'
    · exact h.gr q h1 (by omega)
  · rcases h.bf with ⟨a,b,c⟩ | ⟨m,a,b,c⟩
    · exact .inl ⟨by omega,b,c⟩
    · exact .inr ⟨m,by omega,by omega,c⟩
theorem vl_part {s:Nat→Rat} {f:Rat} {g q:Nat} {B:List Rat} (hg:1≤g) (hq:g+B.length≤q):vl s (partQ f (g - 1) B) q=f*(s (q - g) - vl s B (q - g)):=by
  unfold vl partQ
  rw [lsum_app,lsum_app,lsum_zero,show (B.map fun o=>-(f*o))=B.map (fun o=>(-f)*o) from List.map_congr_left fun o _=>by grind,lsum_mul,lsum,lsum]
  simp only [List.length_append,List.length_replicate,List.length_singleton]
  rw [show q - 1 - (g - 1+0)=q - g by omega]
  have:lsum B (fun k=>s (q - 1 - (g - 1+1+k)))=lsum B fun k=>s (q - g - 1 - k):=ZdQ fun k _=>by rw [show q - 1 - (g - 1+1+k)=q - g - 1 - k by omega]
  rw [this]
  grind
theorem Bm.go {s:Nat→Rat} {p g:Nat} {r B:List Rat} {dB d:Rat} (h:Bm s p r B dB g) (ed:s p - vl s r p=d) (d0:d≠0) :
    let r':=(List.range (max r.length (p+1 - r.length))).map fun j=>r.getD j 0+(partQ (d*dB⁻¹) (g - 1) B).getD j 0
    (r.length < max r.length (p+1 - r.length)→Bm s (p+1) r' r d 1)∧(¬ r.length < max r.length (p+1 - r.length)→Bm s (p+1) r' B dB (g+1)):=by
  intro r'
  have hle:=h.le
  have hl:r'.length=max r.length (p+1 - r.length):=by simp [r']
  have hv:vl s r p≠s p:=fun z=>d0 (by rw [← ed,z];grind)
  have gn:Gn s r' (p+1):=fun q h1 h2=>by
    rw [hl] at h1
    rcases h.bf with ⟨a,b,c⟩ | ⟨m,a,b,c1,c2,c3,c4⟩
    · rw [c] at h1;simp at h1;omega
    have hpl:(partQ (d*dB⁻¹) (g - 1) B).length=g+B.length:=by unfold partQ;simp;omega
    have e1:vl s r' q=vl s r q+vl s (partQ (d*dB⁻¹) (g - 1) B) q:=by
      unfold vl
      rw [lsum_to (n:=max r.length (p+1 - r.length)) (by omega),lsum_to (l:=r) (n:=max r.length (p+1 - r.length)) (by omega),lsum_to (l:=partQ (d*dB⁻¹) (g - 1) B) (n:=max r.length (p+1 - r.length)) (by omega),← sumN_add]
      refine Zam fun j hj=>?_
      have:r'.getD j 0=r.getD j 0+(partQ (d*dB⁻¹) (g - 1) B).getD j 0:=by
        simp only [r']
        rw [List.getD_eq_getElem?_getD,List.getElem?_map,List.getElem?_range hj]
        rfl
      rw [this]
      grind
    rw [e1,vl_part b (by omega)]
    by_cases hq:q=p
    · rw [hq,show p - g=m by omega,c3]
      have:d*dB⁻¹*dB=d:=by rw [Rat.mul_assoc,Rat.inv_mul_cancel _ h.db,Rat.mul_one]
      rw [this,← ed]
      grind
    · rw [c1 (q - g) (by omega) (by omega),h.gr q (by omega) (by omega)]
      grind
  refine ⟨fun hc=>⟨gn,by omega,fun t ht=>?_,d0,.inr ⟨p,rfl,Nat.le_refl _,h.gr,hle,ed,by omega⟩⟩,fun hc=>⟨gn,by omega,fun t ht=>?_,h.db,?_⟩⟩
  · have:=massey h.gr hv hle ht
    omega
  · have:=h.mn t (ht.mono (by omega))
    omega
  · rcases h.bf with ⟨a,b,c⟩ | ⟨m,a,b,c1,c2,c3,c4⟩
    · rw [c] at hc;simp at hc
    · exact .inr ⟨m,by omega,by omega,c1,c2,c3,by omega⟩
end LP
namespace LP
open PySem PySem.Spec PyProof.Rows L2
open B.C.K4
theorem only_one {s:Nat→Rat} {r:List Rat} {n:Nat} (hr:Gn s r n) (mn:∀ t,Gn s t n→r.length≤t.length) (h2:2*r.length≤n) (v:Nat→Rat) (hv:∀ a,a < n - r.length→sumN (fun k=>v k*s (a+k)) r.length=0):∀ k,k < r.length→v k=0:=by
  have key:∀ t,t≤r.length→∀ k,r.length - t≤k→k < r.length→v k=0:=by
    intro t
    induction t with
    | zero=>intro _ k h1 h3;omega
    | succ t ih=>
      intro ht k h1 h3
      by_cases hk:r.length - t≤k
      · exact ih (by omega) k hk h3
      have ek:k=r.length - t - 1:=by omega
      by_cases h0:v k=0
      · exact h0
      exfalso
      have hz:∀ j,k < j→j < r.length→v j=0:=fun j h4 h5=>ih (by omega) j (by omega) h5
      have cl:((List.range k).map fun i=>-(v (k - 1 - i) / v k)).length=k:=by simp
      have gk:Gn s ((List.range k).map fun i=>-(v (k - 1 - i) / v k)) (k+(n - r.length)):=fun p h4 h5=>by
        rw [cl] at h4
        have e:=hv (p - k) (by omega)
        rw [sumN_cut (m:=k+1) (by omega) (fun i h6 h7=>by rw [hz i (by omega) h7,Rat.zero_mul]),sumN] at e
        have rv:∀ m,m≤k→vl s ((List.range k).map fun i=>-(v (k - 1 - i) / v k)) p=vl s ((List.range k).map fun i=>-(v (k - 1 - i) / v k)) p:=fun _ _=>rfl
        have sm:vl s ((List.range k).map fun i=>-(v (k - 1 - i) / v k)) p*v k = -(sumN (fun i=>v i*s (p - k+i)) k):=by
          unfold vl
          rw [Zbs,cl]
          have rev:∀ (m:Nat),m≤k→sumN (fun i=>v i*s (p - k+i)) k=sumN (fun i=>v (k - 1 - i)*s (p - k+(k - 1 - i))) k:=fun _ _=>by
            have gen:∀ (f:Nat→Rat) (m:Nat),sumN f m=sumN (fun i=>f (m - 1 - i)) m:=by
              intro f m
              induction m with
              | zero=>rfl
              | succ m ih=>
                rw [ZcR (fun i=>f (m+1 - 1 - i)),sumN,ih]
                have:sumN (fun i=>f (m+1 - 1 - (i+1))) m=sumN (fun i=>f (m - 1 - i)) m:=Zam fun i hi=>by rw [show m+1 - 1 - (i+1)=m - 1 - i by omega]
                rw [this,show m+1 - 1 - 0=m by omega,Rat.add_comm]
            exact gen _ k
          rw [rev k (Nat.le_refl _),Rat.mul_comm,← ZbH,show ∀ x:Rat,-x=(-1)*x from fun x=>by grind,← ZbH]
          refine Zam fun i hi=>?_
          rw [List.getD_eq_getElem?_getD,List.getElem?_map,List.getElem?_range hi]
          show v k*(-(v (k - 1 - i) / v k)*s (p - 1 - i)) = -1*(v (k - 1 - i)*s (p - k+(k - 1 - i)))
          rw [show p - k+(k - 1 - i)=p - 1 - i by omega]
          have:v k*(v (k - 1 - i) / v k)=v (k - 1 - i):=by rw [Rat.mul_comm,Rat.div_mul_cancel h0]
          grind
        rw [show p - k+k=p by omega] at e
        have e2:vl s ((List.range k).map fun i=>-(v (k - 1 - i) / v k)) p*v k=s p*v k:=by rw [sm];grind
        have e3:=congrArg (fun x=>x*(v k)⁻¹) e2
        simp only [Rat.mul_assoc,Rat.mul_inv_cancel _ h0,Rat.mul_one] at e3
        exact e3
      generalize (List.range k).map (fun i=>-(v (k - 1 - i) / v k))=c at cl gk
      -- the first place at which it is missed
      have ex:∃ p,k+(n - r.length)≤p∧p < n∧Gn s c p∧vl s c p≠s p:=by
        have go:∀ j,k+(n - r.length)+j≤n→Gn s c (k+(n - r.length)+j)∨∃ p,k+(n - r.length)≤p∧p < n∧Gn s c p∧vl s c p≠s p:=by
          intro j
          induction j with
          | zero=>intro _;exact .inl gk
          | succ j ihj=>
            intro hj
            rcases ihj (by omega) with h | h
            · by_cases hc:vl s c (k+(n - r.length)+j)=s (k+(n - r.length)+j)
              · left
                intro p h4 h5
                by_cases hp:p=k+(n - r.length)+j
                · rw [hp];exact hc
                · exact h p h4 (by omega)
              · exact .inr ⟨_,by omega,by omega,h,hc⟩
            · exact .inr h
        rcases go (r.length - k) (by omega) with h | h
        · have:=mn c (h.mono (by omega))
          omega
        · exact h
      obtain ⟨p,p1,p2,p3,p4⟩:=ex
      have:=massey p3 p4 (by omega) (hr.mono (by omega))
      omega
  intro k hk
  exact key r.length (Nat.le_refl _) k (by omega) hk
end LP
namespace LP
open PySem PySem.Spec PyProof.Rows L2
open B.C.K4
structure ClO2 (b w m:Nat) (x:Cl):Prop where
  ld:∀ r∈x.ld,Lf (bq b x.ld.length) w r
  rs:∀ r∈x.rs,Lf (bq b x.ld.length) w r
  ln:x.ld.length+x.rs.length=m
  pl:x.pl.length=x.ld.length
theorem cl_lead2 {b w p m a:Nat} {x:Cl} (h:ClO2 b w m x) (hp:p < w) (e:firF x.rs p=some a):Lf (bq b x.ld.length) w (Zdf x.rs a p):=by
  obtain ⟨h1,h2⟩:=ZeA e
  exact (h.rs _ (ZfL h1)).norm hp h2
theorem cl_step2 {b w p m:Nat} {x:Cl} (h:ClO2 b w m x) (hp:p < w):ClO2 b w m (clS p x)∧(clS p x).ld.length≤x.ld.length+1:=by
  unfold clS
  split
  · exact ⟨h,by omega⟩
  · rename_i a e
    have hl:=cl_lead2 h hp e
    obtain ⟨h1,h2⟩:=ZeA e
    have ln:=h.ln
    have nl:(witF x.ld (Zdf x.rs a p) p++[Zdf x.rs a p]).length=x.ld.length+1:=by unfold witF;simp
    refine ⟨⟨?_,?_,?_,?_⟩,by show (witF x.ld (Zdf x.rs a p) p++[Zdf x.rs a p]).length≤_;omega⟩
    · show ∀ r∈witF x.ld (Zdf x.rs a p) p++[Zdf x.rs a p],Lf (bq b (witF x.ld (Zdf x.rs a p) p++[Zdf x.rs a p]).length) w r
      rw [nl]
      intro r hr
      rcases List.mem_append.mp hr with hr | hr
      · unfold witF at hr
        obtain ⟨r0,hr0,rfl⟩:=List.mem_map.mp hr
        exact (h.ld r0 hr0).less hl hp
      · rw [List.mem_singleton.mp hr];exact hl.mono (Zej (by omega))
    · show ∀ r∈witF (x.rs.take a++x.rs.drop (a+1)) (Zdf x.rs a p) p,Lf (bq b (witF x.ld (Zdf x.rs a p) p++[Zdf x.rs a p]).length) w r
      rw [nl]
      intro r hr
      unfold witF at hr
      obtain ⟨r0,hr0,rfl⟩:=List.mem_map.mp hr
      exact (h.rs r0 (mem_cut hr0)).less hl hp
    · show (witF _ _ _++[_]).length+(witF _ _ _).length=m
      unfold witF
      simp only [List.length_append,List.length_map,List.length_singleton,List.length_take,List.length_drop]
      omega
    · show (x.pl++[p]).length=(witF _ _ _++[_]).length
      unfold witF
      rw [List.length_append,List.length_append,List.length_map,h.pl];rfl
theorem cl_ok2 {b w:Nat} {R:List (List Rat)} (h:∀ r∈R,Lf b w r):∀ {p:Nat},p≤w→ClO2 b w R.length (clR R p)∧(clR R p).ld.length≤p
  | 0,_=>⟨⟨(fun r hr=>by cases hr),h,(by simp [clR]),rfl⟩,Nat.le_refl _⟩
  | p+1,hp=>by
    obtain ⟨h1,h2⟩:=cl_ok2 h (p:=p) (by omega)
    obtain ⟨h3,h4⟩:=cl_step2 h1 (p:=p) (by omega)
    exact ⟨h3,by show (clS p (clR R p)).ld.length≤_;omega⟩
def sv (ns:List Int) (k:Nat):Rat:=((ns.getD k 0:Int):Rat)
def hrow (ns:List Int) (L p:Nat):List Rat:=((List.range L).map fun k=>sv ns (p - 1 - k))++[sv ns p]
def ZbG (ns:List Int) (L:Nat):List (List Rat):=(List.range (ns.length - L)).map fun i=>hrow ns L (L+i)
def rsL (q:Nat):List (List Rat)→List Nat→List Rat→List Rat
  | l::ld,a::pl,row=>rsL q ld pl (row.set a (l.getD q 0))
  | _,_,row=>row
def rolF (ns:List Int) (L:Nat):Option (List Rat):=if L∈(clR (ZbG ns L) (L+1)).pl then none else some (rsL L (clR (ZbG ns L) (L+1)).ld (clR (ZbG ns L) (L+1)).pl (List.replicate L 0))
theorem Zfi (ns:List Int) (L p:Nat):(hrow ns L p).length=L+1:=by unfold hrow;simp
theorem hrow_dot {ns:List Int} {L p:Nat} {x:List Rat} (hx:x.length=L+1):dot (hrow ns L p) x=sumN (fun k=>sv ns (p - 1 - k)*x.getD k 0) L+sv ns p*x.getD L 0:=by
  rw [Zc8 _ _ (L+1) (Zfi ns L p) hx,sumN]
  congr 1
  · refine Zam fun k hk=>?_
    unfold hrow
    rw [List.getD_eq_getElem?_getD,List.getElem?_append_left (by simpa using hk),List.getElem?_map,List.getElem?_range hk]
    rfl
  · unfold hrow
    rw [List.getD_eq_getElem?_getD,List.getElem?_append_right (by simp)]
    simp
theorem rsL_len (q:Nat):∀ (ld:List (List Rat)) (pl:List Nat) (row:List Rat),(rsL q ld pl row).length=row.length
  | [],_,_=>by rw [rsL];intros;simp_all
  | _::_,[],_=>by rw [rsL];intros;simp_all
  | l::ld,a::pl,row=>by rw [rsL,rsL_len q ld pl,List.length_set]
theorem rs_fre {q L:Nat}:∀ (ld:List (List Rat)) (pl:List Nat) (row rf:List Rat),row.length=L→rf.length=L+1→(∀ a∈pl,a < L)→(∀ k,k < L→row.getD k 0 = -(rf.getD k 0))→∀ k,k < L→(rsL q ld pl row).getD k 0 = -((freL q ld pl rf).getD k 0)
  | [],pl,row,rf,_,_,_,h,k,hk=>by
    have e1:rsL q [] pl row=row:=by cases pl<;>rfl
    have e2:freL q [] pl rf=rf:=by cases pl<;>rfl
    rw [e1,e2];exact h k hk
  | l::ld,[],row,rf,_,_,_,h,k,hk=>h k hk
  | l::ld,a::pl,row,rf,h1,h2,h3,h,k,hk=>by
    have ha:=h3 a (by simp)
    show (rsL q ld pl (row.set a (l.getD q 0))).getD k 0 = -((freL q ld pl (rf.set a (0 - l.getD q 0))).getD k 0)
    refine rs_fre ld pl _ _ (by rw [List.length_set];exact h1) (by rw [List.length_set];exact h2) (fun b hb=>h3 b (by simp [hb])) (fun j hj=>?_) k hk
    rw [set_at (by omega),set_at (by omega)]
    split
    · grind
    · exact h j hj
theorem rol_some {ns:List Int} {L:Nat} {r:List Rat} (h:rolF ns L=some r):r.length=L∧Gn (sv ns) r ns.length:=by
  unfold rolF at h
  split at h
  · cases h
  rename_i hL
  have e:=cl_ec (n:=L+1) (R:=ZbG ns L) (fun r hr=>by obtain ⟨i,_,rfl⟩:=List.mem_map.mp hr;exact Zfi ns L _) (L+1) (Nat.le_refl _)
  generalize clR (ZbG ns L) (L+1)=c at *
  cases h
  have hlt:∀ a∈c.pl,a < L:=fun a ha=>by
    have:=e.lt a ha
    have:a≠L:=fun z=>hL (z ▸ ha)
    omega
  obtain ⟨f1,f2⟩:=e.free (q:=L) (by omega) hL
  have hl:(rsL L c.ld c.pl (List.replicate L 0)).length=L:=by rw [rsL_len,List.length_replicate]
  refine ⟨hl,fun p h1 h2=>?_⟩
  rw [hl] at h1
  have hp:=f2 (hrow (ns) L p) (List.mem_map.mpr ⟨p - L,List.mem_range.mpr (by omega),by rw [show L+(p - L)=p by omega]⟩)
  rw [hrow_dot f1,freL_at c.ld c.pl (unit (L+1) L) (fun a ha=>by rw [ZdK];exact e.lt a ha) hL,unit_at (by omega),if_pos rfl] at hp
  have hk:∀ k,k < L→(rsL L c.ld c.pl (List.replicate L 0)).getD k 0 = -((freL L c.ld c.pl (unit (L+1) L)).getD k 0):=rs_fre c.ld c.pl _ _ (by simp) (ZdK _ _) hlt fun k hk=>by
    rw [unit_at (by omega),if_neg (by omega),List.getD_eq_getElem?_getD,List.getElem?_replicate,if_pos hk]
    decide
  unfold vl
  rw [Zbs,hl]
  have:sumN (fun k=>(rsL L c.ld c.pl (List.replicate L 0)).getD k 0*sv ns (p - 1 - k)) L = -1*sumN (fun k=>sv ns (p - 1 - k)*(freL L c.ld c.pl (unit (L+1) L)).getD k 0) L:=by
    rw [← ZbH]
    refine Zam fun k hk'=>?_
    rw [hk k hk']
    grind
  rw [this]
  grind
theorem rol_none {ns:List Int} {L:Nat} {t:List Rat} (h:rolF ns L=none) (ht:t.length=L) (g:Gn (sv ns) t ns.length):False:=by
  unfold rolF at h
  split at h
  case isFalse=>cases h
  rename_i hL
  have e:=cl_ec (n:=L+1) (R:=ZbG ns L) (fun r hr=>by obtain ⟨i,_,rfl⟩:=List.mem_map.mp hr;exact Zfi ns L _) (L+1) (Nat.le_refl _)
  generalize clR (ZbG ns L) (L+1)=c at *
  have xl:((t.map fun y=>-y)++[1]).length=L+1:=by simp [ht]
  have xk:∀ k,k < L→((t.map fun y=>-y)++[1]).getD k 0 = -(t.getD k 0):=fun k hk=>by
    rw [List.getD_eq_getElem?_getD,List.getElem?_append_left (by simpa [ht] using hk),List.getElem?_map,List.getD_eq_getElem?_getD,List.getElem?_eq_getElem (by omega)]
    rfl
  have xL:((t.map fun y=>-y)++[1]).getD L 0=1:=by
    rw [List.getD_eq_getElem?_getD,List.getElem?_append_right (by simp [ht])]
    simp [ht]
  have hn:=((e.nul _ xl).mp fun r hr=>by
    obtain ⟨i,hi,rfl⟩:=List.mem_map.mp hr
    rw [List.mem_range] at hi
    rw [hrow_dot xl,xL]
    have:=g (L+i) (by omega) (by omega)
    unfold vl at this
    rw [Zbs,ht] at this
    rw [← this]
    have:sumN (fun k=>sv ns (L+i - 1 - k)*((t.map fun y=>-y)++[1]).getD k 0) L = -1*sumN (fun k=>t.getD k 0*sv ns (L+i - 1 - k)) L:=by
      rw [← ZbH]
      refine Zam fun k hk=>?_
      rw [xk k hk]
      grind
    rw [this]
    grind).1
  obtain ⟨j,hj,ej⟩:=List.mem_iff_getElem.mp hL
  have ej':c.pl.getD j 0=L:=by rw [List.getD_eq_getElem?_getD,List.getElem?_eq_getElem hj];exact ej
  have hj':j < c.ld.length:=by have:=e.ll;omega
  have hm:c.ld.getD j []∈c.ld:=by rw [List.getD_eq_getElem?_getD,List.getElem?_eq_getElem hj'];exact List.getElem_mem _
  have h0:=hn _ hm
  rw [Zc8 _ _ (L+1) (e.wl _ hm) xl,Zcs (k:=L) (by omega) (fun i hi hne=>by rw [e.low j hj' i (by omega),Rat.zero_mul])] at h0
  have o:=e.one j j hj' hj
  rw [ej',if_pos rfl] at o
  rw [o,xL,Rat.mul_one] at h0
  exact absurd h0 (by decide)
end LP
namespace LP
open PySem PySem.Spec PyProof.Rows L2
namespace B.C.K4.K5
def lrL (ns:List Int):Nat:=((List.range (ns.length+1)).find? fun L=>(rolF ns L).isSome).getD ns.length
def lrF (ns:List Int):List Rat:=(rolF ns (lrL ns)).getD []
theorem rol_all (ns:List Int):(rolF ns ns.length).isSome=true:=by
  unfold rolF ZbG
  rw [Nat.sub_self]
  have:∀ m,(clR ([]:List (List Rat)) m).pl=[]∧(clR ([]:List (List Rat)) m).rs=[]:=by
    intro m
    induction m with
    | zero=>exact ⟨rfl,rfl⟩
    | succ m ih=>
      show (clS m (clR [] m)).pl=[]∧(clS m (clR [] m)).rs=[]
      unfold clS
      rw [ih.2]
      exact ⟨ih.1,ih.2⟩
  rw [List.range_zero,List.map_nil,(this _).1]
  simp
theorem Zfd (ns:List Int):lrL ns≤ns.length∧rolF ns (lrL ns)=some (lrF ns)∧∀ L,L < lrL ns→rolF ns L=none:=by
  unfold lrF
  cases e:(List.range (ns.length+1)).find? fun L=>(rolF ns L).isSome with
  | none=>
    have:=List.find?_eq_none.mp e ns.length (List.mem_range.mpr (by omega))
    exact absurd (rol_all ns) (by simpa using this)
  | some L=>
    have eL:lrL ns=L:=by unfold lrL;rw [e];rfl
    rw [eL]
    obtain ⟨h1,h2⟩:=List.find?_eq_some_iff_append.mp e
    have hm:L∈List.range (ns.length+1):=List.mem_of_find?_eq_some e
    rw [List.mem_range] at hm
    refine ⟨by omega,?_,fun K hK=>?_⟩
    · cases er:rolF ns L with
      | none=>rw [er] at h1;cases h1
      | some r=>rfl
    · obtain ⟨as,bs,e2,h3⟩:=h2
      have:K∈as:=by
        have hl:as.length=L:=by
          have:=congrArg (fun l=>l[as.length]?) e2
          simp only [List.getElem?_append_right (Nat.le_refl _),Nat.sub_self,List.getElem?_cons_zero] at this
          have hr:=List.getElem?_eq_some_iff.mp this
          obtain ⟨hr1,hr2⟩:=hr
          rw [List.getElem_range] at hr2
          exact hr2
        have hk:(List.range (ns.length+1))[K]? = some K:=List.getElem?_range (by omega)
        rw [e2,List.getElem?_append_left (by omega)] at hk
        exact List.mem_of_getElem? hk
      have:=h3 K this
      cases er:rolF ns K with
      | none=>rfl
      | some r=>rw [er] at this;simp at this
theorem ZdA (ns:List Int):(lrF ns).length=lrL ns:=(rol_some (Zfd ns).2.1).1
theorem lr_gn (ns:List Int):Gn (sv ns) (lrF ns) ns.length:=(rol_some (Zfd ns).2.1).2
theorem lr_min {ns:List Int} {t:List Rat} (h:Gn (sv ns) t ns.length):lrL ns≤t.length:=by
  by_cases hl:lrL ns≤t.length
  · exact hl
  · exact (rol_none ((Zfd ns).2.2 t.length (by omega)) rfl h).elim
def optR:Option (List Rat)→D
  | none=>.non
  | some r=>rowq r
def lnD (ns:List Int):List D:=(List.range ns.length).map fun k=>D.int ((lrL (ns.take (k+1)):Nat):Int)
def gdR (x:D) (v:List Int→D):Except Str D:=if nmG 10 x=true then .ok (v (nI x)) else .error "NoRow"
def lrR (x:D):Except Str D:=gdR x fun ns=>rowq (lrF ns)
def llR (x:D):Except Str D:=gdR x fun ns=>.int ((lrL ns:Nat):Int)
def ioR (x:D):Except Str D:=gdR x fun ns=>.bl (decide (2*lrL ns≤ns.length))
def loR (x:D):Except Str D:=gdR x fun ns=>.lst (lnD ns)
def ZdG:Zaq:=fnS (fun x:((Nat×Nat)×Nat)×List (List Rat)=>[Zat x.2,.int x.1.2]) (fun x=>x.1.2≤x.1.1.2∧x.1.1.2≤1000∧x.2.length≤1000∧3*bq x.1.1.1 (min x.1.2 x.2.length) < 8990∧∀ r∈x.2,Lf x.1.1.1 x.1.1.2 r) fun x=>.tup [Zat (clR x.2 x.1.2).ld,natsL (clR x.2 x.1.2).pl]
def ZaU:Zaq:=fnS (fun x:List Int×Nat=>[Zag x.1,.int x.2]) (fun x=>IsN x.1∧x.2≤x.1.length) fun x=>optR (rolF x.1 x.2)
def Zcf:Zaq:=xS (fun x:D=>[x]) (fun x=>kd x=true) lrR
def Zay:Zaq:=xS (fun x:D=>[x]) (fun x=>kd x=true) llR
def ZeD:Zaq:=xS (fun x:D=>[x]) (fun x=>kd x=true) ioR
def ZcK:Zaq:=xS (fun x:D=>[x]) (fun x=>kd x=true) loR
def tkF (r h:List Int) (a:Nat):List Int:=(List.range r.length).map fun j=>r.getD j 0*h.getD a 0 - r.getD a 0*h.getD j 0
section
variable {E:Ex→Prop} {Q:D→Prop} {x y d:D} {n m k b w:Nat} {ns r h:List Int} {R:List (List Rat)}
theorem u_cleared (h1:m≤w) (h2:w≤1000) (h3:R.length≤1000) (h4:3*bq b (min m R.length) < 8990) (h5:∀ r∈R,Lf b w r) (q:Q (.tup [Zat (clR R m).ld,natsL (clR R m).pl])):ZdG [Zat R,.int m] E Q:=⟨(((b,w),m),R),rfl,⟨h1,h2,h3,h4,h5⟩,q⟩
theorem Zd (hN:IsN ns) (hk:k≤ns.length) (q:Q (optR (rolF ns k))):ZaU [Zag ns,.int k] E Q:=⟨(ns,k),rfl,⟨hN,hk⟩,q⟩
end
end B.C.K4.K5
def gb:Nat→Nat→Nat
  | _,0=>0
  | b,r+1=>b+gb (2*b+1) r
theorem sum_whole {a:Nat→Int} {x:Nat→Rat}:∀ {r:Nat},(∀ k,k < r→∃ z:Int,x k=z)→∃ z:Int,sumN (fun k=>(a k:Rat)*x k) r=z
  | 0,_=>⟨0,rfl⟩
  | r+1,h=>by
    obtain ⟨z,hz⟩:=sum_whole (a:=a) (r:=r) fun k hk=>h k (by omega)
    obtain ⟨y,hy⟩:=h r (by omega)
    refine ⟨z+a r*y,?_⟩
    rw [sumN,hz,hy,Rat.intCast_add,Rat.intCast_mul]
theorem bot:∀ (r b m:Nat) (a:Nat→Nat→Int) (c:Nat→Int) (x:Nat→Rat),(∀ i,i < m→∀ k,k < r→(a i k).natAbs < 2 ^ b)→(∀ i,i < m→sumN (fun k=>(a i k:Rat)*x k) r=(c i:Rat))→(∀ y:Nat→Rat,(∀ i,i < m→sumN (fun k=>(a i k:Rat)*y k) r=0)→∀ k,k < r→y k=0)→∃ D:Int,D≠0∧D.natAbs≤2 ^ gb b r∧∀ k,k < r→∃ z:Int,(D:Rat)*x k=(z:Rat)
  | 0,b,m,a,c,x,_,_,_=>⟨1,by decide,by simp [gb],fun k hk=>by omega⟩
  | r+1,b,m,a,c,x,hb,hx,hu=>by
    have h0:∃ i,i < m∧a i r≠0:=by
      apply Classical.byContradiction
      intro hn
      have:=hu (fun k=>if k=r then 1 else 0) (fun i hi=>by
        rw [Zcs (k:=r) (by omega) fun j hj hjr=>by rw [if_neg hjr,Rat.mul_zero]]
        have:a i r=0:=Classical.byContradiction fun z=>hn ⟨i,hi,z⟩
        rw [this,if_pos rfl]
        rw [Rat.mul_one]
        rfl) r (by omega)
      rw [if_pos rfl] at this
      exact absurd this (by decide)
    obtain ⟨i0,hi0,hh⟩:=h0
    have hq:((a i0 r:Int):Rat)≠0:=fun z=>hh (by exact_mod_cast z)
    have split:∀ (y:Nat→Rat) (i:Nat),sumN (fun k=>((a i k*a i0 r - a i r*a i0 k:Int):Rat)*y k) r=(a i0 r:Rat)*sumN (fun k=>(a i k:Rat)*y k) r - (a i r:Rat)*sumN (fun k=>(a i0 k:Rat)*y k) r:=fun y i=>by
      rw [← ZbH,← ZbH,← Zff]
      refine Zam fun k hk=>?_
      rw [Rat.intCast_sub,Rat.intCast_mul,Rat.intCast_mul]
      grind
    obtain ⟨D,d0,dl,dx⟩:=bot r (2*b+1) m (fun i k=>a i k*a i0 r - a i r*a i0 k) (fun i=>c i*a i0 r - a i r*c i0) x (fun i hi k hk=>by
      have p1:(a i k*a i0 r).natAbs < 2 ^ (2*b):=by
        rw [Int.natAbs_mul,show 2*b=b+b by omega,Nat.pow_add]
        exact Nat.mul_lt_mul'' (hb i hi k (by omega)) (hb i0 hi0 r (by omega))
      have p2:(a i r*a i0 k).natAbs < 2 ^ (2*b):=by
        rw [Int.natAbs_mul,show 2*b=b+b by omega,Nat.pow_add]
        exact Nat.mul_lt_mul'' (hb i hi r (by omega)) (hb i0 hi0 k (by omega))
      rw [Nat.pow_succ]
      omega) (fun i hi=>by
      rw [split]
      have e1:=hx i hi
      have e2:=hx i0 hi0
      rw [sumN] at e1 e2
      rw [Rat.intCast_sub,Rat.intCast_mul,Rat.intCast_mul,← e1,← e2]
      grind) (fun y hy k hk=>by
      have:=hu (fun k=>if k=r then -(sumN (fun k=>(a i0 k:Rat)*y k) r) / (a i0 r:Rat) else y k) (fun i hi=>by
        rw [sumN,if_pos rfl,Zam (g:=fun k=>(a i k:Rat)*y k) fun k hk=>by rw [if_neg (by omega)]]
        have:=hy i hi
        rw [split] at this
        grind) k (by omega)
      rw [if_neg (by omega)] at this
      exact this)
    refine ⟨D*a i0 r,Int.mul_ne_zero d0 hh,?_,fun k hk=>?_⟩
    · rw [Int.natAbs_mul,gb,Nat.pow_add,Nat.mul_comm]
      exact Nat.mul_le_mul (Nat.le_of_lt (hb i0 hi0 r (by omega))) dl
    · by_cases e:k=r
      · subst e
        obtain ⟨z,hz⟩:=sum_whole (a:=a i0) (x:=fun k=>(D:Rat)*x k) (r:=k) dx
        refine ⟨D*c i0 - z,?_⟩
        have e2:=hx i0 hi0
        rw [sumN] at e2
        have:sumN (fun j=>(a i0 j:Rat)*((D:Rat)*x j)) k=(D:Rat)*sumN (fun j=>(a i0 j:Rat)*x j) k:=by
          rw [← ZbH]
          exact Zam fun j _=>by grind
        rw [this] at hz
        rw [Rat.intCast_sub,Rat.intCast_mul,Rat.intCast_mul,← hz,← e2]
        grind
      · obtain ⟨z,hz⟩:=dx k (by omega)
        refine ⟨z*a i0 r,?_⟩
        rw [Rat.intCast_mul,Rat.intCast_mul,← hz]
        grind
theorem sum_rev (f:Nat→Rat):∀ n:Nat,sumN (fun k=>f (n - 1 - k)) n=sumN f n
  | 0=>rfl
  | n+1=>by
    rw [ZcR,sumN]
    have:=sum_rev f n
    rw [Zam (g:=fun k=>f (n - 1 - k)) fun i hi=>by rw [show n+1 - 1 - (i+1)=n - 1 - i by omega],this]
    rw [show n+1 - 1 - 0=n by omega]
    grind
def Ov (b D:Nat) (x:Rat):Prop:=∃ z:Int,z.natAbs < 2 ^ b∧x*(D:Rat)=(z:Rat)
theorem Ov.mono {b b' D:Nat} {x:Rat} (h:Ov b D x) (l:b≤b'):Ov b' D x:=by
  obtain ⟨z,h1,h2⟩:=h
  exact ⟨z,Nat.lt_of_lt_of_le h1 (Nat.pow_le_pow_right (by decide) l),h2⟩
theorem num_den (x:Rat):x*(x.den:Rat)=(x.num:Rat):=by
  have hd:((x.den:Int):Rat)≠0:=fun z=>x.den_nz (by exact_mod_cast z)
  have e:x=(x.num:Rat)*((x.den:Int):Rat)⁻¹:=by
    rw [← Rat.div_def,← Rat.divInt_eq_div,Rat.num_divInt_den]
  have:x*((x.den:Int):Rat)=(x.num:Rat):=by
    conv=>lhs;lhs;rw [e]
    rw [Rat.mul_assoc,Rat.inv_mul_cancel _ hd,Rat.mul_one]
  exact this
theorem ov_den {a c D:Nat} {x:Rat} (h:Sz a x) (hd:x.den ∣ D) (d0:0 < D) (hD:D≤2 ^ c):Ov (a+c) D x:=by
  obtain ⟨e,rfl⟩:=hd
  refine ⟨x.num*e,?_,?_⟩
  · rw [Int.natAbs_mul,Int.natAbs_natCast,Nat.pow_add]
    have he:e≤2 ^ c:=Nat.le_trans (Nat.le_mul_of_pos_left e x.den_pos) hD
    have e0:0 < e:=Nat.pos_of_ne_zero fun z=>by subst z;simp at d0
    exact Nat.lt_of_lt_of_le (Nat.mul_lt_mul_of_pos_right h.1 e0) (Nat.mul_le_mul_left _ he)
  · rw [Rat.natCast_mul,← Rat.mul_assoc,num_den,Rat.intCast_mul]
    rfl
theorem ov_z {a c:Nat} {D:Int} {x:Rat} {z:Int} (h:Sz a x) (d0:D≠0) (hD:D.natAbs≤2 ^ c) (hz:(D:Rat)*x=(z:Rat)):Ov (a+c) D.natAbs x:=by
  have hb:z.natAbs < 2 ^ (a+c):=by
    have e:z*(x.den:Int)=D*x.num:=by
      have:((z*(x.den:Int):Int):Rat)=((D*x.num:Int):Rat):=by
        rw [Rat.intCast_mul,Rat.intCast_mul,← hz,← num_den x,Rat.mul_assoc]
        rfl
      exact_mod_cast this
    have e2:=congrArg Int.natAbs e
    rw [Int.natAbs_mul,Int.natAbs_mul,Int.natAbs_natCast] at e2
    have h1:z.natAbs≤z.natAbs*x.den:=Nat.le_mul_of_pos_right _ x.den_pos
    have h2:D.natAbs*x.num.natAbs < 2 ^ c*2 ^ a:=by
      have p0:0 < 2 ^ c:=Nat.pow_pos (by decide)
      exact Nat.lt_of_le_of_lt (Nat.mul_le_mul_right _ hD) (Nat.mul_lt_mul_of_pos_left h.1 p0)
    rw [Nat.pow_add,Nat.mul_comm (2 ^ a)]
    omega
  rcases Int.natAbs_eq D with e | e
  · refine ⟨z,hb,?_⟩
    rw [← hz,Rat.mul_comm]
    congr 1
    conv=>rhs;rw [e]
    rfl
  · refine ⟨-z,by rw [Int.natAbs_neg];exact hb,?_⟩
    have:((D:Int):Rat) = -((D.natAbs:Nat):Rat):=by
      conv=>lhs;rw [e]
      rw [Rat.intCast_neg]
      rfl
    rw [Rat.intCast_neg,← hz,this]
    grind
theorem mem_rsL {q:Nat} {x:Rat}:∀ (ld:List (List Rat)) (pl:List Nat) (row:List Rat),x∈rsL q ld pl row→x∈row∨∃ l∈ld,x=l.getD q 0
  | [],pl,row,h=>by
    have e:rsL q [] pl row=row:=by cases pl<;>rfl
    rw [e] at h;exact .inl h
  | _::_,[],row,h=>.inl h
  | l::ld,a::pl,row,h=>by
    rcases mem_rsL ld pl _ h with h | ⟨m,hm,e⟩
    · rcases List.mem_or_eq_of_mem_set h with h | rfl
      · exact .inl h
      · exact .inr ⟨l,by simp,rfl⟩
    · exact .inr ⟨m,by simp [hm],e⟩
def denP (q:Nat):List (List Rat)→Nat
  | []=>1
  | l::ld=>(l.getD q 0).den*denP q ld
theorem denP_pos (q:Nat):∀ ld,0 < denP q ld
  | []=>Nat.one_pos
  | l::ld=>Nat.mul_pos (Rat.den_pos _) (denP_pos q ld)
theorem denP_dvd {q:Nat} {l:List Rat}:∀ {ld:List (List Rat)},l∈ld→(l.getD q 0).den ∣ denP q ld
  | m::ld,h=>by
    rcases List.mem_cons.mp h with rfl | h
    · exact Nat.dvd_mul_right _ _
    · exact Nat.dvd_trans (denP_dvd h) (Nat.dvd_mul_left _ _)
theorem denP_le {q b:Nat}:∀ {ld:List (List Rat)},(∀ l∈ld,(l.getD q 0).den < 2 ^ b)→denP q ld≤2 ^ (b*ld.length)
  | [],_=>by simp [denP]
  | l::ld,h=>by
    rw [denP,List.length_cons,Nat.mul_succ,Nat.pow_add,Nat.mul_comm]
    exact Nat.mul_le_mul (denP_le fun m hm=>h m (by simp [hm])) (Nat.le_of_lt (h l (by simp)))
namespace B.C.K4.K5
abbrev Zdd:List Str:=["numbers", "length", "shares", "rows", "leading", "places", "rule", "lead", "place"]
abbrev ZeS:List Str:=["numbers", "length"]
def Zci:WS:=(zSeq (zSet 2 (wF ZcJ (Zab (wN 0) aNil))) (zSeq (zOwn 3 (aLC (iR2 (Zab (wN 1) (Zab (wB gLen (Zab (wN 0) aNil)) aNil))) 1 [1,2] (gN 0) ZaN (w2 gAdd (w1 gRev (wCut (wN 2) (ZaL (w2 ZdB (wN 0) (wN 1))) (ZaL (wN 0)))) (wTup (Zab (w2 gIx (wN 2) (wN 0)) aNil))))) (zPub 3 (zSeq (zAsg (wF ZdG (Zab (wN 3) (Zab (w2 gAdd (wN 1) (wC (D.int (1)))) aNil))) (gTp 2 (Zap (gN 4) (Zap (gN 5) ZaZ)))) (zSeq (zIf (wT (w2 (gIn false) (wN 1) (wN 5))) (zRet (wC D.non)) zNx) (zSeq (zOwn 6 (aMul (wL (aLst (Zab (wC (D.tup [(D.int (0)),(D.int (1))])) aNil))) (wN 1))) (zSeq (zNox (zFor (iZ (Zab (wN 4) (Zab (wN 5) aNil))) (gTp 2 (Zap (gN 7) (Zap (gN 8) ZaZ))) (Zb6 6 (wN 8) (w2 gIx (wN 7) (wN 1))))) (zPub 6 (zRet (wB ZbM (Zab (wN 6) aNil)))))))))))
abbrev Ze4:List Str:=["numbers", "length", "rule"]
abbrev ps_least_rule:List Str:=["numbers"]
def Zdp:WS:=(zSeq (ZbQ (wF ZaG (Zab (wN 0) (Zab (wC (.int (10))) aNil)))) (zSeq (zSet 1 (wC (D.int (0)))) (zSeq (zSet 2 (wF ZaU (Zab (wN 0) (Zab (wN 1) aNil)))) (zSeq (zNox (zWhile (wT (w2 (gIsC false) (wN 2) (wC D.non))) (zSeq (zAug 1 (wC (D.int (1)))) (zSet 2 (wF ZaU (Zab (wN 0) (Zab (wN 1) aNil))))))) (zRet (wN 2))))))
abbrev Zd6:List Str:=["numbers"]
abbrev ZfC:List Str:=["numbers"]
def ZcO:WS:=(zRet (wB gLen (Zab (wF Zcf (Zab (wN 0) aNil)) aNil)))
abbrev N_is_only:List Str:=["numbers"]
abbrev ps_is_only:List Str:=["numbers"]
def Zfn:WS:=(zRet (w2 gLeI (w2 gMul (wC (D.int (2))) (wF Zay (Zab (wN 0) aNil))) (wB gLen (Zab (wN 0) aNil))))
abbrev Ze3:List Str:=["numbers"]
abbrev ps_lengths_of:List Str:=["numbers"]
def Zdo:WS:=(zSeq (ZbQ (wF ZaG (Zab (wN 0) (Zab (wC (.int (10))) aNil)))) (zRet (wL (aLC (iR2 (Zab (wC (D.int (1))) (Zab (w2 gAdd (wB gLen (Zab (wN 0) aNil)) (wC (D.int (1)))) aNil))) 1 [0] (gN 0) ZaN (wF Zay (Zab (wCut (wN 1) Zbt (ZaL (wN 0))) aNil))))))
end B.C.K4.K5
theorem set_by {i:Nat} {w:WE} {E:Ex→Prop} {N:Nds} {ρ ρ':Rho} {d:D} (e:ρ.set i (.d d)=ρ') (hw:∀ P:D→Prop,P d→w E ρ P) (h:N.nx ρ'):zSet i w E N ρ:=hw _ (by rw [e];exact h)
theorem set_rl {i:Nat} {w:WE} {E:Ex→Prop} {N:Nds} {ρ:Rho} (R:D→Prop) (hw:∀ P:D→Prop,(∀ d,R d→P d)→w E ρ P) (h:∀ d,R d→N.nx (ρ.set i (.d d))):zSet i w E N ρ:=hw _ h
theorem for_seq {w:WE} {g:WG} {zb:WS} {E:Ex→Prop} {N:Nds} {ρ:Rho} {xs:List D} (hw:∀ P:D→Prop,P (.lst xs)→w E ρ P) (h:ZaW g zb E N xs ρ):zFor (iS w) g zb E N ρ:=hw _ h
local macro_rules | `(tactic| walk_at "w1")=>`(tactic| simp only [zRet,zIf,zSet,zNx,ZbQ,zPub,zOwn,zFor,ZaI,zPar,zAsg,zApp,Zb6,zInk,ZbE,zNox,ZaO,zTry,zCt,zExt,Zfq,zPar3,zAug,wSel,wM,Zb9,Zb7,wOrV,Zcr,wAnd,wOr,wNot,wT,wIf,w1,w2,wB,wF,wL,wTup,wCut,ZaA,aB,aLst,Zab,aNil,aLC,Zbz,ZaN,iS,iE,iL,iT,iR1,iR2,iZ,Zbt,ZaL,wN,wC,gN,gTp,Zap,ZaZ,gIxP,Zai,wPen,wBor,tBor,aBor,wIxO,aAdd,aMul,aCut,rho,pub,List.map_cons,List.map_nil,List.length_cons,List.length_nil,List.cons_append,List.nil_append,List.replicate,List.getElem?_cons_zero,List.getElem?_cons_succ,List.set_cons_zero,List.set_cons_succ,Nat.reduceSub,Nat.reduceAdd,List.replicate_succ,List.replicate_zero,true_and,Bool.false_eq_true,if_true,if_false,ite_true,ite_false,Int.toNat_natCast,Bool.not_true,Bool.not_false,
  Zdk,Zdj,Zdi,Zb5,Zb4,Zdh,Zb0,ZbY,ZbZ,Zb2,Zb1,Zb3,Zb,Zbc,Zba,Zbb,Zbe,Zbd,Zbf,ZbR,ZbU,ZbS,ZbT,ZbW,ZbV,ZbX,Zbi,Zbl,Zbj,Zbk,Zbn,Zbm,Zbo,Za3,Za5,Za4,Za7,Za6,Za0,Za1,Za2,Zau,Zav,Zaw,Zbr,Zbq,Zbp,Za9,Za8,e_I2,Zdm,Zdg,Zbh,Zbg,Zdl,e_i1,e_i2])
local macro_rules | `(tactic| walk_at "st")=>`(tactic| ((try dsimp only at *);(try walk_at "w1");(try dsimp only)))
local macro_rules | `(tactic| walk_at "nx")=>`(tactic| ((try dsimp only);(refine Zaj ?_);walk_at "st"))
namespace B.C.K4.K5
theorem rd_cleared:∀ ds E Q,ZdG ds E Q→Zek E { nx:=fun _=>Q .non,rt:=Q } (rho N_cleared ds):=by
  rintro _ E Q ⟨⟨⟨⟨b,w⟩,m⟩,R⟩,rfl,h,q⟩
  dsimp only at h q
  obtain ⟨mw,w1,hl,hb,hlf⟩:=h
  show Zek E _ [.d (Zat R),.d (.int m),.un,.un,.un,.un,.un,.un]
  unfold Zek
  refine Zaj (eset (d:=Zat []) (ρ':=[.d (Zat R),.d (.int m),.d (Zat []),.un,.un,.un,.un,.un]) (by rfl) (fun P hP=>⟨by decide,hP⟩) ?_)
  dsimp only
  refine Zaj (B.C.own_by (xs:=[]) (ρ':=[.d (Zat R),.d (.int m),.d (Zat []),.ow [],.un,.un,.un,.un]) (by rfl) (fun P hP=>⟨by decide,hP⟩) ?_)
  dsimp only
  refine Zaj (eset (d:=Zat R) (ρ':=[.d (Zat R),.d (.int m),.d (Zat []),.ow [],.d (Zat R),.un,.un,.un]) (by rfl) (fun P hP=>?_) ?_)
  · unfold Zat
    walk_at "st"
    exact hP
  dsimp only
  refine Zaj ?_
  simp only [zNox,zFor]
  walk_at "st"
  refine ⟨by omega,by omega,?_⟩
  refine for_up (fun p ρ=>∃ s5 s6 s7,ρ=[.d (Zat R),.d (.int m),.d (Zat (clR R p).ld),.ow ((clR R p).pl.map fun (k:Nat)=>D.int (k:Int)),.d (Zat (clR R p).rs),s5,s6,s7]) m ?_ ?_ _ ⟨_,_,_,rfl⟩
  rotate_left
  · rintro _ ⟨s5,s6,s7,rfl⟩
    dsimp only
    refine B.C.pub_by (ρ':=[.d (Zat R),.d (.int m),.d (Zat (clR R m).ld),.d (natsL (clR R m).pl),.d (Zat (clR R m).rs),s5,s6,s7]) rfl ?_
    walk_at "st"
    exact ⟨by decide,q⟩
  rintro p hp _ ⟨s5,s6,s7,rfl⟩ nx hnx
  obtain ⟨ok,okl⟩:=cl_ok2 hlf (p:=p) (by omega)
  rw [show clR R (p+1)=clS p (clR R p) from rfl] at hnx
  generalize clR R p=x at ok okl hnx
  have ln:=ok.ln
  have hbp:3*bq b x.ld.length < 8990:=by have:=Zej (b:=b) (show x.ld.length≤min m R.length by omega);omega
  have lp:=ok.pl
  have rl:∀ r∈x.rs,r.length=w:=fun r hr=>(ok.rs r hr).len
  show zSeq _ _ _ _ [.d (Zat R),.d (.int m),.d (Zat x.ld),.ow (x.pl.map fun (k:Nat)=>D.int (k:Int)),.d (Zat x.rs),.d (.int p),s6,s7]
  refine Zaj (eset (d:=optI (firF x.rs p)) (ρ':=[.d (Zat R),.d (.int m),.d (Zat x.ld),.ow (x.pl.map fun (k:Nat)=>D.int (k:Int)),.d (Zat x.rs),.d (.int p),.d (optI (firF x.rs p)),s7]) (by rfl) (fun P hP=>?_) ?_)
  · simp only [wF,Zab,aNil,wN,List.getElem?_cons_zero,List.getElem?_cons_succ]
    exact u_first_with (by omega) (fun r hr=>by rw [rl r hr];omega) hP
  dsimp only
  unfold clS at hnx
  cases e:firF x.rs p with
  | none=>
    rw [e] at hnx
    refine Zce (b:=false) (fun P hP=>?_) (fun e=>nomatch e) fun _=>hnx _ ⟨_,_,_,rfl⟩
    walk_at "st"
    exact ⟨rfl,hP⟩
  | some a=>
    rw [e] at hnx
    dsimp only at hnx
    obtain ⟨a1,a2⟩:=ZeA e
    have la:=ok.rs _ (ZfL a1)
    have hlead:=cl_lead2 ok (by omega) e
    refine Zce (b:=true) (fun P hP=>?_) (fun _=>?_) fun e=>nomatch e
    · walk_at "st"
      exact ⟨rfl,hP⟩
    have hpa:p < (x.rs.getD a []).length:=by rw [rl _ (ZfL a1)];omega
    refine Zaj (eset (d:=rowq (Zdf x.rs a p)) (ρ':=[.d (Zat R),.d (.int m),.d (Zat x.ld),.ow (x.pl.map fun (k:Nat)=>D.int (k:Int)),.d (Zat x.rs),.d (.int p),.d (.int a),.d (rowq (Zdf x.rs a p))]) (by rfl) (fun P hP=>?_) ?_)
    · show wF _ _ No [.d (Zat R),.d (.int m),.d (Zat x.ld),.ow (x.pl.map fun (k:Nat)=>D.int (k:Int)),.d (.lst (x.rs.map rowq)),.d (.int p),.d (.int a),s7] P
      simp only [wF,Zab,aNil,wN,w2,List.getElem?_cons_zero,List.getElem?_cons_succ]
      refine ⟨_,rows_at a1,_,rows_at a1,_,row_at hpa,?_⟩
      exact u_row_by (b:=bq b x.ld.length) (by omega) (by rw [rl _ (ZfL a1)];omega) la.sz (la.get (by omega)).2 a2 hP
    dsimp only
    generalize Zdf x.rs a p=lead at hlead hnx
    refine Zaj (eset (d:=Zat (witF x.ld lead p++[lead])) (ρ':=[.d (Zat R),.d (.int m),.d (Zat (witF x.ld lead p++[lead])),.ow (x.pl.map fun (k:Nat)=>D.int (k:Int)),.d (Zat x.rs),.d (.int p),.d (.int a),.d (rowq lead)]) (by rfl) (fun P hP=>?_) ?_)
    · simp only [wF,Zab,aNil,wN,w2,wL,aLst,List.getElem?_cons_zero,List.getElem?_cons_succ]
      refine Zds (b:=bq b x.ld.length) (w:=w) hbp w1 (by omega) (by omega) (fun r hr=>⟨(ok.ld r hr).len,(ok.ld r hr).sz⟩) hlead.sz ⟨Zby (by simp),?_⟩
      unfold Zat at hP ⊢
      rw [List.map_append] at hP
      exact ⟨Zby (by unfold witF;simp;omega),hP⟩
    dsimp only
    have hcut:∀ (b1:Nat),(x.rs.take a++x.rs.drop (a+1)).length≤1000:=fun _=>by rw [List.length_append,List.length_take,List.length_drop];omega
    refine Zaj (eset (d:=Zat (witF (x.rs.take a++x.rs.drop (a+1)) lead p)) (ρ':=[.d (Zat R),.d (.int m),.d (Zat (witF x.ld lead p++[lead])),.ow (x.pl.map fun (k:Nat)=>D.int (k:Int)),.d (Zat (witF (x.rs.take a++x.rs.drop (a+1)) lead p)),.d (.int p),.d (.int a),.d (rowq lead)]) (by rfl) (fun P hP=>?_) ?_)
    · show wF _ _ No [.d (Zat R),.d (.int m),.d (Zat (witF x.ld lead p++[lead])),.ow (x.pl.map fun (k:Nat)=>D.int (k:Int)),.d (.lst (x.rs.map rowq)),.d (.int p),.d (.int a),.d (rowq lead)] P
      walk_at "st"
      rw [cut_to (b:=a) rfl,show ((a:Int)+1)=((a+1:Nat):Int) by omega,cut_from (by rw [List.length_map];omega),← List.map_take,← List.map_drop]
      refine ⟨Zby (by simp;omega),?_⟩
      rw [← List.map_append]
      exact Zds (b:=bq b x.ld.length) (w:=w) hbp w1 (hcut 0) (by omega) (fun r hr=>⟨(ok.rs r (LP.mem_cut hr)).len,(ok.rs r (LP.mem_cut hr)).sz⟩) hlead.sz hP
    dsimp only
    refine eapp (d:=.int p) rfl (Nat.lt_of_lt_of_le (show _ < 2000 by rw [List.length_map];omega) (by decide)) rfl (B.nm_at rfl) (hnx _ ⟨.d (.int p),.d (.int a),.d (rowq lead),?_⟩)
    rw [List.map_append]
    rfl
theorem hrow_lf {ns:List Int} (hN:IsN ns) (L p:Nat):Lf 6 (L+1) (hrow ns L p):=by
  have hb:∀ k,(ns.getD k 0).natAbs < 2 ^ 6:=fun k=>by
    rw [List.getD_eq_getElem?_getD]
    cases e:ns[k]? with
    | none=>decide
    | some x=>
      have:=hN.b x (List.mem_of_getElem? e)
      show x.natAbs < 64
      omega
  have e:hrow ns L p=Zan (((List.range L).map fun k=>ns.getD (p - 1 - k) 0)++[ns.getD p 0]):=by
    unfold hrow Zan sv
    rw [List.map_append,List.map_map]
    rfl
  rw [e]
  have:=Lf.int (b:=6) (c:=((List.range L).map fun k=>ns.getD (p - 1 - k) 0)++[ns.getD p 0]) (by decide) (fun x hx=>by
    rcases List.mem_append.mp hx with hx | hx
    · obtain ⟨k,_,rfl⟩:=List.mem_map.mp hx
      exact hb _
    · rw [List.mem_singleton.mp hx];exact hb _)
  simpa using this
theorem min5 {n L:Nat} (hn:n≤10) (hL:L≤n):min (L+1) (n - L)≤5:=by omega
theorem cut_mid {α:Type} {xs:List α} {a b:Nat} (h1:a≤b) (h2:b≤xs.length):cutD xs (some (a:Int)) (some (b:Int))=(xs.drop a).take (b - a):=by
  unfold cutD
  rw [HT.sIx_nat,HT.sIx_nat,Nat.min_eq_left h2,Nat.min_eq_left (show a≤xs.length by omega)]
theorem hrow_cut {ns:List Int} {L i:Nat} (hi:L+i < ns.length):(cutD ((Zan ns).map shq) (some (i:Int)) (some ((L+i:Nat):Int))).reverse++[shq (sv ns (L+i))]=(hrow ns L (L+i)).map shq:=by
  unfold hrow
  rw [List.map_append]
  congr 1
  rw [cut_mid (by omega) (by unfold Zan;simp;omega)]
  apply List.ext_getElem?
  intro k
  have hcl:(Zan ns).length=ns.length:=by unfold Zan;simp
  have hl:(List.take (L+i - i) (List.drop i ((Zan ns).map shq))).length=L:=by rw [List.length_take,List.length_drop,List.length_map,hcl];omega
  by_cases hk:k < L
  · rw [List.getElem?_reverse (by omega),hl,List.getElem?_take,if_pos (by omega),List.getElem?_drop,List.getElem?_map,List.getElem?_map,List.getElem?_map,List.getElem?_range hk]
    unfold Zan sv
    rw [List.getElem?_map,show i+(L - 1 - k)=L+i - 1 - k by omega,List.getElem?_eq_getElem (by omega)]
    simp only [Option.map_some,List.getD_eq_getElem?_getD]
    rw [List.getElem?_eq_getElem (by omega)]
    rfl
  · rw [List.getElem?_eq_none (by rw [List.length_reverse];omega),List.getElem?_eq_none (by simp;omega)]
theorem ZeO:∀ ds E Q,ZaU ds E Q→Zci E { nx:=fun _=>Q .non,rt:=Q } (rho Zdd ds):=by
  rintro _ E Q ⟨⟨ns,L⟩,rfl,⟨hN,hL⟩,q⟩
  dsimp only at hN hL q
  have n10:=hN.n10
  unfold Zci
  walk_at "nx"
  refine Zfr (by omega) ?_
  walk_at "nx"
  refine ⟨by omega,?_⟩
  rw [show ((ns.length:Int) - (L:Int)).toNat=ns.length - L by omega]
  have hc:∀ {P:List D→Prop},P ((ZbG ns L).map rowq)→lcW (gN 0) ZaN (w2 gAdd (w1 gRev (wCut (wN 2) (ZaL (w2 ZdB (wN 0) (wN 1))) (ZaL (wN 0)))) (wTup (Zab (w2 gIx (wN 2) (wN 0)) aNil))) (rng (L:Int) (ns.length - L)) [.un,.d (.int L),.d (rowq (Zan ns))] [] P:=fun {P} hP=>by
    have er:rng (L:Int) (ns.length - L)=(List.range (ns.length - L)).map fun (i:Nat)=>D.int ((L+i:Nat):Int):=by
      unfold rng
      exact List.map_congr_left fun i _=>by simp
    rw [er]
    refine lc_of (g:=fun (i:Nat)=>D.int ((L+i:Nat):Int)) (f:=fun i=>rowq (hrow ns L (L+i))) _ (fun i hi P hP=>?_) .un [] (Zby (by simp;omega)) ?_
    · rw [List.mem_range] at hi
      unfold rowq at hP ⊢
      walk_at "st"
      rw [show ((L+i:Nat):Int) - (L:Int)=(i:Int) by omega]
      have hcl:(Zan ns).length=ns.length:=by unfold Zan;simp
      have hcut:=hrow_cut (ns:=ns) (L:=L) (i:=i) (by omega)
      refine ⟨shq (sv ns (L+i)),atI_nat ?_,by decide,?_,?_⟩
      · unfold Zan sv
        rw [List.getElem?_map,List.getElem?_map,List.getElem?_eq_getElem (by omega),List.getD_eq_getElem?_getD,List.getElem?_eq_getElem (by omega)]
        rfl
      · have:=congrArg List.length hcut
        simp only [List.length_append,List.length_singleton,List.length_map,Zfi] at this
        exact Zby (by omega)
      · rw [hcut];exact hP
    · rw [List.nil_append]
      unfold ZbG at hP
      rw [List.map_map] at hP
      exact hP
  refine hc ?_
  walk_at "nx"
  have hRl:(ZbG ns L).length=ns.length - L:=by unfold ZbG;simp
  have hlf:∀ r∈ZbG ns L,Lf 6 (L+1) r:=fun r hr=>by
    obtain ⟨i,_,rfl⟩:=List.mem_map.mp hr
    exact hrow_lf hN L _
  have hm5:bq 6 (min (L+1) (ZbG ns L).length)≤223:=Nat.le_trans (Zej (by rw [hRl];exact min5 n10 hL)) (by decide)
  rw [show (L:Int)+1=((L+1:Nat):Int) by omega]
  show ZdG [Zat (ZbG ns L),.int ((L+1:Nat):Int)] E _
  refine u_cleared (b:=6) (w:=L+1) (Nat.le_refl _) (by omega) (by omega) (by omega) hlf ⟨rfl,?_⟩
  obtain ⟨ok,okl⟩:=cl_ok2 hlf (p:=L+1) (Nat.le_refl _)
  have hEc:=cl_ec (n:=L+1) (R:=ZbG ns L) (fun r hr=>(hlf r hr).len) (L+1) (Nat.le_refl _)
  unfold rolF at q
  have hRl2:=hRl
  generalize ZbG ns L=R at *
  generalize clR R (L+1)=c at *
  dsimp only
  have hcl:=ok.ln
  have hpl:=ok.pl
  have hw:=hEc.wl
  walk_at "nx"
  refine ⟨(L:Int),c.pl.map fun (k:Nat)=>(k:Int),rfl,.inl (by unfold natsL;rw [show its (c.pl.map fun (k:Nat)=>(k:Int))=(c.pl.map fun (k:Nat)=>(k:Int)).map D.int from rfl,List.map_map];rfl),?_⟩
  rw [if_neg Bool.false_ne_true]
  have hct:(c.pl.map fun (k:Nat)=>(k:Int)).contains (L:Int)=decide (L∈c.pl):=by
    rw [Bool.eq_iff_iff,List.contains_iff_mem,decide_eq_true_eq,List.mem_map]
    constructor
    · rintro ⟨k,hk,e⟩
      have:k=L:=by omega
      exact this ▸ hk
    · exact fun h=>⟨L,h,rfl⟩
  rw [hct]
  by_cases hin:L∈c.pl
  · rw [if_pos hin] at q
    rw [decide_eq_true hin]
    exact q
  rw [if_neg hin] at q
  rw [decide_eq_false hin]
  simp only [isB,Bool.false_eq_true,if_false]
  walk_at "nx"
  rw [rep_sh]
  refine ⟨by decide,by omega,by omega,by simp [small];omega,?_⟩
  have hlt:∀ a∈c.pl,a < L:=fun a ha=>by
    have:=hEc.lt a ha
    have:a≠L:=fun z=>hin (z ▸ ha)
    omega
  refine Zaj ?_
  simp only [zNox]
  walk_at "st"
  show ZaW _ _ _ _ (zips (c.ld.map rowq) (c.pl.map fun (k:Nat)=>D.int (k:Int))) _
  refine for_inv (fun ds ρ=>∃ (ld:List (List Rat)) (pl:List Nat) (row:List Rat) (s7 s8:SV),ds=zips (ld.map rowq) (pl.map fun (k:Nat)=>D.int (k:Int))∧row.length=L∧(∀ a∈pl,a < L)∧(∀ l∈ld,l.length=L+1)∧rsL L c.ld c.pl (List.replicate L 0)=rsL L ld pl row∧ρ=[.d (Zag ns),.d (.int L),.d (rowq (Zan ns)),.d (.lst (R.map rowq)),.d (Zat c.ld),.d (natsL c.pl),.ow (row.map shq),s7,s8]) ?_ ?_ _ _ ⟨c.ld,c.pl,List.replicate L 0,_,_,rfl,by simp,hlt,hw,rfl,rfl⟩
  · rintro d ds _ ⟨ld,pl,row,s7,s8,e,hr,ha,hl,er,rfl⟩ nx hnx
    match ld,pl with
    | [],_=>cases e
    | _::_,[]=>cases e
    | l::ld,a::pl=>
      cases e
      have ha0:=ha a (by simp)
      have hl0:=hl l (by simp)
      refine ⟨rfl,?_⟩
      simp only [Zap,ZaZ,gN,List.set_cons_succ,List.set_cons_zero]
      unfold rowq
      walk_at "st"
      refine ⟨_,row_at (by omega),a,?_,hnx _ ⟨ld,pl,row.set a (l.getD L 0),_,_,rfl,by rw [List.length_set];exact hr,fun b hb=>ha b (by simp [hb]),fun b hb=>hl b (by simp [hb]),by rw [er,rsL],by rw [List.map_set];rfl⟩⟩
      rw [List.length_map]
      exact ixN_nat (by omega)
  · rintro _ ⟨ld,pl,row,s7,s8,e,hr,ha,hl,er,rfl⟩
    have eb:rsL L ld pl row=row:=by
      match ld,pl with
      | [],[]=>rfl
      | [],_::_=>rfl
      | _::_,[]=>rfl
      | _::_,_::_=>cases e
    rw [er,eb] at q
    walk_at "st"
    exact q
end B.C.K4.K5
namespace B.C.K4.K5
theorem u_nn5 {x:D} {E:Ex→Prop} {Q:D→Prop} (h:kd x=true) (q:exQ E Q (if nmG 10 x=true then .ok .non else .error "NoRow")):ZaG [x,.int 10] E Q:=⟨(x,10),rfl,h,q⟩
theorem rd_least_rule:∀ ds E Q,Zcf ds E Q→Zdp E { nx:=fun _=>Q .non,rt:=Q } (rho Ze4 ds):=by
  rintro _ E Q ⟨x,rfl,hk,q⟩
  unfold Zdp
  walk_at "nx"
  refine u_nn5 hk ?_
  unfold lrR gdR at q
  by_cases hn:nmG 10 x=true
  case neg=>
    rw [if_neg hn] at q ⊢
    exact q
  rw [if_pos hn] at q ⊢
  obtain ⟨ns,rfl,hN⟩:=ZfG hn
  unfold nI at q
  rw [ZaX] at q
  simp only [exQ] at q ⊢
  obtain ⟨l1,l2,l3⟩:=Zfd ns
  walk_at "nx"
  walk_at "nx"
  refine Zd (k:=0) hN (by omega) ?_
  refine Zaj ?_
  simp only [zNox]
  refine ⟨fun m ρ=>∃ L,m=ns.length - L∧L≤lrL ns∧ρ=[.d (Zag ns),.d (.int (L:Nat)),.d (optR (rolF ns L))],⟨_,0,rfl,by omega,rfl⟩,?_⟩
  rintro m _ ⟨L,hm,hL,rfl⟩
  walk_at "st"
  cases e:rolF ns L with
  | none=>
    have hlt:L < lrL ns:=by
      rcases Nat.lt_or_ge L (lrL ns) with h | h
      · exact h
      · have:L=lrL ns:=by omega
        rw [this,l2] at e
        cases e
    refine ⟨rfl,?_⟩
    simp only [optR,sameC,isB,Bool.false_eq_true,if_false,if_true]
    refine Zaj ?_
    unfold zAug
    walk_at "st"
    rw [show (L:Int)+1=((L+1:Nat):Int) by omega]
    exact Zd hN (by omega) ⟨ns.length - (L+1),by omega,L+1,rfl,by omega,rfl⟩
  | some r=>
    have heq:L=lrL ns:=by
      rcases Nat.lt_or_ge L (lrL ns) with h | h
      · rw [l3 L h] at e;cases e
      · omega
    refine ⟨rfl,?_⟩
    rw [heq,l2] at e
    cases e
    unfold rowq at q
    simp only [optR,rowq,sameC,isB,Bool.false_eq_true,if_false]
    exact q
theorem Zfw:∀ ds E Q,Zay ds E Q→ZcO E { nx:=fun _=>Q .non,rt:=Q } (rho Zd6 ds):=by
  rintro _ E Q ⟨x,rfl,hk,q⟩
  unfold ZcO
  walk_at "st"
  refine ⟨x,rfl,hk,?_⟩
  unfold llR gdR at q
  unfold lrR gdR
  by_cases hn:nmG 10 x=true
  · rw [if_pos hn] at q ⊢
    simp only [exQ] at q ⊢
    rw [← ZdA] at q
    unfold rowq
    walk_at "st"
    rw [List.length_map]
    exact q
  · rw [if_neg hn] at q ⊢
    exact q
theorem rd_is_only:∀ ds E Q,ZeD ds E Q→Zfn E { nx:=fun _=>Q .non,rt:=Q } (rho N_is_only ds):=by
  rintro _ E Q ⟨x,rfl,hk,q⟩
  unfold Zfn
  walk_at "st"
  refine ⟨x,rfl,hk,?_⟩
  unfold ioR gdR at q
  unfold llR gdR
  by_cases hn:nmG 10 x=true
  · rw [if_pos hn] at q ⊢
    obtain ⟨ns,rfl,hN⟩:=ZfG hn
    unfold nI at q ⊢
    rw [ZaX] at q ⊢
    simp only [exQ] at q ⊢
    obtain ⟨l1,l2,l3⟩:=Zfd ns
    have n10:=hN.n10
    walk_at "st"
    refine ⟨⟨Zcw (n:=2) (by decide) (by omega),Zcw (n:=10) (by omega) (by omega)⟩,?_⟩
    rw [show decide ((2:Int)*((lrL ns:Nat):Int)≤((ns.length:Nat):Int))=decide (2*lrL ns≤ns.length) by rw [Bool.eq_iff_iff,decide_eq_true_eq,decide_eq_true_eq];omega]
    exact q
  · rw [if_neg hn] at q ⊢
    exact q
theorem isN_take {ns:List Int} (h:IsN ns) (k:Nat) (hk:1≤k):IsN (ns.take k):=by
  have h1:=h.n1
  have h2:=h.n10
  exact ⟨by rw [List.length_take];omega,by rw [List.length_take];omega,fun x hx=>h.b x (List.mem_of_mem_take hx)⟩
theorem ln_comp {ns:List Int} {Q:List D→Prop} (hN:IsN ns) (q:Q (lnD ns)):lcW (gN 0) ZaN (wF Zay (Zab (wCut (wN 1) Zbt (ZaL (wN 0))) aNil)) (rng 1 ns.length) [.un,.d (Zag ns)] [] Q:=by
  have n10:=hN.n10
  have er:rng 1 ns.length=(List.range ns.length).map fun (i:Nat)=>D.int ((i+1:Nat):Int):=by
    unfold rng
    exact List.map_congr_left fun i _=>by congr 1;omega
  rw [er]
  refine lc_of (g:=fun (i:Nat)=>D.int ((i+1:Nat):Int)) (f:=fun k=>D.int ((lrL (ns.take (k+1)):Nat):Int)) _ (fun i hi P hP=>?_) .un [] (Zby (by simp;omega)) ?_
  · have ht:=isN_take hN (i+1) (by omega)
    unfold Zag
    walk_at "st"
    rw [cut_to rfl,← List.map_take]
    show Zay [Zag (ns.take (i+1))] No P
    refine ⟨_,rfl,Zeg ht,?_⟩
    unfold llR gdR
    rw [if_pos ht.nm]
    unfold nI
    rw [ZaX]
    exact hP
  · rw [List.nil_append]
    exact q
theorem rd_lengths_of:∀ ds E Q,ZcK ds E Q→Zdo E { nx:=fun _=>Q .non,rt:=Q } (rho Ze3 ds):=by
  rintro _ E Q ⟨x,rfl,hk,q⟩
  unfold Zdo
  walk_at "nx"
  refine u_nn5 hk ?_
  unfold loR gdR at q
  by_cases hn:nmG 10 x=true
  case neg=>
    rw [if_neg hn] at q ⊢
    exact q
  rw [if_pos hn] at q ⊢
  obtain ⟨ns,rfl,hN⟩:=ZfG hn
  have n10:=hN.n10
  unfold nI at q
  rw [ZaX] at q
  simp only [exQ] at q ⊢
  walk_at "st"
  refine ⟨by omega,?_⟩
  rw [show ((ns.length:Int)+1 - 1).toNat=ns.length by omega]
  exact ln_comp hN q
end B.C.K4.K5
namespace B.C.K4.K5
end B.C.K4.K5
open B.C.K4 B.C.K4.K5
def en (R:List (List Int)) (i k:Nat):Int:=(R.getD i []).getD k 0
def ev (R:List (List Int)) (L i:Nat) (v:Nat→Rat):Rat:=sumN (fun k=>v k*((en R i k:Int):Rat)) L
structure Eo (s:Nat→Rat) (m L a:Nat) (R:List (List Int)):Prop where
  len:R.length=m
  wid:∀ r∈R,r.length=L
  bit:∀ r∈R,∀ y∈r,y.natAbs < 2 ^ bq 6 a
  nul:∀ v:Nat→Rat,(∀ i,i < m→ev R L i v=0)→∀ i,i < m→sumN (fun k=>v k*s (i+k)) L=0
  tri:∀ i,i < a→en R i i≠0
  low:∀ i k,i < m→k < a→k < i→en R i k=0
def stpJ (R:List (List Int)) (a j:Nat):List (List Int):=(List.range R.length).map fun k=>if a < k∧k < a+1+j then tkF (R.getD k []) (R.getD a []) a else R.getD k []
theorem stp_get {R:List (List Int)} {a j i:Nat} (hi:i < R.length):(stpJ R a j).getD i []=if a < i∧i < a+1+j then tkF (R.getD i []) (R.getD a []) a else R.getD i []:=by
  unfold stpJ
  rw [List.getD_eq_getElem?_getD,List.getElem?_map,List.getElem?_range hi]
  rfl
theorem tk_get {r h:List Int} {a k:Nat} (hk:k < r.length):(tkF r h a).getD k 0=r.getD k 0*h.getD a 0 - r.getD a 0*h.getD k 0:=by
  unfold tkF
  rw [List.getD_eq_getElem?_getD,List.getElem?_map,List.getElem?_range hk]
  rfl
theorem getD_in {R:List (List Int)} {i:Nat} (h:i < R.length):R.getD i []∈R:=by
  rw [List.getD_eq_getElem?_getD,List.getElem?_eq_getElem h];exact List.getElem_mem _
theorem tk_bit {b:Nat} {w x y z:Int} (h1:w.natAbs < 2 ^ b) (h2:x.natAbs < 2 ^ b) (h3:y.natAbs < 2 ^ b) (h4:z.natAbs < 2 ^ b):(w*x - y*z).natAbs < 2 ^ (2*b+1):=les_num h1 h2 h3 h4
theorem Eo.step {s:Nat→Rat} {m L a:Nat} {R:List (List Int)} (h:Eo s m L a R) (ha:a < m) (haL:a < L) (h0:en R a a≠0):Eo s m L (a+1) (stpJ R a (m - 1 - a)):=by
  have hl:=h.len
  have hg:∀ i,i < m→(stpJ R a (m - 1 - a)).getD i []=if a < i then tkF (R.getD i []) (R.getD a []) a else R.getD i []:=fun i hi=>by
    rw [stp_get (by omega)]
    by_cases hai:a < i
    · rw [if_pos ⟨hai,by omega⟩,if_pos hai]
    · rw [if_neg (fun z=>hai z.1),if_neg hai]
  have hwl:∀ i,i < m→(R.getD i []).length=L:=fun i hi=>h.wid _ (getD_in (by omega))
  have he1:∀ i k,i < m→a < i→k < L→en (stpJ R a (m - 1 - a)) i k=en R i k*en R a a - en R i a*en R a k:=fun i k hi hai hk=>by
    unfold en
    rw [hg i hi,if_pos hai,tk_get (by rw [hwl i hi];exact hk)]
  have he0:∀ i k,i < m→¬ a < i→en (stpJ R a (m - 1 - a)) i k=en R i k:=fun i k hi hai=>by
    unfold en
    rw [hg i hi,if_neg hai]
  have hmem:∀ r∈stpJ R a (m - 1 - a),∃ i,i < m∧r=if a < i then tkF (R.getD i []) (R.getD a []) a else R.getD i []:=fun r hr=>by
    obtain ⟨i,hi,e⟩:=List.mem_iff_getElem.mp hr
    have hlen:(stpJ R a (m - 1 - a)).length=R.length:=by unfold stpJ;simp
    refine ⟨i,by omega,?_⟩
    rw [← hg i (by omega),List.getD_eq_getElem?_getD,List.getElem?_eq_getElem hi]
    exact e.symm
  have up:2 ^ bq 6 a≤2 ^ bq 6 (a+1):=Nat.pow_le_pow_right (by decide) (Zej (by omega))
  have gb:∀ i k,i < m→((R.getD i []).getD k 0).natAbs < 2 ^ bq 6 a:=fun i k hi=>by
    rw [List.getD_eq_getElem?_getD]
    cases e:(R.getD i [])[k]? with
    | none=>exact Nat.pow_pos (by decide)
    | some y=>exact h.bit _ (getD_in (by omega)) y (List.mem_of_getElem? e)
  refine ⟨by unfold stpJ;simp [hl],fun r hr=>?_,fun r hr y hy=>?_,fun v hv=>h.nul v fun i hi=>?_,fun i hi=>?_,fun i k hi hk hki=>?_⟩
  · obtain ⟨i,hi,rfl⟩:=hmem r hr
    split
    · unfold tkF;simp only [List.length_map,List.length_range];exact hwl i hi
    · exact hwl i hi
  · obtain ⟨i,hi,rfl⟩:=hmem r hr
    split at hy
    · unfold tkF at hy
      obtain ⟨k,_,rfl⟩:=List.mem_map.mp hy
      exact tk_bit (gb i k hi) (gb a a ha) (gb i a hi) (gb a k ha)
    · exact Nat.lt_of_lt_of_le (h.bit _ (getD_in (by omega)) y hy) up
  · by_cases hai:a < i
    · have hva:ev R L a v=0:=by
        rw [← hv a ha]
        unfold ev
        exact Zam fun k _=>by rw [he0 a k ha (by omega)]
      have hvi:=hv i hi
      have e:ev (stpJ R a (m - 1 - a)) L i v=((en R a a:Int):Rat)*ev R L i v - ((en R i a:Int):Rat)*ev R L a v:=by
        unfold ev
        rw [← ZbH,← ZbH,← Zff]
        refine Zam fun k hk=>?_
        rw [he1 i k hi hai hk,Rat.intCast_sub,Rat.intCast_mul,Rat.intCast_mul]
        grind
      rw [e,hva,Rat.mul_zero] at hvi
      have hp:((en R a a:Int):Rat)≠0:=fun z=>h0 (by exact_mod_cast z)
      have:((en R a a:Int):Rat)*ev R L i v=0:=by grind
      rcases Rat.mul_eq_zero.mp this with z | z
      · exact absurd z hp
      · exact z
    · rw [← hv i hi]
      unfold ev
      exact Zam fun k _=>by rw [he0 i k hi hai]
  · by_cases hia:i=a
    · rw [hia,he0 a a ha (by omega)];exact h0
    · rw [he0 i i (by omega) (by omega)];exact h.tri i (by omega)
  · by_cases hai:a < i
    · rw [he1 i k hi hai (by omega)]
      by_cases hka:k=a
      · rw [hka];grind
      · rw [h.low i k hi (by omega) hki,h.low a k ha (by omega) (by omega)];grind
    · rw [he0 i k hi hai];exact h.low i k hi (by omega) hki
end LP
namespace LP
open PySem PySem.Spec PyProof.Rows L2
local macro_rules | `(tactic| walk_at "w1")=>`(tactic| simp only [zRet,zIf,zSet,zNx,ZbQ,zPub,zOwn,zFor,ZaI,zPar,zAsg,zApp,Zb6,zInk,ZbE,zNox,ZaO,zTry,zCt,zExt,Zfq,zPar3,zAug,wSel,wM,Zb9,Zb7,wOrV,Zcr,wAnd,wOr,wNot,wT,wIf,w1,w2,wB,wF,wL,wTup,wCut,ZaA,aB,aLst,Zab,aNil,aLC,Zbz,ZaN,iS,iE,iL,iT,iR1,iR2,iZ,Zbt,ZaL,wN,wC,gN,gTp,Zap,ZaZ,gIxP,Zai,wPen,wBor,tBor,aBor,wIxO,aAdd,aMul,aCut,rho,pub,List.map_cons,List.map_nil,List.length_cons,List.length_nil,List.cons_append,List.nil_append,List.replicate,List.getElem?_cons_zero,List.getElem?_cons_succ,List.set_cons_zero,List.set_cons_succ,Nat.reduceSub,Nat.reduceAdd,List.replicate_succ,List.replicate_zero,true_and,Bool.false_eq_true,if_true,if_false,ite_true,ite_false,Int.toNat_natCast,Bool.not_true,Bool.not_false,
  Zdk,Zdj,Zdi,Zb5,Zb4,Zdh,Zb0,ZbY,ZbZ,Zb2,Zb1,Zb3,Zb,Zbc,Zba,Zbb,Zbe,Zbd,Zbf,ZbR,ZbU,ZbS,ZbT,ZbW,ZbV,ZbX,Zbi,Zbl,Zbj,Zbk,Zbn,Zbm,Zbo,Za3,Za5,Za4,Za7,Za6,Za0,Za1,Za2,Zau,Zav,Zaw,Zbr,Zbq,Zbp,Za9,Za8,e_I2,Zdm,Zdg,Zbh,Zbg,Zdl,e_i1,e_i2])
local macro_rules | `(tactic| walk_at "st")=>`(tactic| ((try dsimp only at *);(try walk_at "w1");(try dsimp only)))
local macro_rules | `(tactic| walk_at "nx")=>`(tactic| ((try dsimp only);(refine Zaj ?_);walk_at "st"))
namespace B.C.K4.K5
end B.C.K4.K5
local macro_rules | `(tactic| walk_at "w1")=>`(tactic| simp only [zRet,zIf,zSet,zNx,ZbQ,zPub,zOwn,zFor,ZaI,zPar,zAsg,zApp,Zb6,zInk,ZbE,zNox,ZaO,zTry,zCt,zExt,Zfq,zPar3,zAug,wOrT,wSel,wM,Zb9,Zb7,wOrV,Zcr,wAnd,wOr,wNot,wT,wIf,w1,w2,wB,wF,wL,wTup,wCut,ZaA,aB,aLst,Zab,aNil,aLC,Zbz,ZaN,iS,iE,iL,iT,iR1,iR2,iZ,Zbt,ZaL,wN,wC,gN,gTp,Zap,ZaZ,gIxP,Zai,wPen,wBor,tBor,aBor,wIxO,aAdd,aMul,aCut,rho,pub,List.map_cons,List.map_nil,List.length_cons,List.length_nil,List.cons_append,List.nil_append,List.replicate,List.getElem?_cons_zero,List.getElem?_cons_succ,List.set_cons_zero,List.set_cons_succ,Nat.reduceSub,Nat.reduceAdd,List.replicate_succ,List.replicate_zero,true_and,Bool.false_eq_true,if_true,if_false,ite_true,ite_false,Int.toNat_natCast,Bool.not_true,Bool.not_false,
  Zdk,Zdj,Zdi,Zb5,Zb4,Zdh,Zb0,ZbY,ZbZ,Zb2,Zb1,Zb3,Zb,Zbc,Zba,Zbb,Zbe,Zbd,Zbf,ZbR,ZbU,ZbS,ZbT,ZbW,ZbV,ZbX,Zbi,Zbl,Zbj,Zbk,Zbn,Zbm,Zbo,Za3,Za5,Za4,Za7,Za6,Za0,Za1,Za2,Zau,Zav,Zaw,Zbr,Zbq,Zbp,Za9,Za8,e_I2,Zdm,Zdg,Zbh,Zbg,Zdl,e_i1,e_i2])
namespace B.C.K4.K5
theorem dot_vl {ns:List Int} {p:Nat} {r:List Rat} (hr:r.length≤p) (hp:p < ns.length):dot r (Zan (ns.take p)).reverse=vl (sv ns) r p:=by
  rw [dot_take,← ah_rev (by omega) hr,Zc8 _ _ r.length rfl (by unfold Zan ahF;simp)]
  unfold vl
  rw [Zbs]
  refine Zam fun k hk=>?_
  congr 1
  unfold Zan ahF
  rw [List.getD_eq_getElem?_getD,List.getElem?_map,List.getElem?_map,List.getElem?_range hk]
  rfl
theorem ms_nil {ns:List Int} {r:List Rat} (g:Gn (sv ns) r ns.length):msF ns r=[]:=by
  unfold msF
  rw [List.filter_eq_nil_iff]
  intro p hp
  rw [List.mem_range'_1] at hp
  rw [dot_vl hp.1 (by omega),g p hp.1 (by omega)]
  unfold sv
  simp
theorem rsL_sz {q b:Nat}:∀ (ld:List (List Rat)) (pl:List Nat) (row:List Rat),(∀ x∈row,Sz b x)→(∀ l∈ld,Sz b (l.getD q 0))→∀ x∈rsL q ld pl row,Sz b x
  | [],pl,row,h,_,x,hx=>by
    have e:rsL q [] pl row=row:=by cases pl<;>rfl
    rw [e] at hx;exact h x hx
  | _::_,[],row,h,_,x,hx=>h x hx
  | l::ld,a::pl,row,h,h2,x,hx=>by
    refine rsL_sz ld pl (row.set a (l.getD q 0)) (fun y hy=>?_) (fun m hm=>h2 m (by simp [hm])) x hx
    rcases List.mem_or_eq_of_mem_set hy with hy | rfl
    · exact h y hy
    · exact h2 l (by simp)
theorem lr_sz {ns:List Int} (hN:IsN ns):∀ x∈lrF ns,Sz 223 x:=by
  obtain ⟨l1,l2,_⟩:=Zfd ns
  have n10:=hN.n10
  unfold rolF at l2
  split at l2
  · cases l2
  have hRl:(ZbG ns (lrL ns)).length=ns.length - lrL ns:=by unfold ZbG;simp
  have hlf:∀ r∈ZbG ns (lrL ns),Lf 6 (lrL ns+1) r:=fun r hr=>by
    obtain ⟨i,_,rfl⟩:=List.mem_map.mp hr
    exact hrow_lf hN _ _
  obtain ⟨ok,okl⟩:=cl_ok2 hlf (p:=lrL ns+1) (Nat.le_refl _)
  have hb:bq 6 (clR (ZbG ns (lrL ns)) (lrL ns+1)).ld.length≤223:=by
    have h1:=ok.ln
    have h2:=min5 n10 l1
    exact Nat.le_trans (Zej (show _≤5 by omega)) (by decide)
  have e:lrF ns=rsL (lrL ns) (clR (ZbG ns (lrL ns)) (lrL ns+1)).ld (clR (ZbG ns (lrL ns)) (lrL ns+1)).pl (List.replicate (lrL ns) 0):=by
    injection l2 with l2
    exact l2.symm
  rw [e]
  refine rsL_sz _ _ _ (fun x hx=>?_) fun l hl=>?_
  · rw [List.eq_of_mem_replicate hx]
    exact ⟨Nat.pow_pos (by decide),Nat.one_lt_two_pow (by decide)⟩
  · exact ((ok.ld l hl).get (k:=lrL ns) (by omega)).2.mono hb
theorem lr_fits {ns:List Int} (hN:IsN ns):fits (rowq (lrF ns)):=by
  have n10:=hN.n10
  refine fits_tup (b:=223) ?_ fun x hx=>?_
  · rw [List.length_map,ZdA]
    have:=(Zfd ns).1
    have:(lrL ns+1)*(223+7)≤11*230:=Nat.mul_le_mul (by omega) (by omega)
    omega
  · obtain ⟨y,hy,rfl⟩:=List.mem_map.mp hx
    exact szB_shq.mpr (lr_sz hN y hy)
end B.C.K4.K5
namespace B.C.K4.K5
theorem sv_lt {ns:List Int} (hN:IsN ns) (k:Nat):(ns.getD k 0).natAbs < 2 ^ 6:=by
  rcases Nat.lt_or_ge k ns.length with h | h
  · have:=hN.b (ns.getD k 0) (by rw [List.getD_eq_getElem?_getD,List.getElem?_eq_getElem h];exact List.getElem_mem h)
    omega
  · rw [List.getD_eq_getElem?_getD,List.getElem?_eq_none h]
    decide
theorem lr_one {ns:List Int} (hN:IsN ns):∃ D:Nat,0 < D∧D < 2 ^ 555∧∀ x∈lrF ns,Ov 555 D x:=by
  have n10:=hN.n10
  obtain ⟨l1,l2,_⟩:=Zfd ns
  by_cases h2:2*lrL ns≤ns.length
  · have hl:=ZdA ns
    obtain ⟨D,d0,dl,dz⟩:=bot (lrL ns) 6 (ns.length - lrL ns) (fun i k=>ns.getD (lrL ns+i - 1 - k) 0) (fun i=>ns.getD (lrL ns+i) 0) (fun k=>(lrF ns).getD k 0) (fun i hi k hk=>sv_lt hN _) (fun i hi=>by
      have:=lr_gn ns (lrL ns+i) (by omega) (by omega)
      unfold vl at this
      rw [Zbs,hl] at this
      rw [show ((ns.getD (lrL ns+i) 0:Int):Rat)=sv ns (lrL ns+i) from rfl,← this]
      refine Zam fun k hk=>?_
      unfold sv
      rw [Rat.mul_comm]) (fun y hy k hk=>by
      have:=only_one (lr_gn ns) (fun t ht=>by rw [hl];exact lr_min ht) (by omega) (fun k=>y (lrL ns - 1 - k)) (fun a ha=>by
        rw [hl] at ha ⊢
        rw [← hy a (by omega),← sum_rev]
        refine Zam fun k hk=>?_
        rw [show lrL ns - 1 - (lrL ns - 1 - k)=k by omega,show a+(lrL ns - 1 - k)=lrL ns+a - 1 - k by omega,Rat.mul_comm]
        rfl) (lrL ns - 1 - k) (by omega)
      rw [show lrL ns - 1 - (lrL ns - 1 - k)=k by omega] at this
      exact this)
    have hg:gb 6 (lrL ns)≤212:=by
      have:∀ L,L < 6→gb 6 L≤212:=by decide
      exact this _ (by omega)
    have dl':D.natAbs≤2 ^ 212:=Nat.le_trans dl (Nat.pow_le_pow_right (by decide) hg)
    refine ⟨D.natAbs,by omega,Nat.lt_of_le_of_lt dl' (Nat.pow_lt_pow_right (by decide) (by decide)),fun x hx=>?_⟩
    obtain ⟨k,hk,e⟩:=List.getElem_of_mem hx
    obtain ⟨z,hz⟩:=dz k (by omega)
    rw [List.getD_eq_getElem?_getD,List.getElem?_eq_getElem hk,Option.getD_some,e] at hz
    exact (ov_z (lr_sz hN x hx) d0 dl' hz).mono (by decide)
  · have l2':=l2
    unfold rolF at l2
    split at l2
    · cases l2
    have hRl:(ZbG ns (lrL ns)).length=ns.length - lrL ns:=by unfold ZbG;simp
    have hlf:∀ r∈ZbG ns (lrL ns),Lf 6 (lrL ns+1) r:=fun r hr=>by
      obtain ⟨i,_,rfl⟩:=List.mem_map.mp hr
      exact hrow_lf hN _ _
    obtain ⟨ok,okl⟩:=cl_ok2 hlf (p:=lrL ns+1) (Nat.le_refl _)
    have hln:(clR (ZbG ns (lrL ns)) (lrL ns+1)).ld.length≤4:=by
      have h1:=ok.ln
      omega
    have hb:bq 6 (clR (ZbG ns (lrL ns)) (lrL ns+1)).ld.length≤111:=Nat.le_trans (Zej hln) (by decide)
    have e:lrF ns=rsL (lrL ns) (clR (ZbG ns (lrL ns)) (lrL ns+1)).ld (clR (ZbG ns (lrL ns)) (lrL ns+1)).pl (List.replicate (lrL ns) 0):=by
      injection l2 with l2
      exact l2.symm
    have sz:∀ l∈(clR (ZbG ns (lrL ns)) (lrL ns+1)).ld,Sz 111 (l.getD (lrL ns) 0):=fun l hl=>((ok.ld l hl).get (k:=lrL ns) (by omega)).2.mono hb
    generalize (clR (ZbG ns (lrL ns)) (lrL ns+1)).ld=ld at *
    have hD:denP (lrL ns) ld≤2 ^ 444:=Nat.le_trans (denP_le fun l hl=>(sz l hl).2) (Nat.pow_le_pow_right (by decide) (by omega))
    refine ⟨denP (lrL ns) ld,denP_pos _ _,Nat.lt_of_le_of_lt hD (Nat.pow_lt_pow_right (by decide) (by decide)),fun x hx=>?_⟩
    rw [e] at hx
    rcases mem_rsL _ _ _ hx with hx | ⟨l,hl,rfl⟩
    · rw [List.eq_of_mem_replicate hx]
      exact ⟨0,Nat.pow_pos (by decide),by rw [Rat.zero_mul];rfl⟩
    · exact ov_den (sz l hl) (denP_dvd hl) (denP_pos _ _) hD
end B.C.K4.K5
namespace B.C.K4.K5.K7
def BW (p q:List Rat):Prop:=BR p q∨∃ b c D F:Nat,0 < D∧D < 2 ^ b∧0 < F∧F < 2 ^ c∧(∀ x∈p,Ov b D x)∧(∀ y∈q,Ov c F y)∧p.length≤15∧2*(b+c+4) < 8990
def Zax:Zaq:=fnS (fun x:(Bool×Bool)×List Rat×List Rat=>[seqD x.1.1 (x.2.1.map shq),seqD x.1.2 (x.2.2.map shq)]) (fun x=>BW x.2.1 x.2.2) fun x=>shq (dot x.2.1 x.2.2)
def ZaF:Zaq:=fnS (fun x:List Rat×List Rat=>[rowq x.1,rowq x.2]) (fun x=>BW x.2 x.1.reverse) fun x=>shq (dot x.2 x.1.reverse)
def ZeE:Zaq:=rlS (fun ns:List Int=>[Zag ns,rowq (lrF ns),.int 8]) (fun ns=>IsN ns) fun ns d=>∃ g:List Rat,d=rowq g∧g.length=8∧∀ j,j < 8→dot (lrF ns) (Zan ns++g.take j).reverse=g.getD j 0
def ZaD:Zaq:=fnS (fun ns:List Int=>[Zag ns]) (fun ns=>IsN ns) fun _=>.bl true
def ZaS:Zaq:=fnS (fun ns:List Int=>[Zag ns,rowq (lrF ns)]) (fun ns=>IsN ns∧lrL ns < 6) fun _=>.bl true
def Zch:Zaq:=fnS (fun ns:List Int=>[Zag ns]) (fun ns=>IsN ns) fun _=>.bl true
def S_law:Zaq:=fnS (fun ns:List Int=>[.scr (ns.map .int)]) (fun ns=>ns.length≤63) fun _=>.bl true
section
variable {E:Ex→Prop} {Q:D→Prop} {ns:List Int} {p q r:List Rat}
theorem ZcQ (h:BW p q) (z:Q (shq (dot p q))):Zax [rowq p,rowq q] E Q:=⟨((true,true),p,q),rfl,h,z⟩
theorem ZdZ (h:BW r p.reverse) (z:Q (shq (dot r p.reverse))):ZaF [rowq p,rowq r] E Q:=⟨(p,r),rfl,h,z⟩
theorem u_gone_on (hN:IsN ns) (z:∀ g:List Rat,g.length=8→(∀ j,j < 8→dot (lrF ns) (Zan ns++g.take j).reverse=g.getD j 0)→Q (rowq g)):ZeE [Zag ns,rowq (lrF ns),.int 8] E Q:=⟨ns,rfl,hN,fun d ⟨g,e,h1,h2⟩=>by rw [e];exact z g h1 h2⟩
theorem Zck (hN:IsN ns) (z:Q (.bl true)):ZaD [Zag ns] E Q:=⟨ns,rfl,hN,z⟩
theorem Zec (hN:IsN ns) (h:lrL ns < 6) (z:Q (.bl true)):ZaS [Zag ns,rowq (lrF ns)] E Q:=⟨ns,rfl,⟨hN,h⟩,z⟩
theorem ZeX (hN:IsN ns) (z:Q (.bl true)):Zch [Zag ns] E Q:=⟨ns,rfl,hN,z⟩
end
end B.C.K4.K5.K7
namespace B.C.K4.K5.K7
abbrev ZbC:List Str:=["one", "other", "total", "left", "right"]
abbrev Zer:List Str:=["one", "other"]
def ZaH:WS:=(zSeq (zSet 2 (wC (D.tup [(D.int (0)),(D.int (1))]))) (zSeq (zNox (zFor (iZ (Zab (wN 0) (Zab (wN 1) aNil))) (gTp 2 (Zap (gN 3) (Zap (gN 4) ZaZ))) (zSet 2 (wF S_plus (Zab (wN 2) (Zab (wF ZdE (Zab (wN 3) (Zab (wN 4) aNil))) aNil)))))) (zRet (wN 2))))
abbrev Zd4:List Str:=["shares", "rule"]
abbrev ZfA:List Str:=["shares", "rule"]
def ZcM:WS:=(zRet (wF Zax (Zab (wN 1) (Zab (w1 gRev (wN 0)) aNil))))
abbrev ZfN:List Str:=["numbers", "rule", "shares"]
abbrev ps_missed_by:List Str:=["numbers", "rule"]
def Zd9:WS:=(zSeq (ZbQ (wF ZaG (Zab (wN 0) (Zab (wC (.int (10))) aNil)))) (zSeq (zIf (wNot (wT (wF ZdF (Zab (wN 0) (Zab (wN 1) aNil))))) (ZaO (PySem.Str.ofString "NoRow")) zNx) (zSeq (zSet 2 (wF ZcJ (Zab (wN 0) aNil))) (zRet (wL (aLC (iR2 (Zab (wB gLen (Zab (wN 1) aNil)) (Zab (wB gLen (Zab (wN 0) aNil)) aNil))) 1 [1,2] (gN 0) (wT (w2 (gEq true) (wF ZaF (Zab (wCut (wN 2) Zbt (ZaL (wN 0))) (Zab (wN 1) aNil))) (w2 gIx (wN 2) (wN 0)))) (wN 0)))))))
abbrev ZfM:List Str:=["slants", "row"]
abbrev ps_times_row:List Str:=["slants", "row"]
def Zd8:WS:=(zSeq (zIf (wNot (wT (wF ZcY (Zab (wN 0) (Zab (wN 1) aNil))))) (ZaO (PySem.Str.ofString "NoRow")) zNx) (zRet (wB ZbM (Zab (wL (aLC (iS (wF ZcI (Zab (wN 0) aNil))) 1 [1] (gN 0) ZaN (wF Zax (Zab (wN 0) (Zab (wN 1) aNil))))) aNil))))
abbrev N_gone_on:List Str:=["numbers", "rule", "many", "shares", "step"]
abbrev ps_gone_on:List Str:=["numbers", "rule", "many"]
def Zfo:WS:=(zSeq (zIf (wNot (wT (wF Zbw (Zab (wN 0) (Zab (wN 1) aNil))))) (ZaO (PySem.Str.ofString "NoRow")) zNx) (zSeq (zIf (wNot (wT (wF ZcA (Zab (wN 2) (Zab (wC (D.int (0))) (Zab (wC (.int (8))) aNil)))))) (ZaO (PySem.Str.ofString "NoNumber")) zNx) (zSeq (zSet 3 (wF ZcJ (Zab (wN 0) aNil))) (zSeq (zNox (zFor (iR1 (Zab (wN 2) aNil)) (gN 4) (zSet 3 (w2 gAdd (wN 3) (wTup (Zab (wF ZaF (Zab (wN 3) (Zab (wN 1) aNil))) aNil)))))) (zRet (wCut (wN 3) (ZaL (wB gLen (Zab (wN 0) aNil))) Zbt))))))
abbrev Zcl:List Str:=["_law_numbers", "_law_found", "_law_place"]
abbrev Zdx:List Str:=["_law_numbers"]
def ZbD:WS:=(zSeq (zSet 1 (w2 gAdd (wL (aLst (Zab (wC (D.int (0))) aNil))) (wF ZcK (Zab (wN 0) aNil)))) (zSeq (zNox (zFor (iR2 (Zab (wC (D.int (1))) (Zab (wB gLen (Zab (wN 1) aNil)) aNil))) (gN 2) (zSeq (zIf (wT (w2 gLtI (w2 gIx (wN 1) (wN 2)) (w2 gIx (wN 1) (w2 ZdB (wN 2) (wC (D.int (1))))))) (zRet (wC (D.bl false))) zNx) (zSeq (zIf (wAnd (wT (w2 gGtI (w2 gIx (wN 1) (wN 2)) (w2 gIx (wN 1) (w2 ZdB (wN 2) (wC (D.int (1))))))) (wT (w2 (gEq true) (w2 gAdd (w2 gIx (wN 1) (wN 2)) (w2 gIx (wN 1) (w2 ZdB (wN 2) (wC (D.int (1)))))) (wN 2)))) (zRet (wC (D.bl false))) zNx) (zIf (wT (w2 (gEq true) (w2 gIx (wN 1) (wN 2)) (wF Zay (Zab (wCut (wN 0) Zbt (ZaL (wN 2))) aNil)))) (zRet (wC (D.bl false))) zNx))))) (zRet (w2 (gEq false) (wB gLen (Zab (wN 1) aNil)) (w2 gAdd (wB gLen (Zab (wN 0) aNil)) (wC (D.int (1))))))))
abbrev ZcC:List Str:=["_law_numbers", "_law_rule", "_law_size", "_law_start", "_law_some", "_law_came"]
abbrev ZdV:List Str:=["_law_numbers", "_law_rule"]
def ZbJ:WS:=(zSeq (zSet 2 (wB gLen (Zab (wN 1) aNil))) (zSeq (zNox (zFor (iR1 (Zab (w2 gAdd (w2 ZdB (wB gLen (Zab (wN 0) aNil)) (w2 gMul (wC (D.int (2))) (wN 2))) (wC (D.int (1)))) aNil)) (gN 3) (zSeq (zSet 4 (wCut (wN 0) (ZaL (wN 3)) (ZaL (w2 gAdd (wN 3) (w2 gMul (wC (D.int (2))) (wN 2)))))) (zIf (wT (w2 gGtI (wN 2) (wC (D.int (0))))) (zSeq (zIf (wNot (wT (wF ZbA (Zab (wCut (wN 4) Zbt (ZaL (w1 gNeg (wC (D.int (1)))))) aNil)))) (zRet (wC (D.bl false))) zNx) (zSeq (zSet 5 (wF Zcx (Zab (wCut (wN 4) Zbt (ZaL (w1 gNeg (wC (D.int (1)))))) (Zab (w1 gRev (wN 1)) aNil)))) (zIf (wT (w2 (gEq true) (wN 5) (wB ZbM (Zab (wL (aLC (iS (w1 gRev (wCut (wN 4) (ZaL (wN 2)) Zbt))) 1 [] (gN 0) ZaN (wTup (Zab (wN 0) (Zab (wC (D.int (1))) aNil))))) aNil)))) (zRet (wC (D.bl false))) zNx))) zNx)))) (zRet (wC (D.bl true)))))
abbrev Ze7:List Str:=["_law_numbers", "_law_rule", "_law_size", "_law_more", "_law_longer", "_law_one"]
abbrev ps__law_right:List Str:=["_law_numbers"]
def Zdr:WS:=(zSeq (zSet 1 (wF Zcf (Zab (wN 0) aNil))) (zSeq (zSet 2 (wF Zay (Zab (wN 0) aNil))) (zSeq (zIf (wOr (wT (w2 (gEq true) (wB gLen (Zab (wN 1) aNil)) (wN 2))) (wOr (wNot (wT (wF Zbw (Zab (wN 0) (Zab (wN 1) aNil))))) (wT (w2 (gEq true) (wF Zcz (Zab (wN 0) (Zab (wN 1) aNil))) (wL (aLst aNil)))))) (zRet (wC (D.bl false))) zNx) (zSeq (zIf (wOr (wT (w2 (gEq true) (wF ZeD (Zab (wN 0) aNil)) (w2 gLeI (w2 gMul (wC (D.int (2))) (wN 2)) (wB gLen (Zab (wN 0) aNil))))) (wT (w2 (gEq true) (w2 (gEq false) (wN 2) (wC (D.int (0)))) (w2 (gEq false) (wN 0) (w2 Zb9 (wTup (Zab (wC (D.int (0))) aNil)) (wB gLen (Zab (wN 0) aNil))))))) (zRet (wC (D.bl false))) zNx) (zSeq (zIf (wAnd (wT (w2 gLtI (wN 2) (wC (D.int (6))))) (wNot (wT (wF ZaS (Zab (wN 0) (Zab (wN 1) aNil)))))) (zRet (wC (D.bl false))) zNx) (zSeq (zSet 3 (wF ZeE (Zab (wN 0) (Zab (wN 1) (Zab (wC (D.int (8))) aNil))))) (zSeq (zOwn 4 (aB (gSeq (α:=Unit)) (Zab (wN 0) aNil))) (zSeq (zNox (zFor (iS (wN 3)) (gN 5) (zIf (tBor 4 (wAnd (wT (w2 (gEq false) (w2 gIx (wN 5) (wC (D.int (1)))) (wC (D.int (1))))) (wAnd (wT (ZaA gLeI gLeI (w1 gNeg (wC (D.int (50)))) (w2 gIx (wN 5) (wC (D.int (0)))) (wC (D.int (50))))) (wT (w2 gLtI (wB gLen (Zab (wN 4) aNil)) (wC (D.int (10)))))))) (zApp 4 (w2 gIx (wN 5) (wC (D.int (0))))) (zPub 4 (zRet (wF Zbw (Zab (wB ZbM (Zab (wN 4) aNil)) (Zab (wN 1) aNil)))))))) (zPub 4 (zRet (wF Zbw (Zab (wB ZbM (Zab (wN 4) aNil)) (Zab (wN 1) aNil)))))))))))))
abbrev N_law:List Str:=["_law_script", "_law_numbers", "_law_cell"]
def z_law:WS:=(zSeq (zNox (zFor (iS (wL (aLst (Zab (wTup (Zab (wC (D.int (0))) aNil)) (Zab (wTup (Zab (wC (D.int (1))) aNil)) (Zab (wTup (Zab (wC (D.int (1))) (Zab (wC (D.int (1))) (Zab (wC (D.int (2))) (Zab (wC (D.int (3))) (Zab (wC (D.int (5))) (Zab (wC (D.int (8))) aNil))))))) (Zab (wTup (Zab (wC (D.int (0))) (Zab (wC (D.int (0))) (Zab (wC (D.int (0))) (Zab (wC (D.int (5))) aNil))))) (Zab (w2 Zb9 (wTup (Zab (wC (D.int (1))) (Zab (w1 gNeg (wC (D.int (1)))) aNil))) (wC (D.int (5)))) aNil)))))))) (gN 1) (zIf (wOr (wNot (wT (wF Zch (Zab (wN 1) aNil)))) (wNot (wT (wF ZaD (Zab (wN 1) aNil))))) (zRet (wC (D.bl false))) zNx))) (zSeq (zNox (zFor (iS (w2 gAdd (wL (aLst (Zab (wF Zcc (Zab (wN 0) (Zab (wC (D.int (0))) aNil))) aNil))) (wCut (wN 0) (ZaL (wC (D.int (1)))) (ZaL (wC (D.int (8))))))) (gN 2) (zSeq (zSet 1 (wF ZbB (Zab (wF Zco (Zab (wN 2) aNil)) aNil))) (zIf (wOr (wNot (wT (wF Zch (Zab (wN 1) aNil)))) (wNot (wT (wF ZaD (Zab (wN 1) aNil))))) (zRet (wC (D.bl false))) zNx)))) (zRet (wC (D.bl true)))))
end B.C.K4.K5.K7
local macro_rules | `(tactic| walk_at "wp")=>`(tactic| simp only [zRet,zSeq,zIf,zSet,zNx,ZbQ,zPub,zOwn,zFor,ZaI,zPar,zAsg,zApp,Zb6,zInk,ZbE,zNox,ZaO,Zb7,wOrV,Zcr,wAnd,wOr,wNot,wT,wIf,w1,w2,wB,wF,wL,wTup,wCut,ZaA,aB,aLst,Zab,aNil,aLC,Zbz,ZaN,iS,iL,iT,iR1,iR2,iZ,i1,i2,isS,isL,isT,isB,isI,Zbt,ZaL,wN,wC,gN,gTp,Zap,ZaZ,gI2,gAdd,gMul,gIx,gIxP,gCut,gRev,gLen,gSeq,ZbM,gAbs,gMax,gInt,Zai,wPen,wBor,tBor,aBor,wIxO,aAdd,aMul,aCut,rho,pub,List.map_cons,List.map_nil,List.length_cons,List.length_nil,List.cons_append,List.nil_append,List.replicate,List.getElem?_cons_zero,List.getElem?_cons_succ,List.set_cons_zero,List.set_cons_succ,Nat.reduceSub,Nat.reduceAdd,List.replicate_succ,List.replicate_zero,true_and,Bool.false_eq_true,if_true,if_false,ite_true,ite_false])
local macro_rules | `(tactic| walk_at "go")=>`(tactic| ((try dsimp only at *);(try walk_at "wp");(try dsimp only)))
namespace B.C.K4.K5.K7
theorem br_of {b p:Nat} {ns:List Int} {r:List Rat} (h:IsN ns) (hf:ft b r):BW r (Zan (ns.take p)).reverse:=.inl (B.C.K4.br_of h hf)
theorem Zfu:∀ ds E Q,ZaF ds E Q→ZcM E { nx:=fun _=>Q .non,rt:=Q } (rho Zd4 ds):=by
  rintro _ E Q ⟨⟨p,r⟩,rfl,h,q⟩
  dsimp only at h q
  unfold ZcM
  walk_at "st"
  exact ZcQ h q
theorem ms_comp {b:Nat} {ns:List Int} {r:List Rat} {Q:List D→Prop} (h:IsN ns) (hr:r.length≤ns.length) (hf:ft b r) (q:Q (msD ns r)):lcW (gN 0) (wT (w2 (gEq true) (wF ZaF (Zab (wCut (wN 2) Zbt (ZaL (wN 0))) (Zab (wN 1) aNil))) (w2 gIx (wN 2) (wN 0)))) (wN 0) (rng (r.length:Int) (ns.length - r.length)) [.un,.d (rowq r),.d (rowq (Zan ns))] [] Q:=by
  rw [rng_r]
  have n10:=h.n10
  refine lc_flt (g:=fun (k:Nat)=>D.int (k:Int)) (p:=fun p=>!(dot r (Zan (ns.take p)).reverse == ((ns.getD p 0:Int):Rat))) _ (fun p hp P hP=>?_) .un [] (Zby (by simp;omega)) q
  rw [List.mem_range'_1] at hp
  walk_at "st"
  unfold rowq
  walk_at "st"
  have ec:cutD ((Zan ns).map shq) none (some (p:Int))=(Zan (ns.take p)).map shq:=by
    rw [cut_to rfl,← List.map_take]
    unfold Zan
    rw [← List.map_take]
  rw [ec]
  show ZaF [rowq (Zan (ns.take p)),rowq r] _ _
  refine ZdZ (br_of h hf) ?_
  have ha:atI ((Zan ns).map shq) (p:Int)=some (shq ((ns.getD p 0:Int):Rat)):=by
    refine atI_nat ?_
    unfold Zan
    rw [List.getElem?_map,List.getElem?_map,List.getElem?_eq_getElem (by omega),List.getD_eq_getElem?_getD,List.getElem?_eq_getElem (by omega)]
    rfl
  refine ⟨_,ha,gEq_ok (okD_shq _ _) (okD_shq _ _) ?_⟩
  rw [if_pos rfl,deq_shq]
  have e:decide (dot r (Zan (ns.take p)).reverse=((ns.getD p 0:Int):Rat))=(dot r (Zan (ns.take p)).reverse == ((ns.getD p 0:Int):Rat)):=by
    rw [Bool.eq_iff_iff];simp
  rw [e]
  exact hP
theorem rd_missed_by:∀ ds E Q,Zcz ds E Q→Zd9 E { nx:=fun _=>Q .non,rt:=Q } (rho ZfN ds):=by
  rintro _ E Q ⟨⟨x,y⟩,rfl,⟨h1,h2,h3⟩,q⟩
  dsimp only at h1 h2 h3 q
  unfold Zd9
  walk_at "nx"
  refine u_nn h1 ?_
  unfold mbR at q
  by_cases hn:nmG 10 x=true
  case neg=>
    rw [if_neg (fun z=>hn z.1)] at q
    rw [if_neg hn]
    exact q
  rw [if_pos hn]
  obtain ⟨ns,rfl,hN⟩:=ZfG hn
  unfold nI at q
  rw [ZaX] at q
  simp only [exQ]
  walk_at "nx"
  refine u_is_rule hN h2 ?_
  by_cases hy:ZcH 0 (ns.length:Int) y=true
  case neg=>
    rw [if_neg (fun z=>hy z.2)] at q
    rw [Bool.eq_false_iff.mpr hy]
    exact q
  rw [if_pos ⟨hn,hy⟩] at q
  rw [hy]
  simp only [isB,Bool.not_true,Bool.false_eq_true,if_false]
  obtain ⟨r,rfl,hr⟩:=row0_inv hy
  rw [Zed] at q
  obtain ⟨b,hf⟩:=h3 r rfl
  have n10:=hN.n10
  walk_at "nx"
  refine Zfr (by omega) ?_
  walk_at "st"
  refine ⟨by omega,?_⟩
  rw [show ((ns.length:Int) - (r.length:Int)).toNat=ns.length - r.length by omega]
  exact ms_comp hN hr hf q
theorem rd_times_row:∀ ds E Q,Zcx ds E Q→Zd8 E { nx:=fun _=>Q .non,rt:=Q } (rho ZfM ds):=by
  rintro _ E Q ⟨⟨x,y⟩,rfl,⟨hk,hk2,hbs⟩,q⟩
  dsimp only at hk hk2 hbs q
  unfold Zd8
  walk_at "go"
  cases e:slG x with
  | false=>exact x_row_good hk hk2 e (okS_bad e q)
  | true=>
  obtain ⟨s,n,rfl,h⟩:=slG_inv e
  have h5:=h.n5
  refine u_row_good h hk2 ?_
  replace q:=okS_good h q
  rw [h.sN,ZaX] at q
  walk_at "go"
  cases er:Zey n y with
  | false=>rw [er] at q;exact q
  | true=>
  rw [er] at q
  obtain ⟨r,rfl,hl'⟩:=isRow_inv er
  have hl:r.length=n:=by omega
  have q:Q (rowq (tims s n (rQ (rowq r)))):=q
  rw [Zed] at q
  obtain ⟨m,hm,hb⟩:=hbs r rfl
  simp only [Bool.not_true,Bool.false_eq_true,if_false]
  refine u_share_rows h ?_
  walk_at "go"
  have key:∀ line∈tbl s n,BR (Zan line) r:=fun line hline=>by
    obtain ⟨h1,h2⟩:=tbl_row h line hline
    refine ⟨6,m,fun x hx=>?_,hm,?_⟩
    · obtain ⟨i,hi,rfl⟩:=List.mem_map.mp hx
      exact LP.cast_sz (h2 i hi)
    · have:(Zan line).length=n:=by unfold Zan;rw [List.length_map];exact h1
      rw [this]
      have:n*(6+m+1)≤5*(6+m+1):=Nat.mul_le_mul_right _ h5
      omega
  refine lc_of (g:=fun line=>rowq (Zan line)) (f:=fun line=>shq (dot (Zan line) r)) (tbl s n) (fun line hl' Q hq=>?_) .un [] (by simp [tbl_len,small];omega) ?_
  · walk_at "go"
    exact ZcQ (.inl (key line hl')) hq
  · have e:(tbl s n).map (fun line=>shq (dot (Zan line) r))=(tims s n r).map shq:=by
      unfold tims
      rw [List.map_map];rfl
    rw [List.nil_append,e]
    exact q
theorem ov_dvd {b D:Nat} {x:Rat} (h:Ov b D x):∃ z:Int,z.natAbs < 2 ^ b∧x.num*(D:Int)=z*(x.den:Int)∧x.den ∣ D:=by
  obtain ⟨z,h1,h2⟩:=h
  have e:x.num*(D:Int)=z*(x.den:Int):=by
    have:((x.num*(D:Int):Int):Rat)=((z*(x.den:Int):Int):Rat):=by
      rw [Rat.intCast_mul,Rat.intCast_mul,← h2,← num_den x]
      show x*(x.den:Rat)*(D:Rat)=x*(D:Rat)*(x.den:Rat)
      grind
    exact_mod_cast this
  refine ⟨z,h1,e,?_⟩
  have e2:=congrArg Int.natAbs e
  rw [Int.natAbs_mul,Int.natAbs_mul,Int.natAbs_natCast,Int.natAbs_natCast] at e2
  exact (Nat.Coprime.symm x.reduced).dvd_of_dvd_mul_left (e2 ▸ Nat.dvd_mul_left _ _)
theorem ov_sz {b D:Nat} {x:Rat} (h:Ov b D x) (d0:0 < D) (hD:D < 2 ^ b):Sz b x:=by
  obtain ⟨z,h1,h2,h3⟩:=ov_dvd h
  refine ⟨?_,Nat.lt_of_le_of_lt (Nat.le_of_dvd d0 h3) hD⟩
  have e2:=congrArg Int.natAbs h2
  rw [Int.natAbs_mul,Int.natAbs_mul,Int.natAbs_natCast,Int.natAbs_natCast] at e2
  obtain ⟨e,rfl⟩:=h3
  have hd:=x.den_pos
  have e0:0 < e:=Nat.pos_of_ne_zero fun z=>by subst z;simp at d0
  have:x.num.natAbs*e=z.natAbs:=by
    refine Nat.eq_of_mul_eq_mul_right hd ?_
    rw [← e2,Nat.mul_assoc,Nat.mul_comm e]
  have:=Nat.le_mul_of_pos_right x.num.natAbs e0
  omega
theorem rd_sum_of_products:∀ ds E Q,Zax ds E Q→ZaH E { nx:=fun _=>Q .non,rt:=Q } (rho ZbC ds):=by
  rintro _ E Q ⟨⟨⟨b1,b2⟩,p,q⟩,rfl,hbw,h⟩
  rcases hbw with hbw | hbw
  · exact LP.rd_sum_of_products _ E Q ⟨⟨⟨b1,b2⟩,p,q⟩,rfl,hbw,h⟩
  obtain ⟨b,c,G,F,g0,gl,f0,fl,hp,hq,hpl,hb⟩:=hbw
  dsimp only at hp hq hpl hb h
  unfold ZaH
  simp only [zSeq,zSet,wC,rho,List.map_cons,List.map_nil,List.length_cons,List.length_nil,List.cons_append,List.nil_append,List.replicate,List.set_cons_succ,List.set_cons_zero,zNox,zFor,iZ,Zab,aNil,wN,List.getElem?_cons_zero,List.getElem?_cons_succ,Nat.reduceSub,Nat.reduceAdd]
  have gf0:0 < G*F:=Nat.mul_pos g0 f0
  have gfl:G*F < 2 ^ (b+c):=by rw [Nat.pow_add];exact Nat.mul_lt_mul'' gl fl
  have gfl':G*F < 2 ^ (b+c+4):=Nat.lt_of_lt_of_le gfl (Nat.pow_le_pow_right (by decide) (by omega))
  have hprod:∀ x∈p,∀ y∈q,∃ t:Int,t.natAbs < 2 ^ (b+c)∧x*y*((G*F:Nat):Rat)=(t:Rat):=fun x hx y hy=>by
    obtain ⟨z,z1,z2⟩:=hp x hx
    obtain ⟨w,w1,w2⟩:=hq y hy
    refine ⟨z*w,by rw [Int.natAbs_mul,Nat.pow_add];exact Nat.mul_lt_mul'' z1 w1,?_⟩
    rw [Rat.intCast_mul,← z2,← w2,Rat.natCast_mul]
    grind
  have hs:∀ (s:Rat) (j:Nat) (t:Int),j≤15→t.natAbs≤j*2 ^ (b+c)→s*((G*F:Nat):Rat)=(t:Rat)→Sz (b+c+4) s:=fun s j t hj ht hs=>by
    refine ov_sz (D:=G*F) ⟨t,?_,hs⟩ gf0 gfl'
    have p0:0 < 2 ^ (b+c):=Nat.pow_pos (by decide)
    have:j*2 ^ (b+c)≤15*2 ^ (b+c):=Nat.mul_le_mul_right _ hj
    rw [Nat.pow_add]
    omega
  have key:∀ (p' q':List Rat) (s:Rat) (sv sv':SV) (j:Nat) (t:Int),(∀ x∈p',x∈p)→(∀ x∈q',x∈q)→t.natAbs≤j*2 ^ (b+c)→s*((G*F:Nat):Rat)=(t:Rat)→j+p'.length≤p.length→s+dot p' q'=dot p q→
      ZaW (gTp 2 (Zap (gN 3) (Zap (gN 4) ZaZ))) (zSet 2 (wF S_plus (Zab (wN 2) (Zab (wF ZdE (Zab (wN 3) (Zab (wN 4) aNil))) aNil)))) No { nx:=zRet (wN 2) E { nx:=fun _=>Q .non,rt:=Q },rt:=Q,bk:=fun _=>False,ct:=fun _=>False }
        (zips (p'.map shq) (q'.map shq)) [.d (seqD b1 (p.map shq)),.d (seqD b2 (q.map shq)),.d (shq s),sv,sv']:=by
    intro p'
    induction p' with
    | nil=>
      intro q' s sv sv' j t _ _ _ _ _ he
      rw [dot,Rat.add_zero] at he
      simp only [zips,List.map_nil,List.zipWith_nil_left,ZaW]
      show Q (shq s)
      rw [he];exact h
    | cons x p' ih=>
      intro q' s sv sv' j t h1 h2 h3 h5 h4 he
      cases q' with
      | nil=>
        rw [dot,Rat.add_zero] at he
        simp only [zips,List.map_nil,List.zipWith_nil_right,ZaW]
        show Q (shq s)
        rw [he];exact h
      | cons y q'=>
        have hx:=h1 x (by simp)
        have hy:=h2 y (by simp)
        rw [List.length_cons] at h4
        obtain ⟨t2,ht2,e2⟩:=hprod x hx y hy
        simp only [zips,List.map_cons,List.zipWith_cons_cons,ZaW]
        refine ⟨rfl,?_⟩
        simp only [Zap,ZaZ,gN,zSet,wF,Zab,aNil,wN,List.getElem?_cons_zero,List.getElem?_cons_succ,List.set_cons_succ,List.set_cons_zero]
        refine ⟨(x,y),rfl,B2.of (ov_sz (hp x hx) g0 gl) (ov_sz (hq y hy) f0 fl) (by omega),?_⟩
        refine ⟨(s,x*y),rfl,B2.of (hs s j t (by omega) h3 h5) (hs (x*y) 1 t2 (by decide) (by omega) e2) (by omega),?_⟩
        refine ih q' (s+x*y) _ _ (j+1) (t+t2) (fun z hz=>h1 z (by simp [hz])) (fun z hz=>h2 z (by simp [hz])) ?_ ?_ (by omega) ?_
        · have:=Int.natAbs_add_le t t2
          rw [Nat.succ_mul]
          omega
        · rw [Rat.intCast_add,← h5,← e2]
          grind
        · rw [dot] at he
          rw [Rat.add_assoc];exact he
  have e0:D.tup [D.int 0,D.int 1]=shq 0:=rfl
  rw [e0]
  have k:=key p q 0 .un .un 0 0 (fun _ h=>h) (fun _ h=>h) (by simp) (by rw [Rat.zero_mul];rfl) (by omega) (Rat.zero_add _)
  cases b1<;>cases b2<;>exact k
end B.C.K4.K5.K7
namespace B.C.K4.K5.K7
theorem kd_lr {ns:List Int} (hN:IsN ns):kd (rowq (lrF ns))=true:=kd_rowq (by rw [ZdA];have:=(Zfd ns).1;have:=hN.n10;omega)
theorem lr_le (ns:List Int):(lrF ns).length≤ns.length:=by rw [ZdA];exact (Zfd ns).1
section
variable {E:Ex→Prop} {Q:D→Prop} {ns ms:List Int}
theorem u_fol (hM:IsN ms) (hN:IsN ns) (hl:ns.length≤ms.length) (g:msF ms (lrF ns)=[]) (z:Q (.bl true)):Zbw [Zag ms,rowq (lrF ns)] E Q:=xS.ok (Zag ms,rowq (lrF ns)) rfl ⟨Zeg hM,kd_lr hN,lr_fits hN⟩ (by
  have:=lr_le ns
  unfold foR nI
  rw [if_pos hM.nm,ZaX,row0_of (by omega),Zed,g]
  rfl) z
theorem u_mis (hN:IsN ns) (z:Q (.lst [])):Zcz [Zag ns,rowq (lrF ns)] E Q:=xS.ok (Zag ns,rowq (lrF ns)) rfl ⟨Zeg hN,kd_lr hN,lr_fits hN⟩ (v:=.lst []) (by
  have:=lr_le ns
  unfold mbR nI
  rw [ZaX,if_pos ⟨hN.nm,row0_of (by omega)⟩,Zed]
  unfold msD
  rw [ms_nil (lr_gn ns)]
  rfl) z
theorem u_lr (hN:IsN ns) (z:Q (rowq (lrF ns))):Zcf [Zag ns] E Q:=xS.ok (Zag ns) rfl (Zeg hN) (by unfold lrR gdR nI;rw [if_pos hN.nm,ZaX]) z
theorem u_ll (hN:IsN ns) (z:Q (.int ((lrL ns:Nat):Int))):Zay [Zag ns] E Q:=xS.ok (Zag ns) rfl (Zeg hN) (by unfold llR gdR nI;rw [if_pos hN.nm,ZaX]) z
theorem u_io (hN:IsN ns) (z:Q (.bl (decide (2*lrL ns≤ns.length)))):ZeD [Zag ns] E Q:=xS.ok (Zag ns) rfl (Zeg hN) (by unfold ioR gdR nI;rw [if_pos hN.nm,ZaX]) z
theorem u_lo (hN:IsN ns) (z:Q (.lst (lnD ns))):ZcK [Zag ns] E Q:=xS.ok (Zag ns) rfl (Zeg hN) (by unfold loR gdR nI;rw [if_pos hN.nm,ZaX]) z
end
structure Go (ns:List Int) (G j:Nat) (g:List Rat):Prop where
  len:g.length=j
  dt:∀ i,i < j→dot (lrF ns) (Zan ns++g.take i).reverse=g.getD i 0
  ov:∀ x∈Zan ns++g,Ov (559*j+6) (G ^ j) x
theorem ov_more {b c G F:Nat} {x:Rat} (h:Ov b F x) (hG:G < 2 ^ c):Ov (b+c) (F*G) x:=by
  obtain ⟨z,h1,h2⟩:=h
  refine ⟨z*(G:Int),?_,?_⟩
  · rw [Int.natAbs_mul,Int.natAbs_natCast,Nat.pow_add]
    exact Nat.mul_lt_mul'' h1 hG
  · rw [Rat.natCast_mul,← Rat.mul_assoc,h2,Rat.intCast_mul]
    rfl
theorem dot_ov {b c G F:Nat}:∀ {p q:List Rat},(∀ x∈p,Ov b G x)→(∀ y∈q,Ov c F y)→∃ t:Int,t.natAbs≤p.length*2 ^ (b+c)∧dot p q*((G*F:Nat):Rat)=(t:Rat)
  | [],q,_,_=>⟨0,by simp,by rw [dot,Rat.zero_mul];rfl⟩
  | x::p,[],_,_=>⟨0,by simp,by rw [dot,Rat.zero_mul];rfl⟩
  | x::p,y::q,hp,hq=>by
    obtain ⟨t,t1,t2⟩:=dot_ov (p:=p) (q:=q) (fun z hz=>hp z (by simp [hz])) (fun z hz=>hq z (by simp [hz]))
    obtain ⟨z,z1,z2⟩:=hp x (by simp)
    obtain ⟨w,w1,w2⟩:=hq y (by simp)
    refine ⟨z*w+t,?_,?_⟩
    · have h1:=Int.natAbs_add_le (z*w) t
      have h2:(z*w).natAbs≤2 ^ (b+c):=by
        rw [Int.natAbs_mul,Nat.pow_add]
        exact Nat.le_of_lt (Nat.mul_lt_mul'' z1 w1)
      rw [List.length_cons,Nat.succ_mul]
      omega
    · rw [dot,Rat.intCast_add,Rat.intCast_mul,← t2,← z2,← w2,Rat.natCast_mul]
      grind
theorem pow_lt' {G j:Nat} (hG:G < 2 ^ 555):G ^ j < 2 ^ (559*j+6):=by
  have:G ^ j≤(2 ^ 555) ^ j:=Nat.pow_le_pow_left (Nat.le_of_lt hG) j
  rw [← Nat.pow_mul] at this
  exact Nat.lt_of_le_of_lt this (Nat.pow_lt_pow_right (by decide) (by omega))
theorem Go.bw {ns:List Int} {G j:Nat} {g:List Rat} (hN:IsN ns) (h:Go ns G j g) (g0:0 < G) (gl:G < 2 ^ 555) (gx:∀ x∈lrF ns,Ov 555 G x) (hj:j < 8):BW (lrF ns) (Zan ns++g).reverse:=by
  refine .inr ⟨555,559*j+6,G,G ^ j,g0,gl,Nat.pow_pos g0,pow_lt' gl,gx,fun y hy=>h.ov y (List.mem_reverse.mp hy),?_,by omega⟩
  have:=lr_le ns
  have:=hN.n10
  omega
theorem Go.next {ns:List Int} {G j:Nat} {g:List Rat} (hN:IsN ns) (h:Go ns G j g) (gl:G < 2 ^ 555) (gx:∀ x∈lrF ns,Ov 555 G x):Go ns G (j+1) (g++[dot (lrF ns) (Zan ns++g).reverse]):=by
  refine ⟨by rw [List.length_append,h.len];rfl,fun i hi=>?_,fun x hx=>?_⟩
  · by_cases e:i=j
    · subst e
      have hl:=h.len
      rw [List.take_append_of_le_length (by omega),List.take_of_length_le (by omega),List.getD_eq_getElem?_getD,List.getElem?_append_right (by omega),hl,Nat.sub_self]
      rfl
    · have hl:=h.len
      rw [List.take_append_of_le_length (by omega),h.dt i (by omega),List.getD_eq_getElem?_getD,List.getD_eq_getElem?_getD,List.getElem?_append_left (by omega)]
  · rw [← List.append_assoc] at hx
    rcases List.mem_append.mp hx with hx | hx
    · have:=ov_more (h.ov x hx) gl
      rw [Nat.pow_succ]
      exact Ov.mono this (by omega)
    · rw [List.mem_singleton.mp hx]
      obtain ⟨t,t1,t2⟩:=dot_ov gx (fun y hy=>h.ov y (List.mem_reverse.mp hy))
      refine ⟨t,?_,by rw [Nat.pow_succ,Nat.mul_comm];exact t2⟩
      have l1:=lr_le ns
      have l2:=hN.n10
      have l3:(lrF ns).length*2 ^ (555+(559*j+6))≤10*2 ^ (555+(559*j+6)):=Nat.mul_le_mul_right _ (by omega)
      have p0:0 < 2 ^ (555+(559*j+6)):=Nat.pow_pos (by decide)
      rw [show 559*(j+1)+6=555+(559*j+6)+4 by omega,Nat.pow_add _ _ 4]
      omega
theorem Go.start {ns:List Int} {G:Nat} (hN:IsN ns):Go ns G 0 []:=⟨rfl,fun i hi=>by omega,fun x hx=>by
  rw [List.append_nil] at hx
  obtain ⟨i,hi,rfl⟩:=List.mem_map.mp hx
  refine ⟨i,by have:=hN.b i hi;show i.natAbs < 64;omega,?_⟩
  rw [Nat.pow_zero]
  exact Rat.mul_one _⟩
theorem rd_gone_on:∀ ds E Q,ZeE ds E Q→Zfo E { nx:=fun _=>Q .non,rt:=Q } (rho N_gone_on ds):=by
  rintro _ E Q ⟨ns,rfl,hN,q⟩
  replace q:∀ g:List Rat,g.length=8→(∀ j,j < 8→dot (lrF ns) (Zan ns++g.take j).reverse=g.getD j 0)→Q (rowq g):=fun g h1 h2=>q _ ⟨g,rfl,h1,h2⟩
  have n10:=hN.n10
  obtain ⟨G,g0,gl,gx⟩:=lr_one hN
  unfold Zfo
  refine Zaj (Zce (b:=false) (fun P hP=>?_) (fun e=>nomatch e) fun _=>?_)
  · walk_at "st"
    exact u_fol hN hN (Nat.le_refl _) (ms_nil (lr_gn ns)) hP
  try dsimp only
  refine Zaj (Zce (b:=false) (fun P hP=>?_) (fun e=>nomatch e) fun _=>?_)
  · walk_at "st"
    exact u_is_within rfl hP
  try dsimp only
  walk_at "nx"
  refine Zfr (by omega) ?_
  refine Zaj ?_
  walk_at "st"
  refine ⟨by decide,by decide,?_⟩
  have key:∀ (xs:List D) (g:List Rat) (j:Nat) (s4:SV),xs.length+j=8→Go ns G j g→ZaW (gN 4) (zSet 3 (w2 gAdd (wN 3) (wTup (Zab (wF ZaF (Zab (wN 3) (Zab (wN 1) aNil))) aNil)))) No { nx:=zRet (wCut (wN 3) (ZaL (wB gLen (Zab (wN 0) aNil))) Zbt) E { nx:=fun _=>Q .non,rt:=Q },rt:=Q,bk:=fun _=>False,ct:=fun _=>False } xs [.d (Zag ns),.d (rowq (lrF ns)),.d (.int 8),.d (rowq (Zan ns++g)),s4]:=by
    intro xs
    induction xs with
    | nil=>
      intro g j s4 hj h
      have hl:=h.len
      simp only [List.length_nil] at hj
      unfold ZaW
      unfold Zag rowq
      walk_at "st"
      rw [List.length_map,cut_from (by unfold Zan;simp),List.map_append,List.drop_left' (by unfold Zan;simp)]
      exact q g (by omega) fun i hi=>h.dt i (by omega)
    | cons x xs ih=>
      intro g j s4 hj h
      rw [List.length_cons] at hj
      have hl:=h.len
      unfold ZaW
      walk_at "st"
      refine ZdZ (h.bw hN g0 gl gx (by omega)) ⟨by decide,?_⟩
      refine add_tup (Zby (by unfold Zan;simp;omega)) ?_
      have e:D.tup ((Zan ns++g).map shq++[shq (dot (lrF ns) (Zan ns++g).reverse)])=rowq (Zan ns++(g++[dot (lrF ns) (Zan ns++g).reverse])):=by
        unfold rowq
        rw [← List.append_assoc,List.map_append (l₂:=[_])]
        rfl
      rw [e]
      exact ih _ (j+1) _ (by omega) (h.next hN gl gx)
  have:=key (rng 0 (Int.toNat 8)) [] 0 .un (by decide) (Go.start hN)
  rw [List.append_nil] at this
  exact this
end B.C.K4.K5.K7
namespace B.C.K4.K5.K7
theorem sv_take {ns:List Int} {k p:Nat} (h:p < k):sv (ns.take k) p=sv ns p:=by
  unfold sv
  rw [List.getD_eq_getElem?_getD,List.getD_eq_getElem?_getD,List.getElem?_take_of_lt h]
theorem gn_take {ns:List Int} {r:List Rat} {k:Nat}:Gn (sv (ns.take k)) r k↔Gn (sv ns) r k:=by
  have key:∀ p,p < k→(vl (sv (ns.take k)) r p=sv (ns.take k) p↔vl (sv ns) r p=sv ns p):=fun p hp=>by
    have:vl (sv (ns.take k)) r p=vl (sv ns) r p:=by
      unfold vl
      exact ZdQ fun j _=>sv_take (by omega)
    rw [this,sv_take hp]
  exact ⟨fun h p h1 h2=>(key p h2).mp (h p h1 h2),fun h p h1 h2=>(key p h2).mpr (h p h1 h2)⟩
theorem lt_gn {ns:List Int} {k:Nat} (hk:k≤ns.length):Gn (sv ns) (lrF (ns.take k)) k:=by
  have:=lr_gn (ns.take k)
  rw [List.length_take,Nat.min_eq_left hk] at this
  exact gn_take.mp this
theorem lt_min {ns:List Int} {k:Nat} (hk:k≤ns.length) {t:List Rat} (h:Gn (sv ns) t k):lrL (ns.take k)≤t.length:=by
  refine lr_min ?_
  rw [List.length_take,Nat.min_eq_left hk]
  exact gn_take.mpr h
theorem lt_mono {ns:List Int} {k:Nat} (hk:k+1≤ns.length):lrL (ns.take k)≤lrL (ns.take (k+1)):=by
  rw [← ZdA (ns.take (k+1))]
  exact lt_min (by omega) ((lt_gn hk).mono (by omega))
theorem bm_all (s:Nat→Rat):∀ p,∃ r B dB g,Bm s p r B dB g
  | 0=>⟨_,_,_,_,Bm.start s⟩
  | p+1=>by
    obtain ⟨r,B,dB,g,h⟩:=bm_all s p
    by_cases e:s p - vl s r p=0
    · exact ⟨_,_,_,_,h.stay e⟩
    · obtain ⟨h1,h2⟩:=h.go rfl e
      by_cases hc:r.length < max r.length (p+1 - r.length)
      · exact ⟨_,_,_,_,h1 hc⟩
      · exact ⟨_,_,_,_,h2 hc⟩
theorem bm_len {ns:List Int} {p g:Nat} {r B:List Rat} {dB:Rat} (hp:p≤ns.length) (h:Bm (sv ns) p r B dB g):r.length=lrL (ns.take p):=by
  have h1:=lt_min hp h.gr
  have h2:=h.mn _ (lt_gn hp)
  rw [ZdA] at h2
  omega
theorem lt_jump {ns:List Int} {p:Nat} (hp:p+1≤ns.length) (hj:lrL (ns.take p) < lrL (ns.take (p+1))):lrL (ns.take (p+1))+lrL (ns.take p)=p+1:=by
  obtain ⟨r,B,dB,g,h⟩:=bm_all (sv ns) p
  have e1:=bm_len (by omega) h
  by_cases e:sv ns p - vl (sv ns) r p=0
  · have:=bm_len hp (h.stay e)
    omega
  · obtain ⟨h1,h2⟩:=h.go rfl e
    by_cases hc:r.length < max r.length (p+1 - r.length)
    · have:=bm_len hp (h1 hc)
      rw [List.length_map,List.length_range] at this
      omega
    · have:=bm_len hp (h2 hc)
      rw [List.length_map,List.length_range] at this
      omega
theorem ln_at {ns:List Int} {p:Nat} (hp:p≤ns.length):atI (D.int 0::lnD ns) (p:Int)=some (.int ((lrL (ns.take p):Nat):Int)):=by
  refine atI_nat ?_
  cases p with
  | zero=>
    rw [List.getElem?_cons_zero,List.take_zero]
    rfl
  | succ p=>
    rw [List.getElem?_cons_succ]
    unfold lnD
    rw [List.getElem?_map,List.getElem?_range (by omega)]
    rfl
theorem Zdv:∀ ds E Q,ZaD ds E Q→ZbD E { nx:=fun _=>Q .non,rt:=Q } (rho Zcl ds):=by
  rintro _ E Q ⟨ns,rfl,hN,q⟩
  dsimp only at hN q
  have n10:=hN.n10
  have n1:=hN.n1
  have ll:(lnD ns).length=ns.length:=by unfold lnD;simp
  unfold ZbD
  walk_at "nx"
  refine ⟨by decide,u_lo hN ?_⟩
  refine ⟨Zby (by simp;omega),?_⟩
  rw [show [D.int 0]++lnD ns=D.int 0::lnD ns from rfl]
  refine Zaj ?_
  walk_at "st"
  rw [ll,show (((ns.length+1:Nat):Int) - 1).toNat=ns.length by omega]
  refine ⟨⟨by decide,by decide,by omega,by omega⟩,ZfI (fun ρ=>∃ s2,ρ=[.d (Zag ns),.d (.lst (D.int 0::lnD ns)),s2]) _ ?_ ?_ _ ⟨_,rfl⟩⟩
  rotate_left
  · rintro _ ⟨s2,rfl⟩
    unfold Zag
    walk_at "st"
    rw [ll,List.length_map,show (((ns.length+1:Nat):Int) == (ns.length:Int)+1)=true by rw [beq_iff_eq];omega]
    exact q
  rintro d hd _ ⟨s2,rfl⟩ nx hnx
  obtain ⟨p,hp,rfl⟩:∃ p:Nat,p < ns.length∧d = .int ((p+1:Nat):Int):=by
    unfold rng at hd
    obtain ⟨p,hp,rfl⟩:=List.mem_map.mp hd
    exact ⟨p,List.mem_range.mp hp,by congr 1;omega⟩
  show zSeq _ _ _ _ [.d (Zag ns),.d (.lst (D.int 0::lnD ns)),.d (.int ((p+1:Nat):Int))]
  have a1:=ln_at (ns:=ns) (p:=p+1) (by omega)
  have a0:=ln_at (ns:=ns) (p:=p) (by omega)
  have mn:=lt_mono (ns:=ns) (k:=p) (by omega)
  have jp:=lt_jump (ns:=ns) (p:=p) (by omega)
  have ep:((p+1:Nat):Int) - 1=(p:Int):=by omega
  refine Zaj (Zce (b:=false) (fun P hP=>?_) (fun e=>nomatch e) fun _=>?_)
  · walk_at "st"
    rw [ep]
    refine ⟨_,a1,_,a0,?_⟩
    refine ⟨trivial,?_⟩
    show P (decide _)
    rw [decide_eq_false (by omega)]
    exact hP
  try dsimp only
  refine Zaj (Zce (b:=false) (fun P hP=>?_) (fun e=>nomatch e) fun _=>?_)
  · walk_at "st"
    rw [ep]
    refine ⟨_,a1,_,a0,?_⟩
    refine ⟨trivial,?_⟩
    simp only [isB]
    split
    · rename_i e
      have e:=of_decide_eq_true e
      refine ⟨_,a1,_,a0,?_⟩
      show gEq true (D.int _) (D.int _) _
      rw [Zai]
      have:=jp (by omega)
      show P (!(_ == _))
      rw [show ((((lrL (ns.take (p+1)):Nat):Int)+((lrL (ns.take p):Nat):Int)) == ((p+1:Nat):Int))=true by rw [beq_iff_eq];omega]
      exact hP
    · exact hP
  try dsimp only
  refine Zce (b:=false) (fun P hP=>?_) (fun e=>nomatch e) fun _=>hnx _ ⟨_,rfl⟩
  unfold Zag
  walk_at "st"
  refine ⟨_,a1,?_⟩
  rw [cut_to rfl,← List.map_take]
  refine u_ll (isN_take hN (p+1) (by omega)) ?_
  exact Zez (by rw [okD]) hP
end B.C.K4.K5.K7
namespace B.C.K4.K5.K7
theorem sm_at {ns:List Int} {st L k:Nat} (hk:k < L) (h:st+L≤ns.length):((ns.drop st).take L)[k]? = some (ns.getD (st+k) 0):=by
  rw [List.getElem?_take_of_lt hk,List.getElem?_drop,List.getD_eq_getElem?_getD,List.getElem?_eq_getElem (by omega)]
  rfl
theorem tims_eq {ns:List Int} {st:Nat} (h:st+2*lrL ns≤ns.length):tims (((ns.drop st).take (2*lrL ns)).take (2*lrL ns - 1)) (lrL ns) (lrF ns).reverse=Zan (((ns.drop st).take (2*lrL ns)).drop (lrL ns)).reverse:=by
  have hl:=ZdA ns
  have hs:((ns.drop st).take (2*lrL ns)).length=2*lrL ns:=by rw [List.length_take,List.length_drop];omega
  unfold tims tbl Zan
  rw [List.map_map]
  refine List.ext_getElem? fun i=>?_
  rw [List.getElem?_map,List.getElem?_map]
  rcases Nat.lt_or_ge i (lrL ns) with hi | hi
  · rw [List.getElem?_range hi,List.getElem?_reverse (by rw [List.length_drop,hs];omega),List.length_drop,hs,List.getElem?_drop,sm_at (by omega) h]
    simp only [Option.map_some,Function.comp_apply]
    congr 1
    rw [Zc8 _ _ (lrL ns) (by simp;omega) (by rw [List.length_reverse,hl])]
    have g:=lr_gn ns (st+2*lrL ns - 1 - i) (by omega) (by omega)
    have ei:st+(lrL ns+(2*lrL ns - lrL ns - 1 - i))=st+2*lrL ns - 1 - i:=by omega
    rw [ei]
    show _=sv ns (st+2*lrL ns - 1 - i)
    rw [← g]
    unfold vl
    rw [Zbs,hl,← sum_rev]
    refine Zam fun k hk=>?_
    rw [List.getD_eq_getElem?_getD,List.getD_eq_getElem?_getD,List.getElem?_map,List.getElem?_take_of_lt (by omega),List.getElem?_drop,List.getElem?_take_of_lt (by omega),sm_at (by omega) h,List.getElem?_reverse (by omega),hl,show lrL ns - 1 - (lrL ns - 1 - k)=k by omega,show st+(lrL ns - 1 - i+(lrL ns - 1 - k))=st+2*lrL ns - 1 - i - 1 - k by omega,Rat.mul_comm,List.getD_eq_getElem?_getD]
    rfl
  · rw [List.getElem?_eq_none (by simp;omega),List.getElem?_eq_none (by rw [List.length_reverse,List.length_drop,hs];omega)]
    rfl
theorem okD_rw (r:List Rat):okD (rowq r) 60=true:=by
  unfold rowq
  rw [okD,Bool.and_eq_true]
  refine ⟨by decide,okDs_of fun x hx=>?_⟩
  obtain ⟨y,_,rfl⟩:=List.mem_map.mp hx
  exact okD_shq _ _
theorem cut_last {α:Type} (xs:List α):cutD xs none (some (-1))=xs.take (xs.length - 1):=by
  unfold cutD
  have:HT.sIx xs.length xs.length (some (-1))=xs.length - 1:=by
    show (if (-1:Int) < 0 then ((-1:Int)+(xs.length:Int)).toNat else min (-1:Int).toNat xs.length)=_
    rw [if_pos (by decide)]
    omega
  rw [this,HT.sIx_none,List.drop_zero,Nat.sub_zero]
theorem two_ok {n:Nat} (h:n≤10):MulOk 2 (n:Int):=⟨Zcw (n:=2) (by decide) (by decide),Zcw (n:=4) (by show (n:Int).natAbs < 16;omega) (by decide)⟩
theorem ZdT:∀ ds E Q,ZaS ds E Q→ZbJ E { nx:=fun _=>Q .non,rt:=Q } (rho ZcC ds):=by
  rintro _ E Q ⟨ns,rfl,⟨hN,h6⟩,q⟩
  dsimp only at hN h6 q
  have n10:=hN.n10
  have n1:=hN.n1
  have hl:=ZdA ns
  have hle:=(Zfd ns).1
  unfold ZbJ
  refine Zaj (LP.set_by (d:=.int ((lrL ns:Nat):Int)) (ρ':=[.d (Zag ns),.d (rowq (lrF ns)),.d (.int ((lrL ns:Nat):Int)),.un,.un,.un]) (by rfl) (fun P h=>?_) ?_)
  · walk_at "st"
    rw [hl]
    exact h
  try dsimp only
  refine Zfg (fun ρ=>∃ s3 s4 s5,ρ=[.d (Zag ns),.d (rowq (lrF ns)),.d (.int ((lrL ns:Nat):Int)),s3,s4,s5]) (fun nx2 hnx2=>?_) ?_
  rotate_left
  · rintro _ ⟨s3,s4,s5,rfl⟩
    exact q
  simp only [zNox]
  walk_at "st"
  refine ⟨two_ok (by omega),by omega,by omega,ZfI (fun ρ=>∃ s3 s4 s5,ρ=[.d (Zag ns),.d (rowq (lrF ns)),.d (.int ((lrL ns:Nat):Int)),s3,s4,s5]) _ ?_ (fun ρ h=>hnx2 ρ h) _ ⟨_,_,_,rfl⟩⟩
  rintro d hd _ ⟨s3,s4,s5,rfl⟩ nx hnx
  obtain ⟨st,hst,rfl⟩:∃ st:Nat,st+2*lrL ns≤ns.length∧d = .int ((st:Nat):Int):=by
    unfold rng at hd
    obtain ⟨st,hst,rfl⟩:=List.mem_map.mp hd
    have:=List.mem_range.mp hst
    exact ⟨st,by omega,by congr 1;omega⟩
  clear hd
  show zSeq _ _ _ _ [.d (Zag ns),.d (rowq (lrF ns)),.d (.int ((lrL ns:Nat):Int)),.d (.int (st:Int)),s4,s5]
  have hs:((ns.drop st).take (2*lrL ns)).length=2*lrL ns:=by rw [List.length_take,List.length_drop];omega
  have heq:=tims_eq hst
  have hmem:∀ x∈(ns.drop st).take (2*lrL ns),x∈ns:=fun x hx=>List.mem_of_mem_drop (List.mem_of_mem_take hx)
  generalize hW:(ns.drop st).take (2*lrL ns)=W at *
  refine Zaj (LP.set_by (d:=Zag W) (ρ':=[.d (Zag ns),.d (rowq (lrF ns)),.d (.int ((lrL ns:Nat):Int)),.d (.int (st:Int)),.d (Zag W),s5]) (by rfl) (fun P h=>?_) ?_)
  · unfold Zag
    walk_at "st"
    refine ⟨two_ok (by omega),?_⟩
    rw [show (st:Int)+2*((lrL ns:Nat):Int)=((st+2*lrL ns:Nat):Int) by omega,cut_mid (by omega) (by rw [List.length_map];omega),← List.map_drop,← List.map_take,show st+2*lrL ns - st=2*lrL ns by omega,hW]
    exact h
  try dsimp only
  by_cases h0:lrL ns=0
  · walk_at "st"
    rw [if_neg (by rw [h0];decide)]
    exact hnx _ ⟨_,_,_,rfl⟩
  have hc:cutD (W.map D.int) none (some (-1))=(W.take (2*lrL ns - 1)).map D.int:=by rw [cut_last,List.length_map,hs,List.map_take]
  have hS:IsSl (W.take (2*lrL ns - 1)) (lrL ns):=⟨by rw [List.length_take,hs];omega,by omega,by omega,fun x hx=>hN.b x (hmem x (List.mem_of_mem_take hx))⟩
  unfold Zag
  walk_at "st"
  rw [if_pos (decide_eq_true (by omega))]
  refine Zaj (Zce (b:=false) (fun P hP=>?_) (fun e=>nomatch e) fun _=>?_)
  · walk_at "st"
    show ZbA [D.tup (cutD (W.map D.int) none (some (-1)))] _ _
    rw [hc]
    refine Zel hS.kd ?_
    show isB _ (D.bl (slG (Zag _)))
    rw [slG_of hS]
    exact hP
  try dsimp only
  refine Zaj (LP.set_by (d:=rowq (Zan (W.drop (lrL ns)).reverse)) (ρ':=[.d (.tup (ns.map D.int)),.d (rowq (lrF ns)),.d (.int ((lrL ns:Nat):Int)),.d (.int (st:Int)),.d (.tup (W.map D.int)),.d (rowq (Zan (W.drop (lrL ns)).reverse))]) (by rfl) (fun P h=>?_) ?_)
  · walk_at "st"
    show Zcx [D.tup (cutD (W.map D.int) none (some (-1))),_] _ _
    rw [hc]
    refine u_times_row hS (by rw [List.length_reverse,hl]) ⟨223,fun x hx=>lr_sz hN x (List.mem_reverse.mp hx),by decide⟩ ?_
    rw [heq]
    exact h
  try dsimp only
  refine Zce (b:=false) (fun P hP=>?_) (fun e=>nomatch e) fun _=>hnx _ ⟨_,_,_,rfl⟩
  walk_at "st"
  rw [cut_from (by rw [List.length_map];omega),← List.map_drop,← List.map_reverse]
  refine lc_of (g:=D.int) (f:=fun i=>shq (i:Rat)) (W.drop (lrL ns)).reverse (fun i hi P hP=>?_) .un [] (Zby (by simp;omega)) ?_
  · walk_at "st"
    rw [shq_int] at hP
    exact ⟨by decide,hP⟩
  have e:([]:List D)++(W.drop (lrL ns)).reverse.map (fun (i:Int)=>shq (i:Rat))=(Zan (W.drop (lrL ns)).reverse).map shq:=by
    unfold Zan
    rw [List.map_map]
    rfl
  rw [e]
  exact Zez (okD_rw _) hP
end B.C.K4.K5.K7
namespace B.C.K4.K5.K7
theorem zero_iff (ns:List Int):lrL ns=0↔ns=List.replicate ns.length 0:=by
  constructor
  · intro h
    have e:lrF ns=[]:=List.length_eq_zero_iff.mp (by rw [ZdA,h])
    refine List.eq_replicate_iff.mpr ⟨rfl,fun b hb=>?_⟩
    obtain ⟨p,hp,rfl⟩:=List.getElem_of_mem hb
    have g:=lr_gn ns p (by rw [e];exact Nat.zero_le _) hp
    rw [e] at g
    have:sv ns p=0:=g.symm
    unfold sv at this
    rw [List.getD_eq_getElem?_getD,List.getElem?_eq_getElem hp,Option.getD_some] at this
    exact_mod_cast this
  · intro h
    have g:Gn (sv ns) [] ns.length:=fun p h1 h2=>by
      show (0:Rat)=sv ns p
      unfold sv
      rw [h,List.getD_eq_getElem?_getD,List.getElem?_replicate,if_pos h2]
      rfl
    exact Nat.le_zero.mp (lr_min g)
theorem dq_ints (a b:List Int):deq (Zag a) (Zag b)=decide (a=b):=by
  unfold deq Zag
  rw [pd,pd,PyData.eqv]
  induction a generalizing b with
  | nil=>cases b<;>simp [pds,PyData.eqvAll]
  | cons x a ih=>
    cases b with
    | nil=>simp [pds,PyData.eqvAll]
    | cons y b=>
      rw [List.map_cons,List.map_cons,pds,pds,PyData.eqvAll,ih b,pd,pd,PyData.eqv,Bool.eq_iff_iff]
      simp
theorem dot_z {ns:List Int} {p:Nat} (h1:(lrF ns).length≤p) (h2:p < ns.length):dot (lrF ns) (Zan (ns.take p)).reverse=((ns.getD p 0:Int):Rat):=by
  rw [dot_vl h1 h2,lr_gn ns p h1 h2]
  rfl
theorem fol_nil {ns hs:List Int} {g:List Rat} (gl:g.length=8) (gd:∀ j,j < 8→dot (lrF ns) (Zan ns++g.take j).reverse=g.getD j 0) (hh:Zan hs=g.take hs.length):msF (ns++hs) (lrF ns)=[]:=by
  unfold msF
  rw [List.filter_eq_nil_iff]
  intro p hp
  have l1:=lr_le ns
  rw [List.mem_range'_1,List.length_append] at hp
  have hh8:hs.length≤8:=by
    have:=congrArg List.length hh
    unfold Zan at this
    rw [List.length_map,List.length_take] at this
    omega
  rcases Nat.lt_or_ge p ns.length with h | h
  · rw [List.take_append_of_le_length (by omega),dot_z hp.1 h,List.getD_eq_getElem?_getD,List.getD_eq_getElem?_getD,List.getElem?_append_left h]
    simp
  · obtain ⟨i,rfl⟩:∃ i,p=ns.length+i:=⟨p - ns.length,by omega⟩
    have hi:i < hs.length:=by omega
    have e1:Zan ((ns++hs).take (ns.length+i))=Zan ns++g.take i:=by
      rw [List.take_length_add_append]
      unfold Zan at hh ⊢
      rw [List.map_append,List.map_take,hh,List.take_take,Nat.min_eq_left (by omega)]
    have e2:(((ns++hs).getD (ns.length+i) 0:Int):Rat)=g.getD i 0:=by
      have:(Zan hs)[i]? = (g.take hs.length)[i]?:=by rw [hh]
      unfold Zan at this
      rw [List.getElem?_map,List.getElem?_eq_getElem hi,List.getElem?_take_of_lt hi] at this
      rw [List.getD_eq_getElem?_getD,List.getD_eq_getElem?_getD,List.getElem?_append_right (by omega),Nat.add_sub_cancel_left,List.getElem?_eq_getElem hi,← this]
      rfl
    rw [e1,gd i (by omega),e2]
    simp
theorem rd__law_right:∀ ds E Q,Zch ds E Q→Zdr E { nx:=fun _=>Q .non,rt:=Q } (rho Ze7 ds):=by
  rintro _ E Q ⟨ns,rfl,hN,q⟩
  dsimp only at hN q
  have n10:=hN.n10
  have n1:=hN.n1
  have hl:=ZdA ns
  have hle:=(Zfd ns).1
  unfold Zdr
  walk_at "nx"
  refine u_lr hN ?_
  walk_at "nx"
  refine u_ll hN ?_
  refine Zaj (Zce (b:=false) (fun P hP=>?_) (fun e=>nomatch e) fun _=>?_)
  · walk_at "st"
    rw [hl,beq_self_eq_true]
    simp only [Bool.not_true,Bool.false_eq_true,if_false]
    refine u_fol hN hN (Nat.le_refl _) (ms_nil (lr_gn ns)) ?_
    simp only [isB,Bool.not_true,Bool.false_eq_true,if_false]
    exact u_mis hN ⟨by decide,Zez (x:=.lst []) (by decide +kernel) hP⟩
  try dsimp only
  refine Zaj (Zce (b:=false) (fun P hP=>?_) (fun e=>nomatch e) fun _=>?_)
  · walk_at "st"
    refine u_io hN ⟨two_ok (by omega),?_⟩
    rw [show decide (2*((lrL ns:Nat):Int)≤(ns.length:Int))=decide (2*lrL ns≤ns.length) from decide_eq_decide.mpr (by omega)]
    refine Zez (x:=.bl _) (by rw [okD]) ?_
    simp only [isB,Bool.not_true,Bool.false_eq_true,if_false]
    have ez:D.tup (List.replicate ns.length [D.int 0]).flatten=Zag (List.replicate ns.length 0):=by
      unfold Zag
      rw [List.map_replicate]
      congr 1
      induction ns.length with
      | zero=>rfl
      | succ n ih=>rw [List.replicate_succ,List.flatten_cons,ih];rfl
    have okI:∀ xs:List Int,okD (Zag xs) 60=true:=fun xs=>by
      unfold Zag
      rw [okD,Bool.and_eq_true]
      refine ⟨by decide,okDs_of fun x hx=>?_⟩
      obtain ⟨y,_,rfl⟩:=List.mem_map.mp hx
      rw [okD]
    rw [ez]
    refine ⟨by decide,by omega,by omega,Zby (by omega),gEq_ok (okI _) (okI _) ?_⟩
    rw [if_neg Bool.false_ne_true,dq_ints]
    have e3:decide (ns=List.replicate ns.length 0)=(((lrL ns:Nat):Int) == 0):=by
      rw [Bool.eq_iff_iff,decide_eq_true_eq,beq_iff_eq,← zero_iff]
      omega
    rw [e3]
    exact Zez (x:=.bl _) (by rw [okD]) hP
  try dsimp only
  refine Zaj (Zce (b:=false) (fun P hP=>?_) (fun e=>nomatch e) fun _=>?_)
  · walk_at "st"
    split
    · rename_i e
      have e:=of_decide_eq_true e
      exact Zec hN (by omega) hP
    · exact hP
  try dsimp only
  walk_at "nx"
  refine u_gone_on hN fun g gl gd=>?_
  refine Zaj ?_
  walk_at "st"
  refine Zaj ?_
  simp only [zNox]
  have fin:∀ (hs:List Int) {E':Ex→Prop},Zan hs=g.take hs.length→IsN (ns++hs)→Zbw [.tup ((ns++hs).map D.int),rowq (lrF ns)] E' Q:=fun hs E' h1 h2=>u_fol h2 hN (by simp) (fol_nil gl gd h1) q
  have key:∀ (rest:List Rat) (hs:List Int) (s5:SV),g.drop hs.length=rest→Zan hs=g.take hs.length→IsN (ns++hs)→ZaW (gN 5)
        (zIf
          (tBor 4
            (wAnd (wT (w2 (gEq false) (w2 gIx (wN 5) (wC (D.int 1))) (wC (D.int 1))))
              (wAnd (wT (ZaA gLeI gLeI (w1 gNeg (wC (D.int 50))) (w2 gIx (wN 5) (wC (D.int 0))) (wC (D.int 50))))
                (wT (w2 gLtI (wB gLen (Zab (wN 4) aNil)) (wC (D.int 10)))))))
          (zApp 4 (w2 gIx (wN 5) (wC (D.int 0))))
          (zPub 4 (zRet (wF Zbw (Zab (wB ZbM (Zab (wN 4) aNil)) (Zab (wN 1) aNil))))))
      No { nx:=zPub 4 (zRet (wF Zbw (Zab (wB ZbM (Zab (wN 4) aNil)) (Zab (wN 1) aNil)))) E { nx:=fun _=>Q .non,rt:=Q },rt:=Q,bk:=fun _=>False,ct:=fun _=>False } (rest.map shq)
      [.d (Zag ns),.d (rowq (lrF ns)),.d (.int ((lrL ns:Nat):Int)),.d (rowq g),.ow ((ns++hs).map D.int),s5]:=by
    intro rest
    induction rest with
    | nil=>
      intro hs s5 h1 h2 h3
      rw [List.map_nil]
      unfold ZaW
      walk_at "st"
      exact fin hs h2 h3
    | cons x rest ih=>
      intro hs s5 h1 h2 h3
      rw [List.map_cons]
      unfold ZaW
      walk_at "st"
      have f2:∀ {E':Ex→Prop},Zbw [.tup ((ns++hs).map D.int),rowq (lrF ns)] E' Q:=fin hs h2 h3
      refine ⟨_,show atI [D.int x.num,D.int (x.den:Int)] 1=some (D.int (x.den:Int)) from rfl,?_⟩
      dsimp only
      rw [Zai]
      simp only [isB,Bool.false_eq_true,if_false]
      split
      case isFalse=>exact f2
      rename_i c1
      refine ⟨_,show atI [D.int x.num,D.int (x.den:Int)] 0=some (D.int x.num) from rfl,trivial,?_⟩
      simp only [isB]
      split
      case isFalse=>exact f2
      rename_i c2
      refine ⟨trivial,?_⟩
      simp only [isB]
      split
      case isFalse=>exact f2
      rename_i c3
      split
      case isFalse=>exact f2
      rename_i c4
      rw [beq_iff_eq] at c1
      have c2:=of_decide_eq_true c2
      have c3:=of_decide_eq_true c3
      have c4:=of_decide_eq_true c4
      rw [List.length_map] at c4
      have ex:((x.num:Int):Rat)=x:=by
        have:=num_den x
        rw [show x.den=1 by omega] at this
        rw [← this]
        exact Rat.mul_one _
      have hlt:hs.length < g.length:=by
        have:=congrArg List.length h1
        rw [List.length_drop,List.length_cons] at this
        omega
      have hx:g[hs.length]? = some x:=by
        have:=congrArg (fun l=>l[0]?) h1
        simp only [List.getElem?_drop,List.getElem?_cons_zero,Nat.add_zero] at this
        exact this
      refine ⟨_,show atI [D.int x.num,D.int (x.den:Int)] 0=some (D.int x.num) from rfl,Zby (by rw [List.length_map];omega),?_⟩
      rw [show (ns++hs).map D.int++[D.int x.num]=(ns++(hs++[x.num])).map D.int by rw [← List.append_assoc,List.map_append (l₂:=[x.num])];rfl]
      refine ih (hs++[x.num]) _ ?_ ?_ ⟨?_,?_,?_⟩
      · rw [List.length_append,List.length_singleton,← List.drop_drop,h1]
        rfl
      · rw [List.length_append,List.length_singleton,List.take_succ,← h2,hx]
        unfold Zan
        rw [List.map_append,List.map_singleton,ex]
        rfl
      · simp only [List.length_append,List.length_singleton]
        omega
      · simp only [List.length_append,List.length_singleton] at c4 ⊢
        omega
      · intro y hy
        rw [← List.append_assoc] at hy
        rcases List.mem_append.mp hy with hy | hy
        · exact h3.b y hy
        · rw [List.mem_singleton.mp hy]
          exact ⟨c2,c3⟩
  have:=key g [] .un rfl rfl (by rw [List.append_nil];exact hN)
  rw [List.append_nil] at this
  exact this
theorem rd_law:∀ ds E Q,S_law ds E Q→z_law E { nx:=fun _=>Q .non,rt:=Q } (rho N_law ds):=by
  rintro _ E Q ⟨xs,rfl,hx,q⟩
  dsimp only at hx q
  show z_law E _ [.d (.scr (xs.map .int)),.un,.un]
  generalize hS:D.scr (xs.map .int)=S
  unfold z_law
  refine Zaj ?_
  simp only [zNox]
  refine LP.for_seq (xs:=([[0],[1],[1,1,2,3,5,8],[0,0,0,5],[1,-1,1,-1,1,-1,1,-1,1,-1]]:List (List Int)).map Zag) (fun P h=>?_) ?_
  · walk_at "st"
    exact ⟨by decide,by decide,by decide,by decide,by decide,by decide,by decide,by decide,by decide,h⟩
  refine ZfI (fun ρ=>∃ s1,ρ=[.d S,s1,.un]) _ ?_ ?_ _ ⟨_,rfl⟩
  · rintro d hd _ ⟨s1,rfl⟩ nx hnx
    obtain ⟨t,ht,rfl⟩:=List.mem_map.mp hd
    have hT:IsN t:=by
      simp only [List.mem_cons,List.not_mem_nil,or_false] at ht
      rcases ht with rfl | rfl | rfl | rfl | rfl<;>exact ⟨by decide,by decide,by decide⟩
    show zIf _ _ _ _ _ [.d S,.d (Zag t),.un]
    refine Zce (b:=false) (fun P hP=>?_) (fun e=>nomatch e) fun _=>hnx _ ⟨_,rfl⟩
    walk_at "st"
    refine ZeX hT ?_
    simp only [isB,Bool.not_true,Bool.false_eq_true,if_false]
    exact Zck hT hP
  rintro _ ⟨s1,rfl⟩
  dsimp only
  refine Zaj ?_
  simp only [zNox]
  have ec:∃ cs:List Int,cutD (xs.map D.int) (some 1) (some 8)=cs.map D.int∧cs.length≤63:=by
    refine ⟨cutD xs (some 1) (some 8),?_,?_⟩
    · unfold cutD
      rw [List.length_map,List.map_take,List.map_drop]
    · unfold cutD
      rw [List.length_take,List.length_drop]
      omega
  obtain ⟨cs,ec,hcs⟩:=ec
  refine LP.for_seq (xs:=(xs.getD 0 0::cs).map D.int) (fun P h=>?_) ?_
  · subst hS
    walk_at "st"
    refine u__law_cell_at (i:=0) ?_
    walk_at "st"
    rw [ec]
    exact ⟨by decide,by simp [small];omega,h⟩
  clear ec hcs
  refine ZfI (fun ρ=>∃ s1 s2,ρ=[.d S,s1,s2]) _ ?_ ?_ _ ⟨_,_,rfl⟩
  rotate_left
  · rintro _ ⟨s1,s2,rfl⟩
    exact q
  rintro d hd _ ⟨s1,s2,rfl⟩ nx hnx
  obtain ⟨c,_,rfl⟩:=List.mem_map.mp hd
  clear hd
  show zSeq _ _ _ _ [.d S,s1,.d (.int c)]
  refine Zaj (LP.set_rl (fun d=>∃ ns,IsN ns∧d=Zag ns) (fun P h=>?_) ?_)
  · walk_at "st"
    exact u__law_pen_of (ZeN fun ns hN=>h _ ⟨ns,hN,rfl⟩)
  rintro _ ⟨ns,hN,rfl⟩
  dsimp only [List.set_cons_succ,List.set_cons_zero]
  refine Zce (b:=false) (fun P hP=>?_) (fun e=>nomatch e) fun _=>hnx _ ⟨_,_,rfl⟩
  walk_at "st"
  refine ZeX hN ?_
  simp only [isB,Bool.not_true,Bool.false_eq_true,if_false]
  exact Zck hN hP
end B.C.K4.K5.K7
end LP
set_option maxHeartbeats 8000000
namespace LP
open PySem PySem.Spec PyProof.Rows L2
namespace B.C.K4.K5.K7
theorem law_start {K:PySem.W.Frag} {H:Hp} {a:Addr} {ns:List Int} (hl:ns.length≤63) (hO:Only H) (hS:SqL K H a (ns.map V.int)):spOf K S_law [.ref a] H (fun v _=>v = .bl true) fun _ _ _=>False:=by
  have rv:∀ W:Wd,Reps K W (ns.map V.int) (ns.map D.int):=fun W=>by
    clear hl hS
    induction ns with
    | nil=>exact .nil
    | cons n ns ih=>exact .cons (.int n) ih
  have ok:WOk ⟨H,fun _=>False⟩ H:=⟨fun _ _ e=>e,fun _ e=>e.elim⟩
  refine ⟨[.scr (ns.map .int)],⟨H,fun _=>False⟩,ok,.cons (.scr ?_ (rv _)) .nil,ns,rfl,hl,fun v W' H' _ r=>?_⟩
  · rcases hS with (h | h) | h
    · rcases hO a with z | ⟨o,xs,z⟩
      · rw [h] at z;cases z
      · rw [h] at z;cases z
    · exact .inl h
    · exact .inr h
  · cases r;rfl
def top (i:Nat):Stmt:=PySem.Challenge.pw_slanttables_k57_whole_foretold.main.body.getD i (.Pass ⟨0,0,0,0⟩)
structure Bs (K:PySem.W.Frag) (mg:Str→Option Value):Prop where
  f_is_whole:FnAt K mg "is_whole" (top 2)
  f_is_within:FnAt K mg "is_within" (top 3)
  f_are_within:FnAt K mg "are_within" (top 4)
  f_common_divisor:FnAt K mg "common_divisor" (top 5)
  f_is_share:FnAt K mg "is_share" (top 6)
  f_is_row_within:FnAt K mg "is_row_within" (top 7)
  f_is_row:FnAt K mg "is_row" (top 8)
  f_share_by:FnAt K mg "share_by" (top 9)
  f_plus:FnAt K mg "plus" (top 10)
  f_minus:FnAt K mg "minus" (top 11)
  f_times:FnAt K mg "times" (top 12)
  f_by:FnAt K mg "by" (top 13)
  f_row_of:FnAt K mg "row_of" (top 14)
  f_row_by:FnAt K mg "row_by" (top 15)
  f_row_less:FnAt K mg "row_less" (top 16)
  f_sum_of_products:FnAt K mg "sum_of_products" (top 17)
  f_first_with:FnAt K mg "first_with" (top 19)
  f_without_place:FnAt K mg "without_place" (top 20)
  f_cleared:FnAt K mg "cleared" (top 21)
  f_size_of:FnAt K mg "size_of" (top 31)
  f_slants_good:FnAt K mg "slants_good" (top 32)
  f_need_slants:FnAt K mg "need_slants" (top 33)
  f_table_of:FnAt K mg "table_of" (top 34)
  f_row_good:FnAt K mg "row_good" (top 35)
  f_share_rows:FnAt K mg "share_rows" (top 36)
  f_times_row:FnAt K mg "times_row" (top 37)
  f_need_numbers:FnAt K mg "need_numbers" (top 38)
  f_is_rule:FnAt K mg "is_rule" (top 42)
  f_share_behind:FnAt K mg "share_behind" (top 43)
  f_follows:FnAt K mg "follows" (top 44)
  f_missed_by:FnAt K mg "missed_by" (top 45)
  f_rule_of_length:FnAt K mg "rule_of_length" (top 46)
  f_least_rule:FnAt K mg "least_rule" (top 47)
  f_least_length:FnAt K mg "least_length" (top 48)
  f_is_only:FnAt K mg "is_only" (top 49)
  f_lengths_of:FnAt K mg "lengths_of" (top 50)
  f_gone_on:FnAt K mg "gone_on" (top 51)
  f__law_cell_at:FnAt K mg "_law_cell_at" (top 53)
  f__law_next:FnAt K mg "_law_next" (top 54)
  f__law_pen_of:FnAt K mg "_law_pen_of" (top 55)
  f__law_draw:FnAt K mg "_law_draw" (top 56)
  f__law_numbers_of:FnAt K mg "_law_numbers_of" (top 57)
  f__law_lengths_right:FnAt K mg "_law_lengths_right" (top 58)
  f__law_slants_right:FnAt K mg "_law_slants_right" (top 59)
  f__law_right:FnAt K mg "_law_right" (top 60)
  f_law:FnAt K mg "law" (top 61)
  b_len:mg "len" = none
  b_bool:mg "bool" = none
  b_int:mg "int" = none
  b_isinstance:mg "isinstance" = none
  b_all:mg "all" = none
  b_tuple:mg "tuple" = none
  c_LEAST:CI mg "LEAST" (-50)
  c_MOST:CI mg "MOST" (50)
  x_NoRow:XC K mg "NoRow"
  b_enumerate:mg "enumerate" = none
  c_NOUGHT:CT K mg "NOUGHT" [(D.int (0)),(D.int (1))]
  b_abs:mg "abs" = none
  b_zip:mg "zip" = none
  b_list:mg "list" = none
  b_range:mg "range" = none
  c_MOST_NUMBERS:CI mg "MOST_NUMBERS" (10)
  b_sum:mg "sum" = none
  b_max:mg "max" = none
  c_GREATEST_SIZE:CI mg "GREATEST_SIZE" (5)
  x_NoSlants:XC K mg "NoSlants"
  c_MOST_GONE_ON:CI mg "MOST_GONE_ON" (8)
  x_NoNumber:XC K mg "NoNumber"
section
variable {P:Program} {w:World} {K:PySem.W.Frag} {mg:Str→Option Value} {base:Heap} (Z:Bs K mg)
include Z
theorem ZfF:Fp P w K mg base 1 "_law_cell_at" ZfD Zcc:=mkp (z:=ZcP) (N:=Zd7) Z.f__law_cell_at (fun sc _ _ _ _ _ _ _ hr hx hw=>(Zad (ZbF (Zas o_lt (Zac 1) (Zal Zcn Z.b_len boot_len (Za (Zac 0) Zaa))) (Zaf (Zah (ZaJ i_ix (Zac 0) (Zac 1)))) Zar) (Zaf (Zah Zae)))) Zfx
theorem Zee:Fp P w K mg base 1 "is_whole" ps_is_whole ZcZ:=mkp (z:=ZeL) (N:=N_is_whole) Z.f_is_whole (fun sc _ _ _ _ _ _ _ hr hx hw=>(Zaf (Zah (px_and (Zal ZeC Z.b_isinstance boot_isinstance (Za (Zac 0) (Za (px_bty Z.b_int boot_int) Zaa))) (px_one (px_not (Zal ZeC Z.b_isinstance boot_isinstance (Za (Zac 0) (Za (px_bty Z.b_bool boot_bool) Zaa))))))))) rd_is_whole
theorem Ze0:Fp P w K mg base 2 "is_within" ps_is_within ZcA:=mkp (z:=Ze) (N:=ZfO) Z.f_is_within (fun sc _ _ _ _ _ _ _ hr hx hw=>(Zaf (Zah (px_and (Zak (Zee Z) hr hx (Za (Zac 0) Zaa)) (px_one (px_chain o_le o_le (Zac 1) (Zac 0) (Zac 2))))))) rd_is_within
theorem Zev:Fp P w K mg base 3 "are_within" ps_are_within Zcg:=mkp (z:=Zdq) (N:=Ze6) Z.f_are_within (fun sc _ _ _ _ _ _ _ hr hx hw=>(Zaf (Zah (px_and (Zal ZeC Z.b_isinstance boot_isinstance (Za (Zac 0) (Za (px_bty Z.b_tuple boot_tuple) Zaa))) (px_one (Zal (c_all rfl) Z.b_all boot_all (Za (PXL.px (Zcu ["number"] [1,2] rfl (Zcv (Zac 0)) (fun _ _ _=>(Zaz 0 (by decide +kernel:List.Nodup (["number", "least", "most"]:List Str)))) (fun _ _ _=>ZbK) (fun _ _ _=>(Zak (Ze0 Z) hr ZbL (Za (Zac 0) (Za (Zac 1) (Za (Zac 2) Zaa))))))) Zaa))))))) rd_are_within
theorem ZbO:Fp P w K mg base 4 "need_numbers" ZfB ZaG:=mkp (z:=ZcN) (N:=Zd5) Z.f_need_numbers (fun sc _ _ _ _ _ _ _ hr hx hw=>(Zaf (ZbF (PXW.pxt (Zd0 (ZaP (ZaY (Zak (Zev Z) hr hx (Za (Zac 0) (Za (Zca Z.c_LEAST) (Za (Zca Z.c_MOST) Zaa)))))) (Zc5 (ZaP (ZdM o_le o_le Zae (Zal Zcn Z.b_len boot_len (Za (Zac 0) Zaa)) (Zac 1)))))) (Zaf (ZdL hw Z.x_NoRow)) Zar))) Zfv
theorem ok_first_with:Fp P w K mg base 1 "first_with" ps_first_with ZcL:=mkp (z:=ZcE) (N:=Ze5) Z.f_first_with (fun sc _ _ _ _ _ _ _ hr hx hw=>(Zad (ZcS (Zdw PassesOwn.never rfl (pxi_enum Z.b_enumerate (Za (Zac 0) Zaa)) (ZeR rfl (ZaT (Zaz 2 sc) (ZaT (Zaz 3 sc) ZdN))) (Zaf (ZbF (Zas (o_ne hr.units) (ZaJ i_ix (Zac 3) (Zac 1)) (px_gtupE Z.c_NOUGHT)) (Zaf (Zah (Zac 2))) Zar)))) (Zaf (Zah px_non)))) rd_first_with
theorem ZcV:Fp P w K mg base 1 "common_divisor" ZeT ZbI:=mkp (z:=Zcj) (N:=Zde) Z.f_common_divisor (fun sc _ _ _ _ _ _ _ hr hx hw=>(Zad (ZcS (pz_while PassesOwn.never (Zas (o_ne hr.units) (Zac 1) Zae) (Zaf (pz_par 0 1 sc (Za (Zac 1) (Za (Zao o_mod (Zac 0) (Zac 1)) Zaa)))))) (Zaf (Zah (Zal c_abs Z.b_abs boot_abs (Za (Zac 0) Zaa)))))) ZeP
theorem Zc6:Fp P w K mg base 2 "share_by" ps_share_by Zcp:=mkp (z:=ZeJ) (N:=N_share_by) Z.f_share_by (fun sc _ _ _ _ _ _ _ hr hx hw=>(Zad (pz_assert (Zas (o_ne hr.units) (Zac 1) Zae)) (Zad (ZaB 2 (Zak (ZcV Z) hr hx (Za (Zac 0) (Za (Zac 1) Zaa))) sc) (Zad (ZbF (Zas o_lt (Zac 1) Zae) (Zaf (ZaB 2 (px_un u_neg (Zac 2)) sc)) Zar) (Zaf (Zah (Zda (Za (Zao o_fdiv (Zac 0) (Zac 2)) (Za (Zao o_fdiv (Zac 1) (Zac 2)) Zaa))))))))) rd_share_by
theorem ok_by:Fp P w K mg base 3 "by" ps_by S_by:=mkp (z:=z_by) (N:=N_by) Z.f_by (fun sc _ _ _ _ _ _ _ hr hx hw=>(Zaf (Zah (Zak (Zc6 Z) hr hx (Za (Zao ZcW (ZaJ i_ix (Zac 0) Zae) (ZaJ i_ix (Zac 1) Zae)) (Za (Zao ZcW (ZaJ i_ix (Zac 0) Zae) (ZaJ i_ix (Zac 1) Zae)) Zaa)))))) rd_by
theorem ok_row_by:Fp P w K mg base 4 "row_by" ps_row_by Zfj:=mkp (z:=Zfe) (N:=N_row_by) Z.f_row_by (fun sc _ _ _ _ _ _ _ hr hx hw=>(Zaf (Zah (Zcb Zc9 Z.b_tuple boot_tuple (Za (PXL.px (Zcu ["part"] [1] rfl (Zcv (Zac 0)) (fun _ _ _=>(Zaz 0 (by decide +kernel:List.Nodup (["part", "share"]:List Str)))) (fun _ _ _=>ZbK) (fun _ _ _=>(Zak (ok_by Z) hr ZbL (Za (Zac 0) (Za (Zac 1) Zaa)))))) Zaa))))) rd_row_by
theorem ok_minus:Fp P w K mg base 3 "minus" ps_minus S_minus:=mkp (z:=z_minus) (N:=N_minus) Z.f_minus (fun sc _ _ _ _ _ _ _ hr hx hw=>(Zaf (Zah (Zak (Zc6 Z) hr hx (Za (Zao ZdX (Zao ZcW (ZaJ i_ix (Zac 0) Zae) (ZaJ i_ix (Zac 1) Zae)) (Zao ZcW (ZaJ i_ix (Zac 1) Zae) (ZaJ i_ix (Zac 0) Zae))) (Za (Zao ZcW (ZaJ i_ix (Zac 0) Zae) (ZaJ i_ix (Zac 1) Zae)) Zaa)))))) rd_minus
theorem ok_times:Fp P w K mg base 3 "times" ps_times ZdE:=mkp (z:=z_times) (N:=N_times) Z.f_times (fun sc _ _ _ _ _ _ _ hr hx hw=>(Zaf (Zah (Zak (Zc6 Z) hr hx (Za (Zao ZcW (ZaJ i_ix (Zac 0) Zae) (ZaJ i_ix (Zac 1) Zae)) (Za (Zao ZcW (ZaJ i_ix (Zac 0) Zae) (ZaJ i_ix (Zac 1) Zae)) Zaa)))))) rd_times
theorem ok_row_less:Fp P w K mg base 4 "row_less" ps_row_less ZdS:=mkp (z:=ZdJ) (N:=N_row_less) Z.f_row_less (fun sc _ _ _ _ _ _ _ hr hx hw=>(Zaf (Zah (Zcb Zc9 Z.b_tuple boot_tuple (Za (PXL.px (Zcu ["left", "right"] [1] rfl (pxi_zip Z.b_zip (Za (Zac 0) (Za (Zac 2) Zaa))) (fun _ _ _=>(ZeR rfl (ZaT (Zaz 0 (by decide +kernel:List.Nodup (["left", "right", "share"]:List Str))) (ZaT (Zaz 1 (by decide +kernel:List.Nodup (["left", "right", "share"]:List Str))) ZdN)))) (fun _ _ _=>ZbK) (fun _ _ _=>(Zak (ok_minus Z) hr ZbL (Za (Zac 0) (Za (Zak (ok_times Z) hr ZbL (Za (Zac 2) (Za (Zac 1) Zaa))) Zaa)))))) Zaa))))) rd_row_less
theorem Zdb:Fp P w K mg base 5 "without_place" Zfa Zbu:=mkp (z:=ZbN) (N:=ZdH) Z.f_without_place (fun sc _ _ _ _ _ _ _ hr hx hw=>(Zaf (Zah (PXL.px (Zcu ["row"] [1,2] rfl (Zcv (Zac 0)) (fun _ _ _=>(Zaz 0 (by decide +kernel:List.Nodup (["row", "lead", "place"]:List Str)))) (fun _ _ _=>ZbK) (fun _ _ _=>(Zak (ok_row_less Z) hr ZbL (Za (Zac 0) (Za (ZaJ i_ix (Zac 0) (Zac 2)) (Za (Zac 1) Zaa)))))))))) Ze9
theorem ok_cleared:Fp P w K mg base 6 "cleared" ps_cleared ZdG:=mkp (z:=Zek) (N:=N_cleared) Z.f_cleared (fun sc _ _ _ _ _ _ _ hr hx hw=>(Zad (ZaB 2 (PXL.px (Zct Zaa)) sc) (Zad (pz_own 3 (Zct Zaa) sc) (Zad (ZaB 4 (PXL.px (Zfz c_list Z.b_list boot_list (Za (Zac 0) Zaa))) sc) (Zad (ZcS (Zdw PassesOwn.never rfl (Zb8 Z.b_range (Za (Zac 1) Zaa)) (Zaz 5 sc) (Zad (ZaB 6 (Zak (ok_first_with Z) hr ZbL (Za (Zac 4) (Za (Zac 5) Zaa))) sc) (Zaf (ZbF (Zas o_isnot (Zac 6) px_non) (Zad (ZaB 7 (Zak (ok_row_by Z) hr ZbL (Za (ZaJ i_ix (Zac 4) (Zac 6)) (Za (ZaJ i_ix (ZaJ i_ix (Zac 4) (Zac 6)) (Zac 5)) Zaa))) sc) (Zad (ZaB 2 (Zao ZcD (Zak (Zdb Z) hr ZbL (Za (Zac 2) (Za (Zac 7) (Za (Zac 5) Zaa)))) (PXL.px (Zct (Za (Zac 7) Zaa)))) sc) (Zad (ZaB 4 (Zak (Zdb Z) hr ZbL (Za (Zao ZcD (ZcF (Zac 4) Zc (ZaK (Zac 6))) (ZcF (Zac 4) (ZaK (Zao ZcD (Zac 6) Zae)) Zc)) (Za (Zac 7) (Za (Zac 5) Zaa)))) sc) (Zaf (pz_append 3 (Zac 5)))))) Zar))))) (Zc4 3 (Zaf (Zah (Zda (Za (Zac 2) (Za (Zac 3) Zaa))))))))))) rd_cleared
theorem Zet:Fp P w K mg base 1 "row_of" ps_row_of ZcJ:=mkp (z:=z_row_of) (N:=N_row_of) Z.f_row_of (fun sc _ _ _ _ _ _ _ hr hx hw=>(Zaf (Zah (Zcb Zc9 Z.b_tuple boot_tuple (Za (PXL.px (Zcu ["number"] [] rfl (Zcv (Zac 0)) (fun _ _ _=>(Zaz 0 (by decide +kernel:List.Nodup (["number"]:List Str)))) (fun _ _ _=>ZbK) (fun _ _ _=>(Zda (Za (Zac 0) (Za Zae Zaa)))))) Zaa))))) rd_row_of
theorem ZcU:Fp P w K mg base 7 "rule_of_length" ZeS ZaU:=mkp (z:=Zci) (N:=Zdd) Z.f_rule_of_length (fun sc _ _ _ _ _ _ _ hr hx hw=>(Zad (ZaB 2 (Zak (Zet Z) hr hx (Za (Zac 0) Zaa)) sc) (Zad (pz_lc 3 ["place"] [1,2] rfl sc (ZcT Z.b_range (Za (Zac 1) (Za (Zal Zcn Z.b_len boot_len (Za (Zac 0) Zaa)) Zaa))) (fun _ _ _=>(Zaz 0 (by decide +kernel:List.Nodup (["place", "length", "shares"]:List Str)))) (fun _ _ _=>ZbK) (fun _ _ _=>(Zao ZcD (px_rev (ZcF (Zac 2) (ZaK (Zao ZdX (Zac 0) (Zac 1))) (ZaK (Zac 0)))) (Zda (Za (ZaJ i_ix (Zac 2) (Zac 0)) Zaa))))) (Zc4 3 (Zad (pz_asg (Zak (ok_cleared Z) hr hx (Za (Zac 3) (Za (Zao ZcD (Zac 1) Zae) Zaa))) (ZeR rfl (ZaT (Zaz 4 sc) (ZaT (Zaz 5 sc) ZdN)))) (Zad (ZbF (Zas o_in (Zac 1) (Zac 5)) (Zaf (Zah px_non)) Zar) (Zad (pz_own 6 (pxl_mul (PXL.px (Zct (Za (px_gtupE Z.c_NOUGHT) Zaa))) (Zac 1)) sc) (Zad (ZcS (Zdw PassesOwn.never rfl (pxi_zip Z.b_zip (Za (Zac 4) (Za (Zac 5) Zaa))) (ZeR rfl (ZaT (Zaz 7 sc) (ZaT (Zaz 8 sc) ZdN))) (Zaf (pz_item 6 (Zac 8) (ZaJ i_ix (Zac 7) (Zac 1)))))) (Zc4 6 (Zaf (Zah (Zcb Zc9 Z.b_tuple boot_tuple (Za (Zac 6) Zaa))))))))))))) ZeO
theorem Zeu:Fp P w K mg base 8 "least_rule" ps_least_rule Zcf:=mkp (z:=Zdp) (N:=Ze4) Z.f_least_rule (fun sc _ _ _ _ _ _ _ hr hx hw=>(Zad (ZeQ (Zak (ZbO Z) hr hx (Za (Zac 0) (Za (Zca Z.c_MOST_NUMBERS) Zaa)))) (Zad (ZaB 1 Zae sc) (Zad (ZaB 2 (Zak (ZcU Z) hr hx (Za (Zac 0) (Za (Zac 1) Zaa))) sc) (Zad (ZcS (pz_while PassesOwn.never (Zas o_is (Zac 2) px_non) (Zad (pz_aug 1 Zae sc) (Zaf (ZaB 2 (Zak (ZcU Z) hr ZbL (Za (Zac 0) (Za (Zac 1) Zaa))) sc))))) (Zaf (Zah (Zac 2)))))))) rd_least_rule
theorem ZbP:Fp P w K mg base 9 "least_length" ZfC Zay:=mkp (z:=ZcO) (N:=Zd6) Z.f_least_length (fun sc _ _ _ _ _ _ _ hr hx hw=>(Zaf (Zah (Zal Zcn Z.b_len boot_len (Za (Zak (Zeu Z) hr hx (Za (Zac 0) Zaa)) Zaa))))) Zfw
theorem ok_lengths_of:Fp P w K mg base 10 "lengths_of" ps_lengths_of ZcK:=mkp (z:=Zdo) (N:=Ze3) Z.f_lengths_of (fun sc _ _ _ _ _ _ _ hr hx hw=>(Zad (ZeQ (Zak (ZbO Z) hr hx (Za (Zac 0) (Za (Zca Z.c_MOST_NUMBERS) Zaa)))) (Zaf (Zah (PXL.px (Zcu ["many"] [0] rfl (ZcT Z.b_range (Za Zae (Za (Zao ZcD (Zal Zcn Z.b_len boot_len (Za (Zac 0) Zaa)) Zae) Zaa))) (fun _ _ _=>(Zaz 0 (by decide +kernel:List.Nodup (["many", "numbers"]:List Str)))) (fun _ _ _=>ZbK) (fun _ _ _=>(Zak (ZbP Z) hr ZbL (Za (ZcF (Zac 1) Zc (ZaK (Zac 0))) Zaa))))))))) rd_lengths_of
theorem Zcd:Fp P w K mg base 11 "_law_lengths_right" Zdx ZaD:=mkp (z:=ZbD) (N:=Zcl) Z.f__law_lengths_right (fun sc _ _ _ _ _ _ _ hr hx hw=>(Zad (ZaB 1 (Zao ZcD (PXL.px (Zct (Za Zae Zaa))) (Zak (ok_lengths_of Z) hr hx (Za (Zac 0) Zaa))) sc) (Zad (ZcS (Zdw PassesOwn.never rfl (ZcT Z.b_range (Za Zae (Za (Zal Zcn Z.b_len boot_len (Za (Zac 1) Zaa)) Zaa))) (Zaz 2 sc) (Zad (ZbF (Zas o_lt (ZaJ i_ix (Zac 1) (Zac 2)) (ZaJ i_ix (Zac 1) (Zao ZdX (Zac 2) Zae))) (Zaf (Zah ZdU)) Zar) (Zad (ZbF (PXW.pxt (Zfy (Zas o_gt (ZaJ i_ix (Zac 1) (Zac 2)) (ZaJ i_ix (Zac 1) (Zao ZdX (Zac 2) Zae))) (Zfh (Zas (o_ne hr.units) (Zao ZcD (ZaJ i_ix (Zac 1) (Zac 2)) (ZaJ i_ix (Zac 1) (Zao ZdX (Zac 2) Zae))) (Zac 2))))) (Zaf (Zah ZdU)) Zar) (Zaf (ZbF (Zas (o_ne hr.units) (ZaJ i_ix (Zac 1) (Zac 2)) (Zak (ZbP Z) hr ZbL (Za (ZcF (Zac 0) Zc (ZaK (Zac 2))) Zaa))) (Zaf (Zah ZdU)) Zar)))))) (Zaf (Zah (Zd1 (o_eq hr.units) (Zal Zcn Z.b_len boot_len (Za (Zac 1) Zaa)) (Zao ZcD (Zal Zcn Z.b_len boot_len (Za (Zac 0) Zaa)) Zae))))))) Zdv
theorem Ze1:Fp P w K mg base 1 "_law_next" ps__law_next ZcB:=mkp (z:=Zea) (N:=ZfP) Z.f__law_next (fun sc _ _ _ _ _ _ _ hr hx hw=>(Zad (ZaB 0 (Zao o_mod (Zao ZcD (Zac 0) Zae) Zae) sc) (Zaf (Zah (Zao o_mod (Zao ZcD (Zao ZcD (Zao ZcW (Zac 0) (Zac 0)) (Zao ZcW Zae (Zac 0))) Zae) Zae))))) rd__law_next
theorem ZaM:Fp P w K mg base 2 "_law_draw" ps__law_draw ZaC:=mkp (z:=Zeb) (N:=ZfQ) Z.f__law_draw (fun sc _ _ _ _ _ _ _ hr hx hw=>(Zad (ZbF (Zas (o_eq hr.units) (ZaJ i_pen (Zac 0) Zae) Zae) (Zad (ZaB 2 (Zao o_mod (ZaJ i_pen (Zac 0) Zae) (Zac 1)) sc) (Zad (pz_ink 0 0 (Zao o_fdiv (ZaJ i_pen (Zac 0) Zae) (Zac 1))) (Zaf (Zah (Zac 2))))) Zar) (Zad (pz_ink 0 2 (Zak (Ze1 Z) hr hx (Za (Zao ZcD (Zak (Ze1 Z) hr hx (Za (ZaJ i_pen (Zac 0) Zae) Zaa)) Zae) Zaa))) (Zaf (Zah (Zao o_mod (Zao o_fdiv (ZaJ i_pen (Zac 0) Zae) Zae) (Zac 1))))))) rd__law_draw
theorem Zex:Fp P w K mg base 3 "_law_numbers_of" Zes ZbB:=mkp (z:=Zbx) (N:=Zc0) Z.f__law_numbers_of (fun sc _ _ _ _ _ _ _ hr hx hw=>(Zad (ZaB 1 (Zao ZcD Zae (Zak (ZaM Z) hr hx (Za (Zac 0) (Za Zae Zaa)))) sc) (Zad (ZaB 2 (ZaJ i_ix (PXL.px (Zct (Za Zae (Za Zae (Za Zae Zaa))))) (Zak (ZaM Z) hr hx (Za (Zac 0) (Za Zae Zaa)))) sc) (Zad (pz_own 3 (Zcu ["_law_turn"] [0,2] rfl (Zb8 Z.b_range (Za (Zac 1) Zaa)) (fun _ _ _=>(Zaz 0 (by decide +kernel:List.Nodup (["_law_turn", "_law_pen", "_law_most"]:List Str)))) (fun _ _ _=>ZbK) (fun _ _ _=>(Zao ZdX (Zak (ZaM Z) hr ZbL (Za (Zac 1) (Za (Zao ZcD (Zao ZcW Zae (Zac 2)) Zae) Zaa))) (Zac 2)))) sc) (Zad (ZaB 4 (Zak (ZaM Z) hr hx (Za (Zac 0) (Za Zae Zaa))) sc) (Zad (ZaB 5 (Zao ZcD Zae (Zak (ZaM Z) hr hx (Za (Zac 0) (Za Zae Zaa)))) sc) (Zad (pz_own 6 (Zcu ["_law_turn"] [0] rfl (Zb8 Z.b_range (Za (Zac 5) Zaa)) (fun _ _ _=>(Zaz 0 (by decide +kernel:List.Nodup (["_law_turn", "_law_pen"]:List Str)))) (fun _ _ _=>ZbK) (fun _ _ _=>(Zao ZdX (Zak (ZaM Z) hr ZbL (Za (Zac 1) (Za Zae Zaa))) Zae))) sc) (Zc4 6 (Zad (ZbF (Zas o_gt (Zac 4) Zae) (Zc4 6 (Zaf (ZcS (Zdw PassesOwn.never rfl (ZcT Z.b_range (Za (Zac 5) (Za (Zac 1) Zaa))) (Zaz 7 sc) (Zc4 6 (Zad (ZaB 8 (px_bor 3 (Zal (c_sum rfl) Z.b_sum bootX_sum (Za (PXL.px (Zcu ["_law_k"] [3,6,7] rfl (Zb8 Z.b_range (Za (Zac 5) Zaa)) (fun _ _ _=>(Zaz 0 (by decide +kernel:List.Nodup (["_law_k", "_law_found", "_law_rule", "_law_place"]:List Str)))) (fun _ _ _=>ZbK) (fun _ _ _=>(Zao ZcW (ZaJ i_ix (Zac 2) (Zac 0)) (ZaJ i_ix (Zac 1) (Zao ZdX (Zao ZdX (Zac 3) Zae) (Zac 0))))))) Zaa))) sc) (Zaf (ZbF (ZdM o_le o_le (px_un u_neg Zae) (Zac 8) Zae) (Zaf (pz_item 3 (Zac 7) (Zac 8))) Zar)))))))) Zar) (Zad (ZbF (Zas (o_eq hr.units) (Zac 4) Zae) (Zaf (pz_own 3 (pxl_bor 3 (pxl_add (Zao ZcW (PXL.px (Zct (Za Zae Zaa))) (Zak (ZaM Z) hr hx (Za (Zac 0) (Za (Zac 1) Zaa)))) (Zac 3))) sc)) Zar) (Zad (ZbF (PXW.pxt (Zfy (Zas (o_eq hr.units) (Zac 4) Zae) (Zfh (Zas (o_eq hr.units) (Zak (ZaM Z) hr hx (Za (Zac 0) (Za Zae Zaa))) Zae)))) (Zaf (pz_item 3 (px_un u_neg Zae) (Zao ZdX (Zak (ZaM Z) hr hx (Za (Zac 0) (Za Zae Zaa))) Zae))) Zar) (Zc4 3 (Zaf (Zah (Zcb Zc9 Z.b_tuple boot_tuple (Za (ZcF (Zac 3) Zc (ZaK (Zac 1))) Zaa)))))))))))))))) Zep
theorem ok__law_pen_of:Fp P w K mg base 1 "_law_pen_of" ps__law_pen_of Zco:=mkp (z:=Zc3) (N:=ZeH) Z.f__law_pen_of (fun sc _ _ _ _ _ _ _ hr hx hw=>(Zad (ZaB 1 (Zal (c_max rfl) Z.b_max boot_max (Za (Zac 0) (Za (Zao ZdX Zae (Zac 0)) Zaa))) sc) (Zaf (Zah (px_pen (Zct (Za (Zac 1) (Za (Zcb c_int Z.b_int boot_int (Za (Zd1 o_ge (Zac 1) (Zao o_pow Zae Zae)) Zaa)) (Za (Zao o_mod (Zac 1) Zae) Zaa))))))))) rd__law_pen_of
theorem ZeU:Fp P w K mg base 1 "size_of" ps_size_of Zcy:=mkp (z:=Zfl) (N:=N_size_of) Z.f_size_of (fun sc _ _ _ _ _ _ _ hr hx hw=>(Zaf (Zah (Zao o_fdiv (Zao ZcD (Zal Zcn Z.b_len boot_len (Za (Zac 0) Zaa)) Zae) Zae)))) rd_size_of
theorem Zd2:Fp P w K mg base 4 "slants_good" ps_slants_good ZbA:=mkp (z:=Zc1) (N:=ZeF) Z.f_slants_good (fun sc _ _ _ _ _ _ _ hr hx hw=>(Zad (ZbF (PXW.pxt (Zd0 (ZaP (ZaY (Zak (Zev Z) hr hx (Za (Zac 0) (Za (Zca Z.c_LEAST) (Za (Zca Z.c_MOST) Zaa)))))) (Zc5 (Zas (o_eq hr.units) (Zao o_mod (Zal Zcn Z.b_len boot_len (Za (Zac 0) Zaa)) Zae) Zae)))) (Zaf (Zah ZdU)) Zar) (Zaf (Zah (Zd1 o_le (Zak (ZeU Z) hr hx (Za (Zac 0) Zaa)) (Zca Z.c_GREATEST_SIZE)))))) rd_slants_good
theorem ok_is_share:Fp P w K mg base 2 "is_share" ps_is_share ZeV:=mkp (z:=ZeM) (N:=N_is_share) Z.f_is_share (fun sc _ _ _ _ _ _ _ hr hx hw=>(Zad (ZbF (PXW.pxt (Zd0 (ZaP (ZaY (Zal ZeC Z.b_isinstance boot_isinstance (Za (Zac 0) (Za (px_bty Z.b_tuple boot_tuple) Zaa))))) (Zc5 (Zas (o_ne hr.units) (Zal Zcn Z.b_len boot_len (Za (Zac 0) Zaa)) Zae)))) (Zaf (Zah ZdU)) Zar) (Zad (pz_asg (Zac 0) (ZeR rfl (ZaT (Zaz 1 sc) (ZaT (Zaz 2 sc) ZdN)))) (Zad (ZbF (PXW.pxt (Zd0 (ZaP (ZaY (Zak (Zee Z) hr hx (Za (Zac 1) Zaa)))) (Zc5 (ZaP (ZaY (Zak (Zee Z) hr hx (Za (Zac 2) Zaa))))))) (Zaf (Zah ZdU)) Zar) (Zaf (Zah (px_and (Zd1 o_gt (Zac 2) Zae) (px_one (Zd1 (o_eq hr.units) (Zak (ZcV Z) hr hx (Za (Zac 1) (Za (Zac 2) Zaa))) Zae))))))))) rd_is_share
theorem Zdc:Fp P w K mg base 3 "is_row_within" Zfb Zbv:=mkp (z:=Zcq) (N:=ZdI) Z.f_is_row_within (fun sc _ _ _ _ _ _ _ hr hx hw=>(Zad (ZbF (PXW.pxt (Zd0 (ZaP (ZaY (Zal ZeC Z.b_isinstance boot_isinstance (Za (Zac 0) (Za (px_bty Z.b_tuple boot_tuple) Zaa))))) (Zc5 (ZaP (ZdM o_le o_le (Zac 1) (Zal Zcn Z.b_len boot_len (Za (Zac 0) Zaa)) (Zac 2)))))) (Zaf (Zah ZdU)) Zar) (Zaf (Zah (Zal (c_all rfl) Z.b_all boot_all (Za (PXL.px (Zcu ["part"] [] rfl (Zcv (Zac 0)) (fun _ _ _=>(Zaz 0 (by decide +kernel:List.Nodup (["part"]:List Str)))) (fun _ _ _=>ZbK) (fun _ _ _=>(Zak (ok_is_share Z) hr ZbL (Za (Zac 0) Zaa))))) Zaa)))))) Zf
theorem ok_is_row:Fp P w K mg base 4 "is_row" ps_is_row Zfk:=mkp (z:=z_is_row) (N:=N_is_row) Z.f_is_row (fun sc _ _ _ _ _ _ _ hr hx hw=>(Zaf (Zah (Zak (Zdc Z) hr hx (Za (Zac 0) (Za (Zac 1) (Za (Zac 1) Zaa))))))) rd_is_row
theorem Zd3:Fp P w K mg base 5 "need_slants" ps_need_slants ZaR:=mkp (z:=Zc2) (N:=ZeG) Z.f_need_slants (fun sc _ _ _ _ _ _ _ hr hx hw=>(Zaf (ZbF (ZaP (ZaY (Zak (Zd2 Z) hr hx (Za (Zac 0) Zaa)))) (Zaf (ZdL hw Z.x_NoSlants)) Zar))) rd_need_slants
theorem ok_row_good:Fp P w K mg base 6 "row_good" ps_row_good ZcY:=mkp (z:=ZeK) (N:=N_row_good) Z.f_row_good (fun sc _ _ _ _ _ _ _ hr hx hw=>(Zad (ZeQ (Zak (Zd3 Z) hr hx (Za (Zac 0) Zaa))) (Zaf (Zah (Zak (ok_is_row Z) hr hx (Za (Zac 1) (Za (Zak (ZeU Z) hr hx (Za (Zac 0) Zaa)) Zaa))))))) rd_row_good
theorem ok_table_of:Fp P w K mg base 6 "table_of" ps_table_of ZdR:=mkp (z:=ZeI) (N:=N_table_of) Z.f_table_of (fun sc _ _ _ _ _ _ _ hr hx hw=>(Zad (ZeQ (Zak (Zd3 Z) hr hx (Za (Zac 0) Zaa))) (Zad (ZaB 1 (Zak (ZeU Z) hr hx (Za (Zac 0) Zaa)) sc) (Zaf (Zah (PXL.px (Zcu ["i"] [0,1] rfl (Zb8 Z.b_range (Za (Zac 1) Zaa)) (fun _ _ _=>(Zaz 0 (by decide +kernel:List.Nodup (["i", "slants", "size"]:List Str)))) (fun _ _ _=>ZbK) (fun _ _ _=>(PXL.px (Zfz c_list Z.b_list boot_list (Za (ZcF (Zac 1) (ZaK (Zao ZdX (Zao ZdX (Zac 2) Zae) (Zac 0))) (ZaK (Zao ZdX (Zao ZdX (Zao ZcW Zae (Zac 2)) Zae) (Zac 0)))) Zaa))))))))))) rd_table_of
theorem ok_share_rows:Fp P w K mg base 7 "share_rows" ps_share_rows ZcI:=mkp (z:=Zdn) (N:=Ze2) Z.f_share_rows (fun sc _ _ _ _ _ _ _ hr hx hw=>(Zaf (Zah (PXL.px (Zcu ["numbers"] [] rfl (Zcv (Zak (ok_table_of Z) hr hx (Za (Zac 0) Zaa))) (fun _ _ _=>(Zaz 0 (by decide +kernel:List.Nodup (["numbers"]:List Str)))) (fun _ _ _=>ZbK) (fun _ _ _=>(Zak (Zet Z) hr ZbL (Za (Zac 0) Zaa)))))))) rd_share_rows
theorem ok_plus:Fp P w K mg base 3 "plus" ps_plus S_plus:=mkp (z:=z_plus) (N:=N_plus) Z.f_plus (fun sc _ _ _ _ _ _ _ hr hx hw=>(Zaf (Zah (Zak (Zc6 Z) hr hx (Za (Zao ZcD (Zao ZcW (ZaJ i_ix (Zac 0) Zae) (ZaJ i_ix (Zac 1) Zae)) (Zao ZcW (ZaJ i_ix (Zac 1) Zae) (ZaJ i_ix (Zac 0) Zae))) (Za (Zao ZcW (ZaJ i_ix (Zac 0) Zae) (ZaJ i_ix (Zac 1) Zae)) Zaa)))))) rd_plus
theorem ZcG:Fp P w K mg base 4 "sum_of_products" Zer Zax:=mkp (z:=ZaH) (N:=ZbC) Z.f_sum_of_products (fun sc _ _ _ _ _ _ _ hr hx hw=>(Zad (ZaB 2 (px_gtupE Z.c_NOUGHT) sc) (Zad (ZcS (Zdw PassesOwn.never rfl (pxi_zip Z.b_zip (Za (Zac 0) (Za (Zac 1) Zaa))) (ZeR rfl (ZaT (Zaz 3 sc) (ZaT (Zaz 4 sc) ZdN))) (Zaf (ZaB 2 (Zak (ok_plus Z) hr ZbL (Za (Zac 2) (Za (Zak (ok_times Z) hr ZbL (Za (Zac 3) (Za (Zac 4) Zaa))) Zaa))) sc)))) (Zaf (Zah (Zac 2)))))) rd_sum_of_products
theorem ok_times_row:Fp P w K mg base 8 "times_row" ps_times_row Zcx:=mkp (z:=Zd8) (N:=ZfM) Z.f_times_row (fun sc _ _ _ _ _ _ _ hr hx hw=>(Zad (ZbF (ZaP (ZaY (Zak (ok_row_good Z) hr hx (Za (Zac 0) (Za (Zac 1) Zaa))))) (Zaf (ZdL hw Z.x_NoRow)) Zar) (Zaf (Zah (Zcb Zc9 Z.b_tuple boot_tuple (Za (PXL.px (Zcu ["line"] [1] rfl (Zcv (Zak (ok_share_rows Z) hr hx (Za (Zac 0) Zaa))) (fun _ _ _=>(Zaz 0 (by decide +kernel:List.Nodup (["line", "row"]:List Str)))) (fun _ _ _=>ZbK) (fun _ _ _=>(Zak (ZcG Z) hr ZbL (Za (Zac 0) (Za (Zac 1) Zaa)))))) Zaa)))))) rd_times_row
theorem ZdW:Fp P w K mg base 9 "_law_slants_right" ZdV ZaS:=mkp (z:=ZbJ) (N:=ZcC) Z.f__law_slants_right (fun sc _ _ _ _ _ _ _ hr hx hw=>(Zad (ZaB 2 (Zal Zcn Z.b_len boot_len (Za (Zac 1) Zaa)) sc) (Zad (ZcS (Zdw PassesOwn.never rfl (Zb8 Z.b_range (Za (Zao ZcD (Zao ZdX (Zal Zcn Z.b_len boot_len (Za (Zac 0) Zaa)) (Zao ZcW Zae (Zac 2))) Zae) Zaa)) (Zaz 3 sc) (Zad (ZaB 4 (ZcF (Zac 0) (ZaK (Zac 3)) (ZaK (Zao ZcD (Zac 3) (Zao ZcW Zae (Zac 2))))) sc) (Zaf (ZbF (Zas o_gt (Zac 2) Zae) (Zad (ZbF (ZaP (ZaY (Zak (Zd2 Z) hr ZbL (Za (ZcF (Zac 4) Zc (ZaK (px_un u_neg Zae))) Zaa)))) (Zaf (Zah ZdU)) Zar) (Zad (ZaB 5 (Zak (ok_times_row Z) hr ZbL (Za (ZcF (Zac 4) Zc (ZaK (px_un u_neg Zae))) (Za (px_rev (Zac 1)) Zaa))) sc) (Zaf (ZbF (Zas (o_ne hr.units) (Zac 5) (Zcb Zc9 Z.b_tuple boot_tuple (Za (PXL.px (Zcu ["_law_number"] [] rfl (Zcv (px_rev (ZcF (Zac 4) (ZaK (Zac 2)) Zc))) (fun _ _ _=>(Zaz 0 (by decide +kernel:List.Nodup (["_law_number"]:List Str)))) (fun _ _ _=>ZbK) (fun _ _ _=>(Zda (Za (Zac 0) (Za Zae Zaa)))))) Zaa))) (Zaf (Zah ZdU)) Zar)))) Zar))))) (Zaf (Zah ZdU))))) ZdT
theorem ok_is_rule:Fp P w K mg base 4 "is_rule" ps_is_rule ZdF:=mkp (z:=Zfm) (N:=N_is_rule) Z.f_is_rule (fun sc _ _ _ _ _ _ _ hr hx hw=>(Zaf (Zah (Zak (Zdc Z) hr hx (Za (Zac 1) (Za Zae (Za (Zal Zcn Z.b_len boot_len (Za (Zac 0) Zaa)) Zaa))))))) rd_is_rule
theorem Zdz:Fp P w K mg base 5 "share_behind" ZfA ZaF:=mkp (z:=ZcM) (N:=Zd4) Z.f_share_behind (fun sc _ _ _ _ _ _ _ hr hx hw=>(Zaf (Zah (Zak (ZcG Z) hr hx (Za (Zac 1) (Za (px_rev (Zac 0)) Zaa)))))) Zfu
theorem ZeZ:Fp P w K mg base 6 "missed_by" ps_missed_by Zcz:=mkp (z:=Zd9) (N:=ZfN) Z.f_missed_by (fun sc _ _ _ _ _ _ _ hr hx hw=>(Zad (ZeQ (Zak (ZbO Z) hr hx (Za (Zac 0) (Za (Zca Z.c_MOST_NUMBERS) Zaa)))) (Zad (ZbF (ZaP (ZaY (Zak (ok_is_rule Z) hr hx (Za (Zac 0) (Za (Zac 1) Zaa))))) (Zaf (ZdL hw Z.x_NoRow)) Zar) (Zad (ZaB 2 (Zak (Zet Z) hr hx (Za (Zac 0) Zaa)) sc) (Zaf (Zah (PXL.px (Zcu ["place"] [1,2] rfl (ZcT Z.b_range (Za (Zal Zcn Z.b_len boot_len (Za (Zac 1) Zaa)) (Za (Zal Zcn Z.b_len boot_len (Za (Zac 0) Zaa)) Zaa))) (fun _ _ _=>(Zaz 0 (by decide +kernel:List.Nodup (["place", "rule", "shares"]:List Str)))) (fun _ _ _=>(pxf_one (Zas (o_ne hr.units) (Zak (Zdz Z) hr ZbL (Za (ZcF (Zac 2) Zc (ZaK (Zac 0))) (Za (Zac 1) Zaa))) (ZaJ i_ix (Zac 2) (Zac 0))))) (fun _ _ _=>(Zac 0)))))))))) rd_missed_by
theorem ZdO:Fp P w K mg base 7 "follows" ps_follows Zbw:=mkp (z:=Zfp) (N:=N_follows) Z.f_follows (fun sc _ _ _ _ _ _ _ hr hx hw=>(Zad (ZeQ (Zak (ZbO Z) hr hx (Za (Zac 0) (Za (Zca Z.c_MOST_NUMBERS) Zaa)))) (Zaf (Zah (px_and (Zak (ok_is_rule Z) hr hx (Za (Zac 0) (Za (Zac 1) Zaa))) (px_one (Zd1 (o_eq hr.units) (Zal Zcn Z.b_len boot_len (Za (Zak (ZeZ Z) hr hx (Za (Zac 0) (Za (Zac 1) Zaa))) Zaa)) Zae))))))) rd_follows
theorem ok_gone_on:Fp P w K mg base 8 "gone_on" ps_gone_on ZeE:=mkp (z:=Zfo) (N:=N_gone_on) Z.f_gone_on (fun sc _ _ _ _ _ _ _ hr hx hw=>(Zad (ZbF (ZaP (ZaY (Zak (ZdO Z) hr hx (Za (Zac 0) (Za (Zac 1) Zaa))))) (Zaf (ZdL hw Z.x_NoRow)) Zar) (Zad (ZbF (ZaP (ZaY (Zak (Ze0 Z) hr hx (Za (Zac 2) (Za Zae (Za (Zca Z.c_MOST_GONE_ON) Zaa)))))) (Zaf (ZdL hw Z.x_NoNumber)) Zar) (Zad (ZaB 3 (Zak (Zet Z) hr hx (Za (Zac 0) Zaa)) sc) (Zad (ZcS (Zdw PassesOwn.never rfl (Zb8 Z.b_range (Za (Zac 2) Zaa)) (Zaz 4 sc) (Zaf (ZaB 3 (Zao ZcD (Zac 3) (Zda (Za (Zak (Zdz Z) hr ZbL (Za (Zac 3) (Za (Zac 1) Zaa))) Zaa))) sc)))) (Zaf (Zah (ZcF (Zac 3) (ZaK (Zal Zcn Z.b_len boot_len (Za (Zac 0) Zaa))) Zc)))))))) rd_gone_on
theorem ok_is_only:Fp P w K mg base 10 "is_only" ps_is_only ZeD:=mkp (z:=Zfn) (N:=N_is_only) Z.f_is_only (fun sc _ _ _ _ _ _ _ hr hx hw=>(Zaf (Zah (Zd1 o_le (Zao ZcW Zae (Zak (ZbP Z) hr hx (Za (Zac 0) Zaa))) (Zal Zcn Z.b_len boot_len (Za (Zac 0) Zaa)))))) rd_is_only
theorem Zew:Fp P w K mg base 11 "_law_right" ps__law_right Zch:=mkp (z:=Zdr) (N:=Ze7) Z.f__law_right (fun sc _ _ _ _ _ _ _ hr hx hw=>(Zad (ZaB 1 (Zak (Zeu Z) hr hx (Za (Zac 0) Zaa)) sc) (Zad (ZaB 2 (Zak (ZbP Z) hr hx (Za (Zac 0) Zaa)) sc) (Zad (ZbF (PXW.pxt (Zd0 (Zas (o_ne hr.units) (Zal Zcn Z.b_len boot_len (Za (Zac 1) Zaa)) (Zac 2)) (Zd0 (ZaP (ZaY (Zak (ZdO Z) hr hx (Za (Zac 0) (Za (Zac 1) Zaa))))) (Zc5 (Zas (o_ne hr.units) (Zak (ZeZ Z) hr hx (Za (Zac 0) (Za (Zac 1) Zaa))) (PXL.px (Zct Zaa))))))) (Zaf (Zah ZdU)) Zar) (Zad (ZbF (PXW.pxt (Zd0 (Zas (o_ne hr.units) (Zak (ok_is_only Z) hr hx (Za (Zac 0) Zaa)) (Zd1 o_le (Zao ZcW Zae (Zac 2)) (Zal Zcn Z.b_len boot_len (Za (Zac 0) Zaa)))) (Zc5 (Zas (o_ne hr.units) (Zd1 (o_eq hr.units) (Zac 2) Zae) (Zd1 (o_eq hr.units) (Zac 0) (Zao o_mulT (Zda (Za Zae Zaa)) (Zal Zcn Z.b_len boot_len (Za (Zac 0) Zaa)))))))) (Zaf (Zah ZdU)) Zar) (Zad (ZbF (PXW.pxt (Zfy (Zas o_lt (Zac 2) Zae) (Zfh (ZaP (ZaY (Zak (ZdW Z) hr hx (Za (Zac 0) (Za (Zac 1) Zaa)))))))) (Zaf (Zah ZdU)) Zar) (Zad (ZaB 3 (Zak (ok_gone_on Z) hr hx (Za (Zac 0) (Za (Zac 1) (Za Zae Zaa)))) sc) (Zad (pz_own 4 (Zfz c_list Z.b_list boot_list (Za (Zac 0) Zaa)) sc) (Zad (ZcS (Zdw PassesOwn.never rfl (Zcv (Zac 3)) (Zaz 5 sc) (Zaf (ZbF (pxt_bor 4 (PXW.pxt (Zfy (Zas (o_eq hr.units) (ZaJ i_ix (Zac 5) Zae) Zae) (Zfy (ZdM o_le o_le (px_un u_neg Zae) (ZaJ i_ix (Zac 5) Zae) Zae) (Zfh (Zas o_lt (Zal Zcn Z.b_len boot_len (Za (Zac 4) Zaa)) Zae)))))) (Zaf (pz_append 4 (ZaJ i_ix (Zac 5) Zae))) (Zc4 4 (Zaf (Zah (Zak (ZdO Z) hr ZbL (Za (Zcb Zc9 Z.b_tuple boot_tuple (Za (Zac 4) Zaa)) (Za (Zac 1) Zaa)))))))))) (Zc4 4 (Zaf (Zah (Zak (ZdO Z) hr hx (Za (Zcb Zc9 Z.b_tuple boot_tuple (Za (Zac 4) Zaa)) (Za (Zac 1) Zaa))))))))))))))) rd__law_right
theorem all_mk {l:PySem.W.OpenLaw} {fa:Addr} (hfa:mg "law" = some (.ref fa)):∃ fd:FuncData,(∀ (s:Shared) (v:Value),BindsTo s fd ⟨[v],[]⟩ [("_law_script",v)])∧∀ base:Heap,K.In base→base.Ns mainGlobals mg→FnOk l.prog w K mg base (CXv l.prog w) 12 fa fd ["_law_script"] (spOf K S_law):=
  mkl (z:=z_law) (N:=N_law) Z.f_law hfa (fun _ sc _ _ _ _ _ _ _ hr hx hw=>(Zad (ZcS (Zdw PassesOwn.never rfl (Zcv (PXL.px (Zct (Za (Zda (Za Zae Zaa)) (Za (Zda (Za Zae Zaa)) (Za (Zda (Za Zae (Za Zae (Za Zae (Za Zae (Za Zae (Za Zae Zaa))))))) (Za (Zda (Za Zae (Za Zae (Za Zae (Za Zae Zaa))))) (Za (Zao o_mulT (Zda (Za Zae (Za (px_un u_neg Zae) Zaa))) Zae) Zaa)))))))) (Zaz 1 sc) (Zaf (ZbF (PXW.pxt (Zd0 (ZaP (ZaY (Zak (Zew Z) hr ZbL (Za (Zac 1) Zaa)))) (Zc5 (ZaP (ZaY (Zak (Zcd Z) hr ZbL (Za (Zac 1) Zaa))))))) (Zaf (Zah ZdU)) Zar)))) (Zad (ZcS (Zdw PassesOwn.never rfl (Zcv (Zao ZcD (PXL.px (Zct (Za (Zak (ZfF Z) hr ZbL (Za (Zac 0) (Za Zae Zaa))) Zaa))) (ZcF (Zac 0) (ZaK Zae) (ZaK Zae)))) (Zaz 2 sc) (Zad (ZaB 1 (Zak (Zex Z) hr ZbL (Za (Zak (ok__law_pen_of Z) hr ZbL (Za (Zac 2) Zaa)) Zaa)) sc) (Zaf (ZbF (PXW.pxt (Zd0 (ZaP (ZaY (Zak (Zew Z) hr ZbL (Za (Zac 1) Zaa)))) (Zc5 (ZaP (ZaY (Zak (Zcd Z) hr ZbL (Za (Zac 1) Zaa))))))) (Zaf (Zah ZdU)) Zar))))) (Zaf (Zah ZdU))))) rd_law
end
theorem walk {l:PySem.W.OpenLaw} {q:Program} {loose:List Str} {XP:(Str→Option Value)→Heap→Prop} {YP:World→Heap→Prop} {d:DefRec} {K:Params→PySem.W.Frag} (hn:l.most=some 63) (hdf:d.params.defaults=[])
    (hY:∀ (w:World) (h:Heap),YP w h→(K w.params).In h)
    (F:∀ (w:World) (mg:Str→Option Value) (fa:Addr) (h:Heap),(K w.params).In h→h.Ns mainGlobals mg→mg d.name=some (.ref fa)→
      ∃ fd:FuncData,(∀ (s:Shared) (u:Value),BindsTo s fd ⟨[u],[]⟩ [("_law_script",u)])∧∀ base:Heap,(K w.params).In base→base.Ns mainGlobals mg→FnOk l.prog w (K w.params) mg base (CXv l.prog w) 12 fa fd ["_law_script"] (spOf (K w.params) S_law)) :
    PySem.W.WalkO q loose XP YP l.row.toRowW d [] (fun f vs=>PySem.call f vs):=
  L2.walk_of (n:=63) (k:=12) (x:= "_law_script") (CX:=fun w=>CXv l.prog w) (sp:=fun w=>spOf (K w.params) S_law) hn (by decide) hdf ⟨rfl,rfl,by decide,by decide⟩ hY F (fun _ _ a ns hl hO hS=>law_start hl hO hS) fun _ _ _ _ _ ⟨_,_,_,_,_,_,_,_,_,_,_,_,_,z⟩=>z
end B.C.K4.K5.K7
end LP
namespace PySem.W.Fast
def tw2263050693824467300:=0
def tw10570639586423786560:=0
def tw15523988918978041952:=0
def tw15955665810460455040:=0
def tw14309425166955492512:=0
def tw11278371894017138912:=0
def tw10485364028415774432:=0
def tw1318679366240156384:=0
def tw8621647331975315168:=0
def tw17771193368211274528:=0
def tw2976487770664941376:=0
def tw5976923655978131328:=0
def tw7250983720786981824:=0
def tw18158214711674816929:=0
def tw16059989220998535713:=0
def tw16539670816944202433:=0
def tw1227360440410082017:=0
def tw8187111505460351905:=0
def tw8165827680916850754:=0
def tw4551683257731420482:=0
def tw8270084605527544130:=0
def tw13854597677988757922:=0
def tw2519782026721136066:=0
def tw13725934269332086274:=0
def tw1355683570254068642:=0
def tw7581723217840306146:=0
def tw12260196085528756387:=0
def tw3192803082873471203:=0
def tw4572940559310154115:=0
def tw13227721146476098979:=0
def tw11618693045150980643:=0
def tw974552809415779971:=0
def tw10011769408267633347:=0
def tw14092971225084133059:=0
def tw6841043708028325603:=0
def tw7452601769110012707:=0
def tw7863826425645294403:=0
def tw10552104750444708803:=0
def tw6750307353484240964:=0
def tw1821461999112337476:=0
def tw11762336774150497380:=0
def tw6779779794587238532:=0
def tw9364850340888687780:=0
def tw1930581708839261380:=0
def tw6213828536350291172:=0
def tw7825712052997557572:=0
def tw13060841570511947204:=0
def tw15949611859297581636:=0
def tw2232970006423504484:=0
def tw859996187089456772:=0
def tw14932525286618655364:=0
def tw14950184419966847812:=0
def tw3105539190304833412:=0
def tw17347921251894500324:=0
def tw3769180250622191588:=0
def tw1150345928473068549:=0
def tw5036144338310444165:=0
def tw2145822234347875493:=0
def tw17898864636048368805:=0
def tw15313023847070730501:=0
def tw6059242871681092869:=0
def tw5927615153346016517:=0
def tw15877941897621395781:=0
def tw16732264390564837733:=0
def tw5752402037943201221:=0
def tw15391974802739779141:=0
def tw651428827361113669:=0
def tw16308162222854519461:=0
def tw9083673771833139973:=0
def tw4320092294338841381:=0
def tw17333126412556400421:=0
def tw11068456890957724581:=0
def tw15487150902368847781:=0
def tw12729223074981158853:=0
def tw15984748617098849221:=0
def tw9463031064901827750:=0
def tw4232222951925235910:=0
def tw6015810259179755750:=0
def tw4671207440750750054:=0
def tw14102054674782388774:=0
def tw3439281170648934022:=0
def tw567557503831454374:=0
def tw7474773326879224646:=0
def tw13339039987231112199:=0
def tw3698735313001233479:=0
def tw5788487596496797767:=0
def tw16143712495757254759:=0
def tw806853426556730599:=0
def tw3426002148271071527:=0
def tw3709373990348331367:=0
def tw9985783417690554759:=0
def tw778750686416225767:=0
def tw154270136744179175:=0
def tw18043737286245263879:=0
def tw6148859413586439687:=0
def tw9864890492638034631:=0
def tw4784941261958700935:=0
def tw575803887680220071:=0
def tw15592789982806871080:=0
def tw17353695387070387368:=0
def tw3056932102142646472:=0
def tw4888697751370464488:=0
def tw276453988528391560:=0
def tw3484505074019373448:=0
def tw9035757240633436808:=0
def tw8872179613932479112:=0
def tw8464613675597210280:=0
def tw5179668897359701992:=0
def tw15570268440974312489:=0
def tw1532769762302512297:=0
def tw9843575790307931305:=0
def tw14939800563706583433:=0
def tw11409831894760681065:=0
def tw7315984907715168073:=0
def tw10563376825439991721:=0
def tw3831384313532923946:=0
def tw1200800194510702794:=0
def tw295122317899886794:=0
def tw4545880037862271338:=0
def tw6698523992605503978:=0
def tw6569788580394597002:=0
def tw12208654184356567722:=0
def tw2877688900645135114:=0
def tw9722770508719534858:=0
def tw9732446886649984970:=0
def tw9870864144840380394:=0
def tw13694058860444119083:=0
def tw7226513057867179083:=0
def tw18156865461937852555:=0
def tw9356880758514265323:=0
def tw3320498510707072267:=0
def tw451107928785990091:=0
def tw8569373078485725067:=0
def tw9285261703055267755:=0
def tw3371431073715582988:=0
def tw11210217512021616716:=0
def tw7859386433692750028:=0
def tw6814357536219584748:=0
def tw12139390451962827020:=0
def tw2497515169822530828:=0
def tw12239204491409429836:=0
def tw6596128536197085580:=0
def tw1943546428925360620:=0
def tw12107135071522076204:=0
def tw13681111269342901836:=0
def tw18422696548925288076:=0
def tw15847375912673754924:=0
def tw3806213005630108492:=0
def tw4785135714118976428:=0
def tw10143519614314812429:=0
def tw10965066164326841677:=0
def tw12014167086630829581:=0
def tw7934893061883076141:=0
def tw7536837547236267693:=0
def tw2425407785514797773:=0
def tw8287710246926581453:=0
def tw4875091943211600685:=0
def tw9721911834906808205:=0
def tw6578200544234340237:=0
def tw14906473434458180525:=0
def tw9259480559351553005:=0
def tw7787762791865592910:=0
def tw9047251639725764782:=0
def tw9228673367663427886:=0
def tw14499568490173563246:=0
def tw6189737104456878478:=0
def tw8326858750240150990:=0
def tw17236969832249472494:=0
def tw4147969313618183694:=0
def tw16455595140227686926:=0
def tw1923795872842301006:=0
def tw8347932319614211918:=0
def tw11869810939138622318:=0
def tw5012197450979044238:=0
def tw11131466350792762286:=0
def tw9049446948569405390:=0
def tw15959311785507446734:=0
def tw7785868307798099950:=0
def tw8719278001943024815:=0
def tw4365820930257774799:=0
def tw3359402832093490479:=0
def tw2875072740084611375:=0
def tw10261752168883800399:=0
def tw2806054657364848111:=0
def tw5060928535659167631:=0
def tw13434231069150323728:=0
def tw11092372001520337968:=0
def tw17129996288021689424:=0
def tw10604869161171181712:=0
def tw12196294685307626704:=0
def tw14245607806031277424:=0
def tw14822891848347895184:=0
def tw14763197256425168400:=0
def tw12158347135513334448:=0
def tw9630374298189724400:=0
def tw13244244216622717776:=0
def tw17861741431735582608:=0
def tw17176029730066460592:=0
def tw13459566006747011024:=0
def tw8175064772356522097:=0
def tw2911834862034198737:=0
def tw13364313330284582129:=0
def tw11235234122719623793:=0
def tw6572488352419054353:=0
def tw14276474378738338641:=0
def tw7892715695997344593:=0
def tw12243633523525127057:=0
def tw352523287528453009:=0
def tw8709793651340505106:=0
def tw6222998977165357106:=0
def tw18422378549068216594:=0
def tw4846456099454375282:=0
def tw13446841033795798482:=0
def tw16257231710755456562:=0
def tw15503480325470259762:=0
def tw6233028219721946930:=0
def tw9706454936975378258:=0
def tw5884816890488723314:=0
def tw8051489134570109810:=0
def tw14623688584395250610:=0
def tw5965668761473507347:=0
def tw16552320219530559539:=0
def tw4947440734541641811:=0
def tw14699473737518554259:=0
def tw2878256910005091539:=0
def tw6663369146375598291:=0
def tw12610465349596516627:=0
def tw3208575796289397043:=0
def tw18225189954889193811:=0
def tw8993080140304787891:=0
def tw6008603036302704083:=0
def tw7609023777973996051:=0
def tw8179944417869719187:=0
def tw4521282692055889555:=0
def tw2524843547451280051:=0
def tw4095878490152771283:=0
def tw16199041848100760339:=0
def tw11432988940338732883:=0
def tw3361664454874525587:=0
def tw8390716376991665300:=0
def tw12451646987318990996:=0
def tw9339250599272450356:=0
def tw16324091445944879444:=0
def tw11627711147468328340:=0
def tw440857866432695732:=0
def tw1583270785724211700:=0
def tw10593509529703230996:=0
def tw3915452078359268052:=0
def tw4435970891254075188:=0
def tw16247818430790947700:=0
def tw17216848913512292244:=0
def tw4862025230341500884:=0
def tw17216804450919498837:=0
def tw4616968275604418805:=0
def tw7280069505012724053:=0
def tw6404032419780676053:=0
def tw6351978465040016885:=0
def tw1250777829303391797:=0
def tw4252780022230936213:=0
def tw9888025036310970165:=0
def tw7823307549260290037:=0
def tw15262234152196568053:=0
def tw893868534810177558:=0
def tw2427859357525378198:=0
def tw1351991791921199414:=0
def tw18112988872902082006:=0
def tw8856076765904118358:=0
def tw2961028394416436822:=0
def tw14582834364090411766:=0
def tw785392181508259638:=0
def tw5263181731327477622:=0
def tw1889669200687854518:=0
def tw13969659670851262454:=0
def tw1715426424348166134:=0
def tw5349790939425878135:=0
def tw11775909173833186423:=0
def tw16330950447289322615:=0
def tw15096534977286731031:=0
def tw1912923591689303415:=0
def tw5435857970755785175:=0
def tw9889205747875163639:=0
def tw15289508077826870871:=0
def tw11542520189172867671:=0
def tw13655380550370344727:=0
def tw4312901825970095063:=0
def tw14594570587949202552:=0
def tw3943938453137607000:=0
def tw3786903393993484632:=0
def tw9512789440473018808:=0
def tw15427102041711488632:=0
def tw7284567899211986584:=0
def tw15738181668478511832:=0
def tw5412767781178516248:=0
def tw10913085933470320472:=0
def tw4920210939232035832:=0
def tw11119294405324011512:=0
def tw16853078094589876281:=0
def tw4394567973922367705:=0
def tw16996302626576500025:=0
def tw11721650094128105785:=0
def tw693419197544019257:=0
def tw3233146820002635097:=0
def tw4212471934162290073:=0
def tw3318782023337355705:=0
def tw17973022073861089753:=0
def tw16361923126392860345:=0
def tw8003832877286482681:=0
def tw13237856216545487609:=0
def tw5701674504692410233:=0
def tw13888096915507107737:=0
def tw35325829388630937:=0
def tw5028999127372499897:=0
def tw1092859650564827065:=0
def tw403061489336611769:=0
def tw10555056656396824537:=0
def tw7713149930229838809:=0
def tw8352867130452116730:=0
def tw3595194567014900090:=0
def tw4105266342176626202:=0
def tw12465999469810786906:=0
def tw8764886368825053818:=0
def tw4703701071407080282:=0
def tw8262669041876294650:=0
def tw16839575686493394971:=0
def tw1704011663426920571:=0
def tw17074613174643858587:=0
def tw7085725899876401467:=0
def tw10186648850600664379:=0
def tw6102319712807611803:=0
def tw12519394758172687867:=0
def tw621872350221090427:=0
def tw16378286635732430459:=0
def tw1995441258518892187:=0
def tw4176412402241286875:=0
def tw13407955480635898683:=0
def tw5180630537196314619:=0
def tw2991518530216442108:=0
def tw1366176008070624572:=0
def tw16505572448642227548:=0
def tw11056752975345140092:=0
def tw8921919729503663484:=0
def tw11606424164395354524:=0
def tw218165862323232220:=0
def tw4851597512349989340:=0
def tw5733781962350673468:=0
def tw2137244506236681820:=0
def tw9615618710026697436:=0
def tw15969879405557428060:=0
def tw3139295126315004860:=0
def tw1476961829637080028:=0
def tw16184320395809999836:=0
def tw8800682123873999069:=0
def tw8331770042682250493:=0
def tw6100162185340321053:=0
def tw1043058009002965309:=0
def tw14761637368300613981:=0
def tw602928645422515613:=0
def tw7202699069214728637:=0
def tw3694292290454256061:=0
def tw15474459295398680061:=0
def tw1147522366447903261:=0
def tw4862216792532461181:=0
def tw15531275356491096797:=0
def tw3835563290571891421:=0
def tw1522707955715894173:=0
def tw13607247634721331230:=0
def tw18370550005644832030:=0
def tw7813378011759628638:=0
def tw9230160337100828030:=0
def tw12078288561557078462:=0
def tw12169127562820083326:=0
def tw15356715444710226622:=0
def tw8609646956816815998:=0
def tw8374576274665322494:=0
def tw12516822241833632895:=0
def tw4962980791437169823:=0
def tw17453184839748329663:=0
def tw10815800564216445151:=0
def tw10191554959555101279:=0
def tw7383128924248603295:=0
def tw18320301255201556159:=0
def tw18252695468481451711:=0
def tw8459594716556031807:=0
def tw4631107257687452511:=0
def tw5928169294450501535:=0
end PySem.W.Fast
open PySem PySem.W PyProof.Rows
set_option maxRecDepth 100000 in
set_option maxHeartbeats 0 in
theorem PySem.Challenge.cw_slanttables_k57_whole_foretold_holds : PySem.Challenge.rw_slanttables_k57_whole_foretold.Holds := by
  w_on;o_law;k_head;(case hw=>w_witness2)
  k_fill
  refine LP.B.C.K4.K5.K7.walk (l:=PySem.Challenge.rw_slanttables_k57_whole_foretold) rfl rfl (fun w h Y=>PySem.W.kIn_of Y) ?F
  case F=>
    intro w mg fa h KX G hmg
    refine LP.B.C.K4.K5.K7.all_mk ?_ hmg
    constructor
    all_goals first
      | (refine' LP.mkF KX G ?a ?l ?c ?k;(case a=>k_is);(case l=>k_is);(case c=>k_is);(case k=>k_is))
      | (refine' mg_none_of KX G ?a;case a=>k_is)
      | (refine' LP.mkI KX G ?a;case a=>k_is)
      | (refine' LP.mkT KX G ?a ?l;(case a=>k_is);(case l=>k_is))
      | (refine' LP.mkX KX G ?a ?e;(case a=>k_is);(case e=>k_exc))
