import PyProof.Rows.All
import Wide.All
import OpenK.AllK
import Wide.FinOn
import Lean
import PyProof.EqAt
import PyProof.EqKinds
import PyProof.TupleCall
import PyProof.ZipIter
import PyProof.NeData
import PyProof.P3Eq
import PyProof.EnumFor
import PyProof.EnumMake
import PyProof.Draws
import KE.KTryMore
import KE.KIsAll
import PyProof.ExcAttrAll.ValueError
import KE.KLam
import PySem.Challenge.RW_roundcuts_k10_papers_looked_over
set_option Elab.async false
set_option linter.all false
set_option maxRecDepth 100000
set_option maxHeartbeats 4000000
set_option exponentiation.threshold 3000
set_option bootstrap.genMatcherCode false
set_option genSizeOfSpec false
set_option genInjectivity false
noncomputable section
namespace L2
open PySem PySem.Spec PyProof.Rows
abbrev Key:=Sum Int Str
def xbv:Key→Value→Bool
  | .inl k,v=>Value.isInt k v
  | .inr x,v=>Value.isStrOf x v
def xda (w:World):Key→Int
  | .inl k=>hashInt k
  | .inr x=>hashStr w x
theorem yL:∀ {k:Key} {v:Value},xbv k v=true→(∃ i t,k=Sum.inl i∧v=Value.int i t)∨(∃ x t,k=Sum.inr x∧v=Value.str x t)
  | .inl i,v,h=>by
    obtain ⟨t,e⟩:=Value.isInt_shape (k:=i) (v:=v) h
    exact .inl ⟨i,t,rfl,e⟩
  | .inr x,v,h=>by
    obtain ⟨t,e⟩:=Value.isStrOf_shape (x:=x) (v:=v) h
    exact .inr ⟨x,t,rfl,e⟩
theorem xa3 (a b:Int):decide ((Sum.inl a:Key)=Sum.inl b)=(a == b):=by
  by_cases e:a=b
  · subst e; simp
  · have h:¬ (Sum.inl a:Key)=Sum.inl b:=fun q=>e (Sum.inl.inj q)
    rw [decide_eq_false h]
    exact (beq_eq_false_iff_ne.mpr e).symm
theorem xaJ (a b:Str):decide ((Sum.inr a:Key)=Sum.inr b)=decide (a=b):=by
  by_cases e:a=b
  · subst e; simp
  · have h:¬ (Sum.inr a:Key)=Sum.inr b:=fun q=>e (Sum.inr.inj q)
    rw [decide_eq_false h,decide_eq_false e]
theorem xaz (a:Int) (b:Str):decide ((Sum.inl a:Key)=Sum.inr b)=false:=decide_eq_false (fun q=>nomatch q)
theorem xbo (a:Str) (b:Int):decide ((Sum.inr a:Key)=Sum.inl b)=false:=decide_eq_false (fun q=>nomatch q)
def ak (prog:Program) (w:World):PySem.KeyKind prog w Key where
  is:=xbv
  hash:=xda w
  inj:=fun v a b ha hb=>by
    rcases yL ha with ⟨i,t,rfl,rfl⟩ | ⟨x,t,rfl,rfl⟩
    · rcases yL hb with ⟨j,u,rfl,e⟩ | ⟨y,u,rfl,e⟩
      · injection e with e1 _; rw [e1]
      · exact nomatch e
    · rcases yL hb with ⟨j,u,rfl,e⟩ | ⟨y,u,rfl,e⟩
      · exact nomatch e
      · injection e with e1 _; rw [e1]
  byValue:=fun k v h=>by
    rcases yL h with ⟨i,t,rfl,rfl⟩ | ⟨x,t,rfl,rfl⟩ <;> rfl
  pyHash:=fun hv h=>by
    rcases yL hv with ⟨i,t,rfl,rfl⟩ | ⟨x,t,rfl,rfl⟩
    · exact wpAny_pyHash_int h
    · exact wpAny_pyHash_str h
  eqBool:=fun hu hv h=>by
    rcases yL hu with ⟨i,t,rfl,rfl⟩ | ⟨x,t,rfl,rfl⟩
    · rcases yL hv with ⟨j,u,rfl,rfl⟩ | ⟨y,u,rfl,rfl⟩
      · rw [xa3] at h; exact wpAny_eqBool_int h
      · rw [xaz] at h; exact SeqAt.EqAt.int_str i t y u _ _ _ _ h
    · rcases yL hv with ⟨j,u,rfl,rfl⟩ | ⟨y,u,rfl,rfl⟩
      · rw [xbo] at h; exact SeqAt.EqAt.str_int x t j u _ _ _ _ h
      · rw [xaJ] at h; exact wpAny_eqBool_str h
  «strs» := fun k x t v h=>by
    rcases yL h with ⟨i,u,rfl,e⟩ | ⟨y,u,rfl,e⟩
    · exact nomatch e
    · injection e with e1 _
      subst e1
      cases v <;> rfl
end L2
namespace L2
open PySem PySem.Spec PyProof.Rows
inductive V where
  | non | bl (b:Bool) | int (i:Int) | str (x:Str) | byt (b:Array UInt8) | flt (b:UInt64) | ref (a:Addr) | ty (n:String)
  deriving DecidableEq
def RelV:V→Value→Prop
  | .non,u=>u=Value.none
  | .bl b,u=>u=Value.bool b
  | .int i,u=>∃ t,u=Value.int i t
  | .str x,u=>∃ t,u=Value.str x t
  | .byt b,u=>∃ t,u=Value.bytes b t
  | .flt b,u=>∃ t,u=Value.float b t
  | .ref a,u=>u=Value.ref a
  | .ty n,u=>u=Value.type n
abbrev y_:List V→List Value→Prop:=Paired RelV
theorem y_.length {xs:List V} {us:List Value} (r:y_ xs us):xs.length=us.length:=Paired.length r
theorem y_.get:∀ {xs:List V} {us:List Value} {i:Nat} {x:V},y_ xs us→xs[i]? = some x→∃ u,us[i]? = some u∧RelV x u
  | _,_,_,_,.nil,e=>by simp at e
  | _,_,0,_,.cons r _,e=>by simp at e; subst e; exact ⟨_,rfl,r⟩
  | _,_,i+1,x,.cons _ t,e=>by
    obtain ⟨u,h1,h2⟩:=y_.get (i:=i) (x:=x) t (by simpa using e)
    exact ⟨u,by simpa using h1,h2⟩
theorem y_.set {x:V} {u:Value} (r:RelV x u):∀ {xs:List V} {us:List Value} (i:Nat),y_ xs us→y_ (xs.set i x) (us.set i u)
  | _,_,_,.nil=>.nil
  | _,_,0,.cons _ t=>.cons r t
  | _,_,i+1,.cons q t=>.cons q (y_.set r i t)
theorem y_.append:∀ {xs ys:List V} {us ws:List Value},y_ xs us→y_ ys ws→y_ (xs++ys) (us++ws)
  | _,_,_,_,.nil,s=>s
  | _,_,_,_,.cons r t,s=>.cons r (y_.append t s)
theorem y_.take:∀ {xs:List V} {us:List Value} (n:Nat),y_ xs us→y_ (xs.take n) (us.take n)
  | _,_,0,_=>.nil
  | _,_,_+1,.nil=>.nil
  | _,_,n+1,.cons r t=>.cons r (y_.take n t)
theorem y_.drop:∀ {xs:List V} {us:List Value} (n:Nat),y_ xs us→y_ (xs.drop n) (us.drop n)
  | _,_,0,r=>r
  | _,_,_+1,.nil=>.nil
  | _,_,n+1,.cons _ t=>y_.drop n t
def xb0:Option V→Option Value→Prop
  | some v,some u=>RelV v u
  | none,none=>True
  | _,_=>False
def KV {κ:Type}:List (κ × V)→List (κ × Value)→Prop:=Paired fun (p:κ × V) (q:κ × Value)=>p.1=q.1∧RelV p.2 q.2
def kV:Key→V
  | .inl i=>.int i
  | .inr x=>.str x
inductive HO where
    | lst (xs:List V)
    | tup (xs:List V)
    | dK (kvs:List (Key × V)) | dT (kvs:List (List Key × V))
    | set (S:Int→Bool) (n:Nat)
    | ins (C dx:Addr) (fs:List (Str × V))
    | own (x:Addr)
    | xd (fs:List (Str × V))
    | met (f x:Addr)
    | rng (lo hi:Int)
    | frz (o:Obj) (u:HO)
    | tbl (ps:Array Value)
  | tb (q:Str)
    | ext (φ:Heap→Prop)
abbrev Hp:=Addr→Option HO
def upd (H:Hp) (a:Addr) (o:HO):Hp:=fun b=>if b=a then some o else H b
theorem x_ {H:Hp} {a:Addr} {o:HO}:upd H a o a=some o:=by unfold upd; rw [if_pos rfl]
theorem xY {H:Hp} {a b:Addr} {o:HO} (h:b≠a):upd H a o b=H b:=by unfold upd; rw [if_neg h]
theorem xbt {H:Hp} {a b:Addr} {o u:HO} (h:H a=some o) (h':H b=some u) (d:o≠u):a≠b:=by
  intro e; subst e; rw [h] at h'; exact d (Option.some.inj h')
theorem xH {H:Hp} {a b:Addr} {o:HO} (h:H a=some o) (h':H b=none):a≠b:=by
  intro e; subst e; rw [h] at h'; cases h'
section
variable (P:Program) (w:World)
def wC (H:Hp) (h:Heap) (a:Addr):HO→Prop
  | .lst xs=>xs.length≤sizeLine∧∃ (its:List Value) (n:Nat),y_ xs its∧h.get? a=some { cls:=.type "list", data:=.seq its.toArray n }
  | .tup xs=>xs.length≤sizeLine∧∃ its:List Value,y_ xs its∧IsTup h a its.toArray
  | .dK kvs=>kvs.length≤sizeLine∧(a == sysModules)=false∧∃ vs,KV kvs vs∧h.DictOf (ak P w) a vs
  | .dT kvs=>kvs.length≤sizeLine∧(a == sysModules)=false∧∃ xs:List (List Key × Addr × Value),
      Paired (fun (p:List Key × V) (q:List Key × Addr × Value)=>p.1=q.1∧H q.2.1=some (.tup (p.1.map kV))∧RelV p.2 q.2.2) kvs xs ∧
      ∃ o es ep,h.get? a=some o∧o.ExactDict∧o.data=.dict es ep∧es.toList=xs.map (entryOfKey (tupleKind (ak P w)))∧(xs.map (·.1)).Nodup
  | .set S n=>h.SetOf (intKind P w) a S n
  | .ins C dx fs=>H dx=some (.own a)∧fs.length≤1000∧dx≠a∧h.get? a=some (PySem.W.instObj C dx) ∧
      ∃ mA,h.Ns1 dx mA∧(∀ f,xb0 (fs.lookup f) (mA f))∧PySem.Within mA (fs.map (·.1))
  | .own _=>∃ o,h.get? a=some o
  | .xd fs=>∃ mA,h.Ns1 a mA∧∀ f,xb0 (fs.lookup f) (mA f)
  | .rng lo hi=>∃ t u v,h.get? a=some { cls:=.type "range", data:=.fields #[.int lo t,.int hi u,.int 1 v] }
  | .frz o u=>h.get? a=some o∧wC H h a u
  | .tbl ps=>h.get? a=some { cls:=.none,data:=.fields ps }
  | .tb q=>∃ ps:Array Value,h.get? a=some { cls:=.none,data:=.fields ps }∧TriplesOk ps.toList∧∀ pos cv,codeAmong pos ps.toList=some cv →
      ∃ c oc vs t,cv=.ref c∧H c=some (.frz oc (.own c))∧oc.data=.fields vs∧vs[1]? = some (.str q t)
  | .met f x=>h.get? a=some (PySem.W.methodObj (.ref f) (.ref x))
  | .ext φ=>φ h∧(∃ o,h.get? a=some o)∧∀ h1 h2:Heap,φ h1→(∀ o,h1.get? a=some o→h2.get? a=some o)→φ h2
def HOk (H:Hp) (h:Heap):Prop:=∀ a o,H a=some o→wC P w H h a o
end
section
variable {P:Program} {w:World} {H H':Hp} {h h':Heap} {a:Addr} {o:HO}
theorem wC.lt (x:wC P w H h a o):a < h.objs.size:=by
  cases o with
  | lst xs=>obtain ⟨_,_,_,_,e⟩:=x; exact Heap.lt_size e
  | tup xs=>obtain ⟨_,_,_,p⟩:=x; exact p.lt
  | dK kvs=>obtain ⟨_,_,_,_,o,_,_,e,_⟩:=x; exact Heap.lt_size e
  | dT kvs=>obtain ⟨_,_,_,_,o,_,_,e,_⟩:=x; exact Heap.lt_size e
  | set S n=>obtain ⟨o,_,_,_,e,_⟩:=x; exact Heap.lt_size e
  | ins C dx fs=>obtain ⟨_,_,_,e,_⟩:=x; exact Heap.lt_size e
  | own y=>obtain ⟨_,e⟩:=x; exact Heap.lt_size e
  | xd fs=>obtain ⟨_,⟨_,_,_,e,_⟩,_⟩:=x; exact Heap.lt_size e
  | rng lo hi=>obtain ⟨_,_,_,e⟩:=x; exact Heap.lt_size e
  | frz ob u=>obtain ⟨e,_⟩:=x; exact Heap.lt_size e
  | tbl ps=>exact Heap.lt_size (show h.get? a=some _ from x)
  | tb q=>obtain ⟨_,e,_⟩:=x; exact Heap.lt_size e
  | met f y=>exact Heap.lt_size (show h.get? a=some _ from x)
  | ext φ=>obtain ⟨_,⟨_,e⟩,_⟩:=x; exact Heap.lt_size e
theorem Paired.mapP {α β:Type} {F G:α→β→Prop}:∀ {l₁:List α} {l₂:List β},Paired F l₁ l₂→(∀ a b,F a b→G a b)→Paired G l₁ l₂
  | _,_,.nil,_=>.nil
  | _,_,.cons r t,f=>.cons (f _ _ r) (Paired.mapP t f)
theorem wC.stay (x:wC P w H h a o) (k:∀ b u,(b=a∨H b=some (.own a))→h.get? b=some u→h'.get? b=some u)
    (ho:∀ b,H b=some (.own a)→H' b=some (.own a)) (ht:∀ b xs,H b=some (.tup xs)→H' b=some (.tup xs)) (hf:∀ b o u,H b=some (.frz o u)→H' b=some (.frz o u)):wC P w H' h' a o:=by
  induction o with
  | lst xs=>obtain ⟨z,its,n,r,e⟩:=x; exact ⟨z,its,n,r,k _ _ (.inl rfl) e⟩
  | tup xs=>obtain ⟨z,its,r,ob,e,c⟩:=x; exact ⟨z,its,r,ob,k _ _ (.inl rfl) e,c⟩
  | dK kvs=>obtain ⟨z,y,vs,r,ob,es,ep,e,c⟩:=x; exact ⟨z,y,vs,r,ob,es,ep,k _ _ (.inl rfl) e,c⟩
  | dT kvs =>
    obtain ⟨z,y,xs,r,ob,es,ep,e,c⟩:=x
    exact ⟨z,y,xs,Paired.mapP r fun p q z=>⟨z.1,ht _ _ z.2.1,z.2.2⟩,ob,es,ep,k _ _ (.inl rfl) e,c⟩
  | set S n=>obtain ⟨ob,es,ep,t,e,c⟩:=x; exact ⟨ob,es,ep,t,k _ _ (.inl rfl) e,c⟩
  | ins C dx fs =>
    obtain ⟨d,z,ne,e,mA,⟨od,es,ep,e2,c⟩,r⟩:=x
    exact ⟨ho _ d,z,ne,k _ _ (.inl rfl) e,mA,⟨od,es,ep,k _ _ (.inr d) e2,c⟩,r⟩
  | own y=>obtain ⟨ob,e⟩:=x; exact ⟨ob,k _ _ (.inl rfl) e⟩
  | xd fs=>obtain ⟨mA,⟨od,es,ep,e,c⟩,r⟩:=x; exact ⟨mA,⟨od,es,ep,k _ _ (.inl rfl) e,c⟩,r⟩
  | rng lo hi=>obtain ⟨t,u,v,e⟩:=x; exact ⟨t,u,v,k _ _ (.inl rfl) e⟩
  | frz ob u ih=>obtain ⟨e,q⟩:=x; exact ⟨k _ _ (.inl rfl) e,ih q⟩
  | tbl ps =>
    have e:h.get? a=some { cls:=.none,data:=.fields ps }:=x
    show h'.get? a=some { cls:=.none,data:=.fields ps }
    exact k a _ (.inl rfl) e
  | tb q =>
    obtain ⟨ps,e,z,y⟩:=x
    exact ⟨ps,k _ _ (.inl rfl) e,z,fun pos cv e=>let ⟨c,oc,vs,t,e1,e2,e3⟩:=y pos cv e; ⟨c,oc,vs,t,e1,hf _ _ _ e2,e3⟩⟩
  | met f y =>
    have e:h.get? a=some (PySem.W.methodObj (.ref f) (.ref y)):=x
    show h'.get? a=some (PySem.W.methodObj (.ref f) (.ref y))
    exact k a _ (.inl rfl) e
  | ext φ=>obtain ⟨p,⟨o,e⟩,st⟩:=x; exact ⟨st _ _ p fun o q=>k _ _ (.inl rfl) q,⟨o,k _ _ (.inl rfl) e⟩,st⟩
theorem HOk.lt (x:HOk P w H h) (e:H a=some o):a < h.objs.size:=(x a o e).lt
theorem HOk.fresh (x:HOk P w H h) (e:h.objs.size≤a):H a=none:=by
  cases q:H a with
  | none=>rfl
  | some u=>exact absurd (Nat.lt_of_lt_of_le (x.lt q) e) (Nat.lt_irrefl _)
theorem HOk.kept (x:HOk P w H h) (k:∀ b u,h.get? b=some u→h'.get? b=some u):HOk P w H h':=fun a o e =>
  (x a o e).stay (fun b u _ q=>k b u q) (fun _ q=>q) (fun _ _ q=>q) fun _ _ _ q=>q
theorem HOk.laid (x:HOk P w H h) (k:∀ b u,h.get? b=some u→h'.get? b=some u) (hp:h.objs.size≤a) (new:wC P w (upd H a o) h' a o):HOk P w (upd H a o) h':=fun b u e=>by
  have hn:=x.fresh hp
  by_cases hb:b=a
  · subst hb; rw [x_] at e; cases e; exact new
  · rw [xY hb] at e
    exact (x b u e).stay (fun c v _ q=>k c v q) (fun c q=>by rw [xY (xH q hn)]; exact q) (fun c xs q=>by rw [xY (xH q hn)]; exact q) fun c o u q=>by rw [xY (xH q hn)]; exact q
end
def Rd (H:Hp) (a:Addr) (u:HO):Prop:=H a=some u∨∃ o,H a=some (.frz o u)
theorem Rd.ok {P:Program} {w:World} {H:Hp} {h:Heap} {a:Addr} {u:HO} (r:Rd H a u) (x:HOk P w H h):wC P w H h a u:=by
  rcases r with r | ⟨o,r⟩
  · exact x a u r
  · obtain ⟨_,q⟩:=x a _ r
    exact q
def Mut:Option HO→Prop
  | some (.lst _)=>True
  | some (.dK _)=>True
  | some (.dT _)=>True
  | some (.set _ _)=>True
  | some (.ins _ _ _)=>True
  | some (.ext _)=>True
  | some (.tb _)=>True
  | _=>False
section
variable {P:Program} {w:World} {H:Hp} {h h':Heap} {x e:Addr} {o':HO}
theorem HOk.write (ok:HOk P w H h) (mu:Mut (H x)) (he:e=x∨H e=some (.own x)) (k:∀ b u,b≠e→h.get? b=some u→h'.get? b=some u) (heo:∃ u,h'.get? e=some u)
    (new:wC P w (upd H x o') h' x o'):HOk P w (upd H x o') h':=fun b u q=>by
  have nown:∀ c y,H c=some (.own y)→c≠x:=fun c y r z=>by subst z; rw [r] at mu; exact mu
  have ntup:∀ c xs,H c=some (.tup xs)→c≠x:=fun c xs r z=>by subst z; rw [r] at mu; exact mu
  have nfrz:∀ c o u,H c=some (.frz o u)→c≠x:=fun c o u r z=>by subst z; rw [r] at mu; exact mu
  by_cases hb:b=x
  · subst hb; rw [x_] at q; cases q; exact new
  · rw [xY hb] at q
    by_cases hbe:b=e
    · have q':H b=some (.own x):=by
        rcases he with z | z
        · exact absurd (hbe.trans z) hb
        · rw [hbe]; exact z
      rw [q] at q'; cases q'
      obtain ⟨v,hv⟩:=heo
      exact ⟨v,by rw [hbe]; exact hv⟩
    · refine (ok b u q).stay (fun c v hc r=>k c v ?_ r) (fun c r=>by rw [xY (nown c b r)]; exact r) (fun c xs r=>by rw [xY (ntup c xs r)]; exact r) fun c o u r=>by rw [xY (nfrz c o u r)]; exact r
      rcases hc with rfl | hc
      · exact hbe
      · rintro rfl
        rcases he with z | z
        · exact nown c b hc z
        · rw [hc] at z; cases z; exact hb rfl
end
structure Un (fs ex:List Addr) (H H':Hp) (h h':Heap):Prop where
  keep:∀ b o,h.get? b=some o→H b=none→b∉fs→b∉ex→h'.get? b=some o
  slot:∀ b o,h.get? b=some o→H b=none→b∈fs→b∉ex→∃ sl,h'.get? b=some { o with slots:=sl }
  free:∀ b o,h.get? b=some o→H b=none→b∉ex→H' b=none
  there:∀ b o,h.get? b=some o→b∉ex→∃ o',h'.get? b=some o'
  tups:∀ b xs,H b=some (.tup xs)→H' b=some (.tup xs)
  frzs:∀ b o u,H b=some (.frz o u)→H' b=some (.frz o u)
  tbls:∀ b ps,H b=some (.tbl ps)→∃ more,H' b=some (.tbl (ps++more))
section
variable {fs fs' ex ex':List Addr} {H H1 H2:Hp} {h h1 h2 h':Heap} {a x e:Addr} {o:HO}
theorem Un.any (u:Un fs ex H H1 h h1) {b:Addr} {ob:Obj} (q:h.get? b=some ob) (n:H b=none) (hx:b∉ex):∃ sl,h1.get? b=some { ob with slots:=sl }:=by
  by_cases hb:b∈fs
  · exact u.slot b ob q n hb hx
  · exact ⟨ob.slots,u.keep b ob q n hb hx⟩
theorem Un.kept (k:∀ b u,h.get? b=some u→h'.get? b=some u):Un fs ex H H h h' :=
  ⟨fun b ob q _ _ _=>k b ob q,fun b ob q _ _ _=>⟨ob.slots,k b ob q⟩,fun _ _ _ n _=>n,fun b ob q _=>⟨ob,k b ob q⟩,fun _ _ q=>q,fun _ _ _ q=>q,fun _ ps q=>⟨#[],by rw [q]; simp⟩⟩
theorem Un.refl:Un fs ex H H h h:=Un.kept fun _ _ q=>q
theorem Un.laid (k:∀ b u,h.get? b=some u→h'.get? b=some u) (hp:h.objs.size≤a) (hn:H a=none):Un fs ex H (upd H a o) h h' where
  keep:=fun b u q _ _ _=>k b u q
  slot:=fun b u q _ _ _=>⟨u.slots,k b u q⟩
  free:=fun b u q n _=>by rw [xY (Nat.ne_of_lt (Nat.lt_of_lt_of_le (Heap.lt_size q) hp))]; exact n
  there:=fun b u q _=>⟨u,k b u q⟩
  tups:=fun b xs q=>by rw [xY (xH q hn)]; exact q
  frzs:=fun b u xs q=>by rw [xY (xH q hn)]; exact q
  tbls:=fun b ps q=>⟨#[],by rw [xY (xH q hn),q]; simp⟩
theorem Un.write (mu:Mut (H x)) (he:e=x∨H e=some (.own x)) (k:∀ b u,b≠e→h.get? b=some u→h'.get? b=some u) (heo:∃ u,h'.get? e=some u):Un fs ex H (upd H x o) h h':=by
  have hx:∀ b,H b=none→b≠x:=fun b n z=>by subst z; rw [n] at mu; exact mu
  have hb:∀ b,H b=none→b≠e:=fun b n z=>by
    subst z
    rcases he with r | r
    · exact hx b n r
    · rw [n] at r; cases r
  have hm:∀ b u,H b=some u→¬ Mut (some u)→b≠x:=fun b u q nm z=>by subst z; rw [q] at mu; exact nm mu
  refine ⟨fun b u q n _ _=>k b u (hb b n) q,fun b u q n _ _=>⟨u.slots,k b u (hb b n) q⟩,fun b u q n _=>by rw [xY (hx b n)]; exact n,fun b u q _=>?_,
    fun b xs q=>by rw [xY (hm b _ q fun z=>z)]; exact q,fun b u xs q=>by rw [xY (hm b _ q fun z=>z)]; exact q,fun b ps q=>⟨#[],by rw [xY (hm b _ q fun z=>z),q]; simp⟩⟩
  by_cases hbe:b=e
  · subst hbe; exact heo
  · exact ⟨u,k b u hbe q⟩
end
def trk (h:Heap) (H:Hp):List Addr:=(List.range h.objs.size).filter fun a=>(H a).isSome
def bQ (h:Heap) (H:Hp):Heap:=PySem.W.hideAll h (trk h H)
theorem nZ (h:Heap) (H:Hp):(bQ h H).objs.size=h.objs.size:=PySem.W.hideAll_size _ _
theorem bP {h:Heap} {H:Hp} {b:Addr} {o:Obj} (e:h.get? b=some o) (n:H b=none):(bQ h H).get? b=some o :=
  PySem.W.hideAll_get _ e fun hm=>by
    have q:(H b).isSome=true:=(List.mem_filter.mp hm).2
    rw [n] at q; simp at q
theorem lP {h:Heap} {H:Hp} {b:Addr} {o:Obj} (e:(bQ h H).get? b=some o):h.get? b=some o∧H b=none:=by
  have e':h.get? b=some o:=PySem.W.of_hideAll (trk h H) e
  refine ⟨e',?_⟩
  cases q:H b with
  | none=>rfl
  | some x =>
    have hm:b∈trk h H:=List.mem_filter.mpr ⟨List.mem_range.mpr (Heap.lt_size e'),by simp [q]⟩
    have z:(bQ h H).get? b=none:=PySem.W.hideAll_none (trk h H) hm
    rw [z] at e; cases e
def lZ (g h:Heap) (L:Addr):List (Addr × Obj):=(List.range h.objs.size).filterMap fun a=>if a=L∨(g.get? a).isSome=true then none else (h.get? a).map fun o=>(a,o)
def rest (g h:Heap) (L d:Addr):List (Addr × Obj):=(lZ g h L).filter fun p=>decide (p.1≠d)
end L2
namespace L2
open PySem PySem.Spec PyProof.Rows
structure Mod (K:PySem.W.Frag) (mg:Str→Option Value) (base:Heap):Prop where
  kin:K.In base
  glob:base.Ns mainGlobals mg
  blt:∃ mb,base.Ns builtinsNs mb∧∀ x:Str,x ≠ "__name__" → mb x=bootBuiltins x
  nolimit:base.NoLimit
structure Cx where
  prog:Program
  w:World
  K:PySem.W.Frag
  mg:Str→Option Value
  base:Heap
  A:Around
  N:List Str
  s₀:Shared
  H₀:Hp
  env:Env
  outer:List Env
  stack:List Env
  ex:List Addr
  fn:Str→Bool
  calm:Bool
  pn:List (Addr × Obj)
  xe:Value→Shared→Prop
def frs (l:List Env):List Addr:=l.filterMap (·.frame)
abbrev Cx.fs (X:Cx):List Addr:=frs X.outer
def Vis (sc:Scope) (x:Str):Prop:=sc.names.lookup x=some .local∨sc.names.lookup x=some .cell∨sc.names.lookup x=some .free
def Loc (sc:Scope) (x:Str):Prop:=sc.names.lookup x=some .local∨sc.names.lookup x=some .cell
def Look (env:Env) (h:Heap) (m:Str→Option Value) (x:Str) (u:Value):Prop :=
  (env.kindOf x=some .local∧m x=some u)∨((env.kindOf x=some .cell∨env.kindOf x=some .free)∧∃ c,env.cells.lookup x=some c∧h.IsCell c (some u))
structure Cx.Ok (X:Cx):Prop where
  mod:Mod X.K X.mg X.base
  kind:X.env.scope.kind=.function
  glob:X.env.globals=mainGlobals
  blt:X.env.builtins=builtinsNs
  above:X.s₀.heap.objs.size≤X.env.locals
  inj:∀ x y c,X.env.cells.lookup x=some c→X.env.cells.lookup y=some c→x=y
  has:∀ x,(X.env.kindOf x=some .cell∨X.env.kindOf x=some .free)→∃ c,X.env.cells.lookup x=some c
  cab:∀ x c,X.fn x=true→X.env.cells.lookup x=some c→X.s₀.heap.objs.size≤c
  hd:X.calm=true→X.A.handled=none
  frames:X.A.frames=some X.stack
  stk:X.stack=X.outer∨(X.stack=X.env::X.outer∧X.env.frame=some X.env.locals)
  exf:∀ b∈X.ex,b≠X.env.locals∧∀ x c,X.env.cells.lookup x=some c→c≠b
  bs:∀ b o,X.base.get? b=some o→X.s₀.heap.get? b=some o∧X.H₀ b=none
  bsz:X.base.objs.size≤X.s₀.heap.objs.size
  noex:∀ b o,X.base.get? b=some o→b∉X.ex
  exfs:∀ b∈X.ex,b∉X.fs
  funs:X.s₀.heap.FunFrames X.base X.outer
  frf:∀ b∈X.fs,X.H₀ b=none
structure Inv (X:Cx) (pins:List (Addr × Obj)) (σ:List (Option V)) (H:Hp) (s:Shared):Prop where
  ok:X.Ok
  os:s.os=X.s₀.os
  bare:AllBare s.gens
  base:Un X.fs X.ex X.H₀ H X.s₀.heap s.heap
  loc:∃ m,s.heap.Ns X.env.locals m∧∀ (i:Nat) (x:Str) (v:V),X.N[i]? = some x→σ[i]? = some (some v)→Vis X.env.scope x→∃ u,RelV v u∧Look X.env s.heap m x u
  cell:∀ x c,X.env.cells.lookup x=some c→∃ v,s.heap.IsCell c v
  free:H X.env.locals=none
  freeC:∀ x c,X.env.cells.lookup x=some c→H c=none
  pin:∀ p∈X.pn++pins,s.heap.get? p.1=some p.2∧H p.1=none∧p.1≠X.env.locals∧p.1∉X.fs∧∀ v,p.2.data≠.cell v
  hok:HOk X.prog X.w H s.heap
  len:σ.length=X.N.length
section
variable {X:Cx} {pins:List (Addr × Obj)} {σ:List (Option V)} {H H':Hp} {s:Shared} {h':Heap}
theorem Cx.Ok.nofr (ok:X.Ok) {b:Addr} {o:Obj} (e:X.base.get? b=some o):b∉X.fs:=fun hb=>by
  have:=(ok.funs.mem hb).1
  rw [e] at this; cases this
theorem Inv.bs (I:Inv X pins σ H s):∀ b o,X.base.get? b=some o→s.heap.get? b=some o∧H b=none:=fun b o e =>
  ⟨I.base.keep b o (I.ok.bs b o e).1 (I.ok.bs b o e).2 (I.ok.nofr e) (I.ok.noex b o e),I.base.free b o (I.ok.bs b o e).1 (I.ok.bs b o e).2 (I.ok.noex b o e)⟩
theorem Inv.bk (I:Inv X pins σ H s):∀ b o,X.base.get? b=some o→s.heap.get? b=some o:=fun b o e=>(I.bs b o e).1
theorem Inv.mod (I:Inv X pins σ H s):Mod X.K X.mg X.base:=I.ok.mod
theorem Inv.kIn (I:Inv X pins σ H s):X.K.In s.heap:=I.ok.mod.kin.keeps I.bk
theorem Inv.lt (I:Inv X pins σ H s):X.env.locals < s.heap.objs.size:=let ⟨_,hn,_⟩:=I.loc; hn.lt
theorem Inv.sz (I:Inv X pins σ H s):X.s₀.heap.objs.size≤s.heap.objs.size:=Nat.le_trans I.ok.above (Nat.le_of_lt I.lt)
theorem Inv.nofs (I:Inv X pins σ H s) {a:Addr} (h:s.heap.objs.size≤a):a∉X.fs:=fun hb=>by
  obtain ⟨_,o,ho,_⟩:=I.ok.funs.mem hb
  exact absurd (Nat.lt_of_lt_of_le (Heap.lt_size ho) (Nat.le_trans I.sz h)) (Nat.lt_irrefl _)
theorem Inv.cne (I:Inv X pins σ H s):∀ x c,X.env.cells.lookup x=some c→c≠X.env.locals:=fun x c e z=>by
  obtain ⟨v,o,ho,hd⟩:=I.cell x c e
  obtain ⟨m,⟨o',es,ep,ho',hd',_⟩,_⟩:=I.loc
  rw [z,ho'] at ho; cases ho; rw [hd'] at hd; cases hd
theorem Inv.funs (I:Inv X pins σ H s):s.heap.FunFrames X.base X.outer:=by
  have all:∀ (l:List Env),(∀ b∈frs l,b∈X.fs)→X.s₀.heap.FunFrames X.base l→s.heap.FunFrames X.base l:=by
    intro l
    induction l with
    | nil=>intro _ _; trivial
    | cons env r ih =>
      intro hs hl
      obtain ⟨hk,⟨L,o,hf,hn,ho,hd⟩,hr⟩:=hl
      have hL:L∈X.fs:=hs L (by unfold frs; rw [List.filterMap_cons,hf]; exact List.mem_cons_self)
      obtain ⟨sl,e⟩:=I.base.slot L o ho (I.ok.frf L hL) hL fun z=>I.ok.exfs L z hL
      exact ⟨hk,⟨L,_,hf,hn,e,hd⟩,ih (fun b hb=>hs b (by unfold frs; rw [List.filterMap_cons,hf]; exact List.mem_cons_of_mem _ hb)) hr⟩
  exact all X.outer (fun _ hb=>hb) I.ok.funs
theorem Inv.stack (I:Inv X pins σ H s):s.heap.FunFrames X.base X.stack:=by
  rcases I.ok.stk with e | ⟨e,hf⟩
  · rw [e]; exact I.funs
  · rw [e]
    obtain ⟨m,hn,_⟩:=I.loc
    refine .cons (by rw [I.ok.kind]; decide) hf hn ?_ I.funs
    exact Heap.get?_none_of_le (Nat.le_trans I.ok.bsz I.ok.above)
theorem Inv.stkSub (I:Inv X pins σ H s):∀ b∈frs X.stack,b∈X.env.locals::X.fs:=fun b hb=>by
  rcases I.ok.stk with e | ⟨e,hf⟩
  · rw [e] at hb; exact List.mem_cons_of_mem _ hb
  · rw [e] at hb
    unfold frs at hb
    rw [List.filterMap_cons,hf] at hb
    exact hb
theorem Inv.stkFree (I:Inv X pins σ H s):∀ b∈frs X.stack,H b=none:=fun b hb=>by
  rcases List.mem_cons.mp (I.stkSub b hb) with e | hb
  · rw [e]; exact I.free
  · obtain ⟨_,o,ho,_⟩:=I.ok.funs.mem hb
    exact I.base.free b o ho (I.ok.frf b hb) fun z=>I.ok.exfs b z hb
theorem Inv.step {g':Array GenState} {t':Nat} {d':Drawn} {ch:List Addr} (I:Inv X pins σ H s)
    (hch:∀ b∈ch,(b∈X.ex∨X.s₀.heap.objs.size≤b)∧b≠X.env.locals∧(∀ x c,X.env.cells.lookup x=some c→c≠b)∧∀ p∈X.pn++pins,p.1≠b)
    (keep:∀ b o,b≠X.env.locals→b∉X.fs→b∉ch→s.heap.get? b=some o→H b=none→h'.get? b=some o)
    (slot:∀ b o,b≠X.env.locals→b∈X.fs→b∉ch→s.heap.get? b=some o→H b=none→∃ sl,h'.get? b=some { o with slots:=sl }) (free:∀ b o,b∉ch→s.heap.get? b=some o→H b=none→H' b=none)
    (there:∀ b o,b∉ch→s.heap.get? b=some o→∃ o',h'.get? b=some o')
    (tups:∀ b xs,H b=some (.tup xs)→H' b=some (.tup xs)) (frzs:∀ b o u,H b=some (.frz o u)→H' b=some (.frz o u)) (tbls:∀ b ps,H b=some (.tbl ps)→∃ more,H' b=some (.tbl (ps++more)))
    (ns:∀ m,s.heap.Ns X.env.locals m→h'.Ns X.env.locals m) (hok:HOk X.prog X.w H' h') (hg:AllBare g') :
    Inv X pins σ H' { s with heap:=h',gens:=g',drawn:=d',toks:=t' }:=by
  have neL:∀ b o,X.s₀.heap.get? b=some o→b≠X.env.locals:=fun b o e=>Nat.ne_of_lt (Nat.lt_of_lt_of_le (Heap.lt_size e) I.ok.above)
  have neC:∀ b o,X.s₀.heap.get? b=some o→b∉X.ex→b∉ch:=fun b o e hx hb=>by
    rcases (hch b hb).1 with z | z
    · exact hx z
    · exact absurd (Nat.lt_of_lt_of_le (Heap.lt_size e) z) (Nat.lt_irrefl _)
  have cellK:∀ x c,X.env.cells.lookup x=some c→∀ v,s.heap.IsCell c v→h'.IsCell c v:=fun x c e v ⟨o,ho,hd⟩=>by
    have nch:c∉ch:=fun z=>(hch c z).2.2.1 x c e rfl
    by_cases hc:c∈X.fs
    · obtain ⟨sl,q⟩:=slot c o (I.cne x c e) hc nch ho (I.freeC x c e)
      exact ⟨_,q,hd⟩
    · exact ⟨o,keep c o (I.cne x c e) hc nch ho (I.freeC x c e),hd⟩
  refine ⟨I.ok,I.os,hg,⟨fun b o e n hb hx=>?_,fun b o e n hb hx=>?_,fun b o e n hx=>?_,fun b o e hx=>?_,fun b xs e=>tups b xs (I.base.tups b xs e),fun b o xs e=>frzs b o xs (I.base.frzs b o xs e),fun b ps e=>?_⟩,?_,fun x c e=>?_,?_,fun x c e=>?_,fun p hp=>?_,hok,I.len⟩
  · exact keep b o (neL b o e) hb (neC b o e hx) (I.base.keep b o e n hb hx) (I.base.free b o e n hx)
  · obtain ⟨sl,e1⟩:=I.base.slot b o e n hb hx
    obtain ⟨sl',e2⟩:=slot b _ (neL b o e) hb (neC b o e hx) e1 (I.base.free b o e n hx)
    exact ⟨sl',e2⟩
  · obtain ⟨o',e1⟩:=I.base.there b o e hx
    exact free b o' (neC b o e hx) e1 (I.base.free b o e n hx)
  · obtain ⟨o',e1⟩:=I.base.there b o e hx
    exact there b o' (neC b o e hx) e1
  · obtain ⟨m1,e1⟩:=I.base.tbls b ps e
    obtain ⟨m2,e2⟩:=tbls b _ e1
    exact ⟨m1++m2,by rw [e2,Array.append_assoc]⟩
  · obtain ⟨m,hn,hl⟩:=I.loc
    refine ⟨m,ns m hn,fun i x v e1 e2 e3=>?_⟩
    obtain ⟨u,r,l⟩:=hl i x v e1 e2 e3
    refine ⟨u,r,?_⟩
    rcases l with l | ⟨k,c,e,z⟩
    · exact .inl l
    · exact .inr ⟨k,c,e,cellK x c e _ z⟩
  · obtain ⟨v,z⟩:=I.cell x c e
    exact ⟨v,cellK x c e v z⟩
  · obtain ⟨m,⟨o,_,_,ho,_⟩,_⟩:=I.loc
    exact free _ o (fun z=>(hch _ z).2.1 rfl) ho I.free
  · obtain ⟨v,o,ho,hd⟩:=I.cell x c e
    exact free c o (fun z=>(hch c z).2.2.1 x c e rfl) ho (I.freeC x c e)
  · obtain ⟨e,n,ne,nf,d⟩:=I.pin p hp
    have nch:p.1∉ch:=fun z=>(hch p.1 z).2.2.2 p hp rfl
    exact ⟨keep p.1 p.2 ne nf nch e n,free p.1 p.2 nch e n,ne,nf,d⟩
theorem Inv.un {t':Nat} (I:Inv X pins σ H s) (u:Un X.fs [] H H' s.heap h') (hok:HOk X.prog X.w H' h'):Inv X pins σ H' { s with heap:=h',toks:=t' }:=by
  obtain ⟨m,⟨o,es,ep,ho,r⟩,_⟩:=id I.loc
  obtain ⟨sl,hL⟩:=u.any ho I.free (by simp)
  exact I.step (g':=s.gens) (d':=s.drawn) (ch:=[]) (fun _ z=>nomatch z) (fun b o _ hb _ e n=>u.keep b o e n hb (by simp)) (fun b o _ hb _ e n=>u.slot b o e n hb (by simp)) (fun b o _ e n=>u.free b o e n (by simp)) (fun b o _ e=>u.there b o e (by simp)) u.tups u.frzs u.tbls (fun m' hm=>by
    obtain ⟨o',es',ep',ho',r'⟩:=hm
    rw [ho] at ho'; cases ho'
    exact ⟨_,es',ep',hL,r'⟩) hok I.bare
theorem Inv.call {g':Array GenState} {t':Nat} {d':Drawn} {ch:List Addr} (I:Inv X pins σ H s) (u:Un (frs X.stack) ch H H' s.heap h') (hok:HOk X.prog X.w H' h') (hg:AllBare g')
    (hch:∀ b∈ch,(b∈X.ex∨X.s₀.heap.objs.size≤b)∧b≠X.env.locals∧(∀ x c,X.env.cells.lookup x=some c→c≠b)∧∀ p∈X.pn++pins,p.1≠b) :
    Inv X pins σ H' { s with heap:=h',gens:=g',drawn:=d',toks:=t' }:=by
  obtain ⟨m,⟨o,es,ep,ho,r⟩,_⟩:=id I.loc
  obtain ⟨sl,hL⟩:=u.any ho I.free fun z=>(hch _ z).2.1 rfl
  exact I.step (ch:=ch) hch (fun b o hL hb hc e n=>u.keep b o e n (fun z=>(List.mem_cons.mp (I.stkSub b z)).elim hL hb) hc) (fun b o _ _ hc e n=>u.any e n hc) (fun b o hc e n=>u.free b o e n hc) (fun b o hc e=>u.there b o e hc) u.tups u.frzs u.tbls (fun m' hm=>by
    obtain ⟨o',es',ep',ho',r'⟩:=hm
    rw [ho] at ho'; cases ho'
    exact ⟨_,es',ep',hL,r'⟩) hok hg
theorem Inv.turned {t':Nat} {it:Addr} (I:Inv X pins σ H s) (k:∀ b o,b≠it→s.heap.get? b=some o→h'.get? b=some o) (hn:H it=none) (hL:it≠X.env.locals)
    (h1:it∈X.ex∨X.s₀.heap.objs.size≤it) (h2:∀ x c,X.env.cells.lookup x=some c→c≠it) (h3:∀ p∈X.pn++pins,p.1≠it):Inv X pins σ H { s with heap:=h',toks:=t' }:=by
  have nit:∀ b u,H b=some u→b≠it:=fun b u e z=>by rw [z,hn] at e; cases e
  refine I.step (g':=s.gens) (d':=s.drawn) (ch:=[it]) (fun b hb=>?_) (fun b o _ _ hc e _=>k b o (fun z=>hc (by simp [z])) e) (fun b o _ _ hc e _=>⟨o.slots,k b o (fun z=>hc (by simp [z])) e⟩) (fun _ _ _ _ n=>n)
    (fun b o hc e=>⟨o,k b o (fun z=>hc (by simp [z])) e⟩) (fun _ _ e=>e) (fun _ _ _ e=>e) (fun b ps e=>⟨#[],by rw [e]; simp⟩) (fun m hm=>?_) (fun b u e=>?_) I.bare
  · have e:b=it:=by simpa using hb
    subst e
    exact ⟨h1,hL,h2,h3⟩
  · obtain ⟨o,es,ep,ho,r⟩:=hm
    exact ⟨o,es,ep,k _ o (Ne.symm hL) ho,r⟩
  · refine (I.hok b u e).stay (fun c v hc q=>k c v ?_ q) (fun _ q=>q) (fun _ _ q=>q) fun _ _ _ q=>q
    rcases hc with z | z
    · rw [z]; exact nit b u e
    · exact nit c _ z
theorem Inv.tok (I:Inv X pins σ H s) (t:Nat):Inv X pins σ H { s with toks:=t }:=I.un (h':=s.heap) (t':=t) Un.refl I.hok
theorem Inv.kept {t':Nat} (I:Inv X pins σ H s) (k:∀ b u,s.heap.get? b=some u→h'.get? b=some u):Inv X pins σ H { s with heap:=h',toks:=t' }:=I.un (Un.kept k) (I.hok.kept k)
theorem Inv.laid {a:Addr} {o:HO} {t':Nat} (I:Inv X pins σ H s) (k:∀ b u,s.heap.get? b=some u→h'.get? b=some u) (hp:s.heap.objs.size≤a) (new:wC X.prog X.w (upd H a o) h' a o) :
    Inv X pins σ (upd H a o) { s with heap:=h',toks:=t' }:=I.un (Un.laid k hp (I.hok.fresh hp)) (I.hok.laid k hp new)
theorem Inv.write {x e:Addr} {o:HO} {t':Nat} (I:Inv X pins σ H s) (mu:Mut (H x)) (he:e=x∨H e=some (.own x)) (k:∀ b u,b≠e→s.heap.get? b=some u→h'.get? b=some u) (heo:∃ u,h'.get? e=some u)
    (new:wC X.prog X.w (upd H x o) h' x o):Inv X pins σ (upd H x o) { s with heap:=h',toks:=t' }:=I.un (Un.write mu he k heo) (I.hok.write mu he k heo new)
theorem Inv.weak {σ':List (Option V)} (I:Inv X pins σ H s) (hl:σ'.length=σ.length) (w:∀ (i:Nat) v,σ'[i]? = some (some v)→σ[i]? = some (some v)):Inv X pins σ' H s :=
  ⟨I.ok,I.os,I.bare,I.base,let ⟨m,hn,hl'⟩:=I.loc; ⟨m,hn,fun i x v e1 e2 e3=>hl' i x v e1 (w i v e2) e3⟩,I.cell,I.free,I.freeC,I.pin,I.hok,hl.trans I.len⟩
theorem Inv.pins_of {pins':List (Addr × Obj)} (I:Inv X pins σ H s) (h:∀ p∈pins',s.heap.get? p.1=some p.2∧H p.1=none∧p.1≠X.env.locals∧p.1∉X.fs∧∀ v,p.2.data≠.cell v):Inv X pins' σ H s :=
  ⟨I.ok,I.os,I.bare,I.base,I.loc,I.cell,I.free,I.freeC,fun p hp=>(List.mem_append.mp hp).elim (fun z=>I.pin p (List.mem_append_left _ z)) (h p),I.hok,I.len⟩
theorem aZ {N:List Str} (hN:N.Nodup) {i j:Nat} {x:Str} (a:N[i]? = some x) (b:N[j]? = some x):i=j:=by
  obtain ⟨h1,e1⟩:=List.getElem?_eq_some_iff.mp a
  obtain ⟨h2,e2⟩:=List.getElem?_eq_some_iff.mp b
  exact (List.getElem_inj hN).mp (e1.trans e2.symm)
theorem df {M:Model} {A:Around} {E:Value→Shared→Prop} {i:Nat} {x:Str} {v:V} {u:Value} {Q:Unit→Shared→Prop} (I:Inv X pins σ H s) (hN:X.N.Nodup) (hi:X.N[i]? = some x) (hx:Loc X.env.scope x) (r:RelV v u)
    (h:∀ s',Inv X pins (σ.set i (some v)) H s'→(∃ a,Heap.SameBut a s.heap s'.heap∧(a=X.env.locals∨X.env.cells.lookup x=some a))→Q () s') (hf:X.fn x=true∨X.env.scope.names.lookup x=some .local:=by first | exact .inl rfl | exact .inr rfl | assumption):wpAny M A (storeName X.env x u) Q E s:=by
  obtain ⟨m,hn,hl⟩:=id I.loc
  have hcls:(X.env.scope.kind == .class || (X.env.scope.kind == .module && X.env.locals != X.env.globals))=false:=by rw [I.ok.kind]; rfl
  have hiσ:i < σ.length:=by rw [I.len]; exact (List.getElem?_eq_some_iff.mp hi).1
  have cne:=I.cne
  have tracked:∀ {a:Addr} {h':Heap},(∃ o,s.heap.get? a=some o∧H a=none)→Heap.SameBut a s.heap h'→HOk X.prog X.w H h':=fun {a h'} ha hs b ob e=>by
    obtain ⟨_,_,hfree⟩:=ha
    refine (I.hok b ob e).stay (fun c w' hc q=>(hs.2 c ?_).trans q) (fun _ q=>q) (fun _ _ q=>q) fun _ _ _ q=>q
    rintro rfl
    rcases hc with rfl | hc
    · rw [hfree] at e; cases e
    · rw [hfree] at hc; cases hc
  rcases hx with hk | hk
  · refine wpAny_storeName_local hk hn (fun h' hn' hs=>?_) hcls
    obtain ⟨oL,_,_,hoL,_⟩:=id hn
    refine h _ ⟨I.ok,I.os,I.bare,⟨fun b o e n hb hx=>?_,fun b o e n hb hx=>?_,I.base.free,fun b o e hx=>?_,I.base.tups,I.base.frzs,I.base.tbls⟩,⟨_,hn',fun j y v' e1 e2 e3=>?_⟩,fun y c e=>?_,I.free,I.freeC,fun p hp=>?_,tracked ⟨oL,hoL,I.free⟩ hs,by simpa using I.len⟩ ⟨_,hs,.inl rfl⟩
    · exact (hs.2 b (Nat.ne_of_lt (Nat.lt_of_lt_of_le (Heap.lt_size e) I.ok.above))).trans (I.base.keep b o e n hb hx)
    · obtain ⟨sl,e1⟩:=I.base.slot b o e n hb hx
      exact ⟨sl,(hs.2 b (Nat.ne_of_lt (Nat.lt_of_lt_of_le (Heap.lt_size e) I.ok.above))).trans e1⟩
    · obtain ⟨o',e1⟩:=I.base.there b o e hx
      exact ⟨o',(hs.2 b (Nat.ne_of_lt (Nat.lt_of_lt_of_le (Heap.lt_size e) I.ok.above))).trans e1⟩
    · by_cases hj:j=i
      · subst hj
        rw [hi] at e1; cases e1
        rw [List.getElem?_set_self hiσ] at e2
        cases e2
        exact ⟨u,r,.inl ⟨hk,by simp⟩⟩
      · rw [List.getElem?_set_ne (Ne.symm hj)] at e2
        obtain ⟨u',r',q⟩:=hl j y v' e1 e2 e3
        refine ⟨u',r',?_⟩
        rcases q with ⟨k,e⟩ | ⟨k,c,e,z⟩
        · refine .inl ⟨k,?_⟩
          have:y≠x:=fun e=>hj (aZ hN e1 (e ▸ hi))
          simp [this,e]
        · exact .inr ⟨k,c,e,z.sameBut hs (cne y c e)⟩
    · obtain ⟨w',z⟩:=I.cell y c e
      exact ⟨w',z.sameBut hs (cne y c e)⟩
    · obtain ⟨e,n,ne,nf,d⟩:=I.pin p hp
      exact ⟨(hs.2 p.1 ne).trans e,n,ne,nf,d⟩
  · have hfn:X.fn x=true:=by
      rcases hf with z | z
      · exact z
      · rw [z] at hk; cases hk
    obtain ⟨c,hc⟩:=I.ok.has x (.inl hk)
    obtain ⟨w',z⟩:=I.cell x c hc
    refine wpAny_storeName_cell I.ok.kind hk hc z (fun h' hc' hs=>?_)
    obtain ⟨oc,hoc,hocd⟩:=id z
    refine h { s with heap:=h' } ⟨I.ok,I.os,I.bare,⟨fun b o e n hb hx=>?_,fun b o e n hb hx=>?_,I.base.free,fun b o e hx=>?_,I.base.tups,I.base.frzs,I.base.tbls⟩,⟨m,hn.sameBut hs (Ne.symm (cne x c hc)),fun j y v' e1 e2 e3=>?_⟩,fun y c' e=>?_,I.free,I.freeC,fun p hp=>?_,tracked ⟨oc,hoc,I.freeC x c hc⟩ hs,by simpa using I.len⟩ ⟨c,hs,.inr hc⟩
    · exact (hs.2 b (Nat.ne_of_lt (Nat.lt_of_lt_of_le (Heap.lt_size e) (I.ok.cab x c hfn hc)))).trans (I.base.keep b o e n hb hx)
    · obtain ⟨sl,e1⟩:=I.base.slot b o e n hb hx
      exact ⟨sl,(hs.2 b (Nat.ne_of_lt (Nat.lt_of_lt_of_le (Heap.lt_size e) (I.ok.cab x c hfn hc)))).trans e1⟩
    · obtain ⟨o',e1⟩:=I.base.there b o e hx
      exact ⟨o',(hs.2 b (Nat.ne_of_lt (Nat.lt_of_lt_of_le (Heap.lt_size e) (I.ok.cab x c hfn hc)))).trans e1⟩
    · by_cases hj:j=i
      · subst hj
        rw [hi] at e1; cases e1
        rw [List.getElem?_set_self hiσ] at e2
        cases e2
        exact ⟨u,r,.inr ⟨.inl hk,c,hc,hc'⟩⟩
      · rw [List.getElem?_set_ne (Ne.symm hj)] at e2
        obtain ⟨u',r',q⟩:=hl j y v' e1 e2 e3
        refine ⟨u',r',?_⟩
        rcases q with q | ⟨k,c',e,z'⟩
        · exact .inl q
        · refine .inr ⟨k,c',e,z'.sameBut hs ?_⟩
          rintro rfl
          exact hj (aZ hN e1 (I.ok.inj _ _ _ e hc ▸ hi))
    · by_cases hcc:c'=c
      · subst hcc; exact ⟨_,hc'⟩
      · obtain ⟨w2,z2⟩:=I.cell y c' e
        exact ⟨w2,z2.sameBut hs hcc⟩
    · obtain ⟨e,n,ne,nf,d⟩:=I.pin p hp
      refine ⟨(hs.2 p.1 ?_).trans e,n,ne,nf,d⟩
      intro q
      rw [q,hoc] at e
      have q':oc=p.2:=Option.some.inj e
      exact d w' (by rw [← q']; exact hocd)
theorem kQ {M:Model} {A:Around} {E:Value→Shared→Prop} {i:Nat} {x:Str} {v:V} {u:Value} {Q:Unit→Shared→Prop} (I:Inv X pins σ H s) (hN:X.N.Nodup) (hi:X.N[i]? = some x) (hx:Loc X.env.scope x) (r:RelV v u)
    (h:∀ s',Inv X pins (σ.set i (some v)) H s'→Q () s') (hf:X.fn x=true∨X.env.scope.names.lookup x=some .local:=by first | exact .inl rfl | exact .inr rfl | assumption):wpAny M A (storeName X.env x u) Q E s :=
  df I hN hi hx r (fun s' I' _=>h s' I') hf
theorem Inv.call' {s':Shared} {ch:List Addr} (I:Inv X pins σ H s) (ho:s'.os=s.os) (u:Un (frs X.stack) ch H H' s.heap s'.heap) (hok:HOk X.prog X.w H' s'.heap) (hg:AllBare s'.gens)
    (hch:∀ b∈ch,(b∈X.ex∨X.s₀.heap.objs.size≤b)∧b≠X.env.locals∧(∀ x c,X.env.cells.lookup x=some c→c≠b)∧∀ p∈X.pn++pins,p.1≠b):Inv X pins σ H' s':=by
  obtain ⟨h',g',d',t',o'⟩:=s'
  have e:o'=s.os:=ho
  subst e
  exact I.call (g':=g') (t':=t') (d':=d') u hok hg hch
end
abbrev XK:=Value→Option Addr→Hp→Prop
abbrev St:=List (Option V)
abbrev VK:=V→Hp→Prop
abbrev TE:=St→Hp→VK→Prop
abbrev TT:=St→Hp→(Bool→Hp→Prop)→Prop
abbrev TA:=St→Hp→(List V→Hp→Prop)→Prop
structure Ends where
  nx:St→Hp→Prop
  rt:VK
  bk:St→Hp→Prop:=fun _ _=>False
  ct:St→Hp→Prop:=fun _ _=>False
abbrev TS:=Ends→St→Hp→Prop
def EP (X:Cx) (pins:List (Addr × Obj)) (σ:St) (Q:VK) (u:Value) (s':Shared):Prop:=∃ v H',Inv X pins σ H' s'∧RelV v u∧Q v H'
def TP (X:Cx) (pins:List (Addr × Obj)) (σ:St) (Q:Bool→Hp→Prop) (b:Bool) (s':Shared):Prop:=∃ H',Inv X pins σ H' s'∧Q b H'
def AP (X:Cx) (pins:List (Addr × Obj)) (σ:St) (Q:List V→Hp→Prop) (us:List Value) (s':Shared):Prop:=∃ vs H',Inv X pins σ H' s'∧y_ vs us∧Q vs H'
def SP (X:Cx) (pins:List (Addr × Obj)) (D:Ends) (f:Flow) (s':Shared):Prop :=
  match f with
  | .next=>∃ σ' H',Inv X pins σ' H' s'∧D.nx σ' H'
  | .brk=>∃ σ' H',Inv X pins σ' H' s'∧D.bk σ' H'
  | .cont=>∃ σ' H',Inv X pins σ' H' s'∧D.ct σ' H'
  | .ret u=>∃ v σ' H',Inv X pins σ' H' s'∧RelV v u∧D.rt v H'
def PE (X:Cx) (e:Expr) (t:TE):Prop :=
  ∀ ⦃pins:List (Addr × Obj)⦄ (s:Shared) (σ:St) (H:Hp) (Q:VK),Inv X pins σ H s→t σ H Q→wpAny (model X.prog X.w) X.A (eval e X.env) (EP X pins σ Q) X.xe s
def PT (X:Cx) (e:Expr) (t:TT):Prop :=
  ∀ ⦃pins:List (Addr × Obj)⦄ (s:Shared) (σ:St) (H:Hp) (Q:Bool→Hp→Prop),Inv X pins σ H s→t σ H Q→wpAny (model X.prog X.w) X.A (isTrue e X.env (eval e X.env)) (TP X pins σ Q) X.xe s
def PW (X:Cx) (e:Expr) (t:TT):Prop :=
  ∀ ⦃whole:Sem Value⦄ (pins:List (Addr × Obj)) (s:Shared) (σ:St) (H:Hp) (Q:Bool→Hp→Prop),Inv X pins σ H s→t σ H Q→wpAny (model X.prog X.w) X.A (isTrue e X.env whole) (TP X pins σ Q) X.xe s
theorem PW.pt {X:Cx} {e:Expr} {t:TT} (h:PW X e t):PT X e t:=@h _
def PA (X:Cx) (es:List Expr) (t:TA):Prop :=
  ∀ ⦃pos:Pos⦄ (pins:List (Addr × Obj)) (s:Shared) (σ:St) (H:Hp) (Q:List V→Hp→Prop),Inv X pins σ H s→t σ H Q→wpAny (model X.prog X.w) X.A (spliced (backTo pos (starEach es X.env))) (AP X pins σ Q) X.xe s
def PS (X:Cx) (st:Stmt) (t:TS):Prop :=
  ∀ ⦃pins:List (Addr × Obj)⦄ (s:Shared) (σ:St) (H:Hp) (D:Ends),Inv X pins σ H s→t D σ H→wpAny (model X.prog X.w) X.A (exec st X.env) (SP X pins D) X.xe s
def PSs (X:Cx) (st:List Stmt) (t:TS):Prop :=
  ∀ ⦃pins:List (Addr × Obj)⦄ (s:Shared) (σ:St) (H:Hp) (D:Ends),Inv X pins σ H s→t D σ H→wpAny (model X.prog X.w) X.A (execs st X.env) (SP X pins D) X.xe s
theorem thn {α:Type} {t:Sem α} {Q Q':α→Shared→Prop} {M:Model} {A:Around} {E:Value→Shared→Prop} {s:Shared} (h:wpAny M A t Q E s) (hQ:∀ a s,Q a s→Q' a s):wpAny M A t Q' E s:=wpAny_mono h hQ fun _ _ x=>x
end L2
namespace L2
open PySem PySem.Spec PyProof.Rows
section
variable {X:Cx}
def sM (i:Nat):TE:=fun σ H Q=>∃ v,σ[i]? = some (some v)∧Q v H
def tC (v:V):TE:=fun _ H Q=>Q v H
theorem xbf {i:Nat} {x:Str} {pos:Pos} (hN:X.N[i]? = some x) (hv:Vis X.env.scope x) (hd:(x == ("__debug__" : Str))=false:=by decide) (hcd:(x == ("__classdict__" : Str))=false:=by decide):PE X (.Name x pos) (sM i):=by
  intro pins s σ H Q I h
  obtain ⟨v,e,h⟩:=h
  obtain ⟨m,hn,hl⟩:=I.loc
  obtain ⟨u,r,l⟩:=hl i x v hN e hv
  have fin:EP X pins σ Q u s:=⟨v,H,I,r,h⟩
  rcases l with ⟨hk,hm⟩ | ⟨hk,c,hc,hcell⟩
  · exact wpAny_Name (wpAny_loadName_local I.ok.kind hk hn hm fin) hd
  · rcases hk with hk | hk
    · exact wpAny_Name (wpAny_loadName_cell I.ok.kind hk hc hcell fin) hd
    · exact wpAny_Name (wpAny_loadName_free I.ok.kind hk hc hcell fin hcd) hd
theorem xi {i j pos}:PE X (.Constant (.int i) j pos) (tC (.int i)):=fun _ _ _ H _ I h=>wpAny_Constant_int ⟨.int i,H,I.tok _,⟨_,rfl⟩,h⟩
theorem zS {b j pos}:PE X (.Constant (.bool b) j pos) (tC (.bl b)):=fun _ _ _ H _ I h=>Constant_bool ⟨.bl b,H,I,rfl,h⟩
theorem fQ {j pos}:PE X (.Constant .none j pos) (tC .non):=fun _ _ _ H _ I h=>Constant_none ⟨.non,H,I,rfl,h⟩
theorem oh {x j pos}:PE X (.Constant (.str x) j pos) (tC (.str x)):=fun _ _ _ H _ I h=>Calls.Constant_str ⟨.str x,H,I.tok _,⟨_,rfl⟩,h⟩
def Gl (X:Cx) (x:Str):Prop:=X.env.kindOf x=some .globalImplicit
theorem qM {E:Value→Shared→Prop} {pins:List (Addr × Obj)} {s:Shared} {σ:St} {H:Hp} {x:Str} {u:Value} {pos:Pos} {Q:Value→Shared→Prop} (I:Inv X pins σ H s) (hg:Gl X x) (hm:X.mg x=some u) (h:Q u s)
    (hd:(x == ("__debug__" : Str))=false:=by decide):wpAny (model X.prog X.w) X.A (eval (.Name x pos) X.env) Q E s :=
  Calls.Name_function_global I.ok.kind hg (Calls.loadGlobal_global (by rw [I.ok.glob]; exact I.mod.glob.keeps I.bk) hm h) hd
theorem gg {E:Value→Shared→Prop} {pins:List (Addr × Obj)} {s:Shared} {σ:St} {H:Hp} {x:Str} {u:Value} {pos:Pos} {Q:Value→Shared→Prop} (I:Inv X pins σ H s) (hg:Gl X x) (hm:X.mg x=none) (hv:bootBuiltins x=some u) (h:Q u s)
    (hn:x ≠ "__name__" := by decide) (hd:(x == ("__debug__" : Str))=false:=by decide):wpAny (model X.prog X.w) X.A (eval (.Name x pos) X.env) Q E s:=by
  obtain ⟨mb,h1,h2⟩:=I.mod.blt
  exact Calls.Name_function_global I.ok.kind hg (Calls.loadGlobal_builtin (by rw [I.ok.glob]; exact I.mod.glob.keeps I.bk) hm (by rw [I.ok.blt]; exact h1.keeps I.bk) ((h2 x hn).trans hv) h) hd
theorem vh {x:Str} {v:V} {u:Value} {pos:Pos} (hg:Gl X x) (hm:X.mg x=some u) (r:RelV v u) (hd:(x == ("__debug__" : Str))=false:=by decide):PE X (.Name x pos) (tC v) :=
  fun _ _ _ H _ I h=>qM I hg hm ⟨v,H,I,r,h⟩ hd
theorem yY {x:Str} {v:V} {u:Value} {pos:Pos} (hg:Gl X x) (hm:X.mg x=none) (hv:bootBuiltins x=some u) (r:RelV v u) (hn:x ≠ "__name__" := by decide) (hd:(x == ("__debug__" : Str))=false:=by decide):PE X (.Name x pos) (tC v) :=
  fun _ _ _ H _ I h=>gg I hg hm hv ⟨v,H,I,r,h⟩ hn hd
variable {a b:Expr} {ta tb:TE} {pos:Pos}
def PC (X:Cx) (op:CmpOp) (a b:Expr) (t:TE):Prop :=
  ∀ (pins:List (Addr × Obj)) (s:Shared) (σ:St) (H:Hp) (Q:VK),Inv X pins σ H s→t σ H Q →
    wpAny (model X.prog X.w) X.A (eval a X.env) (fun v s₁=>wpAny (model X.prog X.w) X.A (eval b X.env) (fun u s₂=>wpAny (model X.prog X.w) X.A (compareOp op v u) (EP X pins σ Q) X.xe s₂) X.xe s₁) X.xe s
theorem bS (b:Expr) {op:CmpOp} (h:op≠.In) (h2:op≠.NotIn):behindInMarks op b=false:=by
  have e1:(op == CmpOp.In)=false:=by cases op <;> first | rfl | exact absurd rfl h
  have e2:(op == CmpOp.NotIn)=false:=by cases op <;> first | rfl | exact absurd rfl h2
  cases b <;> simp [behindInMarks,e1,e2]
def xcH (ta:TE):TE:=fun σ H Q=>ta σ H fun x H1=>Q (.bl (decide (x=.non))) H1
theorem RelV.none_iff {x:V} {v:Value} (r:RelV x v):(v == Value.none)=decide (x=.non):=by
  cases x with
  | non=>cases r; rfl
  | bl _=>cases r; rfl
  | int _=>obtain ⟨t,rfl⟩:=r; rfl
  | str _=>obtain ⟨t,rfl⟩:=r; rfl
  | byt _=>obtain ⟨t,rfl⟩:=r; rfl
  | flt _=>obtain ⟨t,rfl⟩:=r; rfl
  | ref _=>cases r; rfl
  | ty _=>cases r; rfl
theorem mj {j pos'} (ha:PE X a ta):PC X .Is a (.Constant .none j pos') (xcH ta):=by
  intro pins s σ H Q I h
  refine thn (@ha pins s σ H _ I h) fun v s1 ⟨x,H1,I1,r1,q1⟩=>?_
  exact Constant_none (is_none_gen ⟨.bl _,H1,I1,by rw [r1.none_iff]; rfl,q1⟩)
def tB (t:TE):TT:=fun σ H Q=>t σ H fun x H1=>∃ c,x=.bl c∧Q c H1
theorem my {op:CmpOp} {t:TE} (h:PC X op a b t) (h1:behindInMarks op b=false:=by first | exact bS _ (by decide) (by decide) | rfl):PT X (.Compare a [op] [b] pos) (tB t):=by
  intro pins s σ H Q I hw
  refine wpAny_isTrue_Compare1 (thn (@h pins s σ H _ I hw) fun v s1 h1=>thn h1 fun u s2 h2=>thn h2 fun c s3 ⟨x,H1,I1,r1,q1⟩=>?_) h1
  obtain ⟨d,rfl,q⟩:=q1
  cases r1
  exact wpAny_truthy_bool ⟨H1,I1,q⟩
theorem yB {e:Expr} {t:TE} (h:PE X e t) (he:∀ whole,isTrue e X.env whole=(do let v ← whole; standAt e.pos; holding [v] (truthy v)):=by intro _; rfl):PT X e (tB t):=by
  intro pins s σ H Q I hw
  refine isTrue_plain (thn (@h pins s σ H _ I hw) fun v s1 ⟨x,H1,I1,r1,q1⟩=>?_) (he _)
  obtain ⟨d,rfl,q⟩:=q1
  cases r1
  exact wpAny_truthy_bool ⟨H1,I1,q⟩
variable {tA tB':TT} {rest:List Expr}
def xcD (t u:TT):TT:=fun σ H Q=>t σ H fun c H1=>if c=true then u σ H1 Q else Q false H1
def tOr (t u:TT):TT:=fun σ H Q=>t σ H fun c H1=>if c=true then Q true H1 else u σ H1 Q
def xcB (t:TT):TT:=fun σ H Q=>t σ H fun c H1=>Q (!c) H1
theorem qK (ha:PT X a tA):PW X (.BoolOp .And [a] pos) tA:=by
  intro wh pins s σ H Q I h
  refine isTrue_and (thn (@ha pins s σ H Q I h) fun c s1 e=>?_)
  cases c with
  | true=>exact isTrue_and_nil e
  | false=>exact e
theorem zj (ha:PT X a tA):PW X (.BoolOp .Or [a] pos) tA:=by
  intro wh pins s σ H Q I h
  refine isTrue_or (thn (@ha pins s σ H Q I h) fun c s1 e=>?_)
  cases c with
  | false=>exact isTrue_or_nil e
  | true=>exact e
theorem j6 (ha:PT X a tA) (hb:PW X (.BoolOp .And (b::rest) pos) tB'):PW X (.BoolOp .And (a::b::rest) pos) (xcD tA tB'):=by
  intro wh pins s σ H Q I h
  refine isTrue_and (thn (@ha pins s σ H _ I h) fun c s1 ⟨H1,I1,q1⟩=>?_)
  cases c with
  | true=>exact @hb wh pins s1 σ H1 Q I1 q1
  | false=>exact ⟨H1,I1,q1⟩
theorem zc (ha:PT X a tA) (hb:PW X (.BoolOp .Or (b::rest) pos) tB'):PW X (.BoolOp .Or (a::b::rest) pos) (tOr tA tB'):=by
  intro wh pins s σ H Q I h
  refine isTrue_or (thn (@ha pins s σ H _ I h) fun c s1 ⟨H1,I1,q1⟩=>?_)
  cases c with
  | true=>exact ⟨H1,I1,q1⟩
  | false=>exact @hb wh pins s1 σ H1 Q I1 q1
theorem yD (ha:PT X a tA):PT X (.UnaryOp .Not a pos) (xcB tA):=by
  intro pins s σ H Q I h
  exact isTrue_not (@ha pins s σ H (fun c H1=>Q (!c) H1) I h)
def xan (ta tb:TE):TE:=fun σ H Q=>ta σ H fun x H1=>∃ c,x=.bl c∧if c=true then tb σ H1 Q else Q (.bl false) H1
def xc0 (ta tb:TE):TE:=fun σ H Q=>ta σ H fun x H1=>∃ c,x=.bl c∧if c=true then Q (.bl true) H1 else tb σ H1 Q
def xbp (ta:TE):TE:=fun σ H Q=>ta σ H fun x H1=>∃ c,x=.bl c∧Q (.bl (!c)) H1
theorem qr {op} {t:TE} (h:PE X a t):PE X (.BoolOp op [a] pos) t:=fun pins s σ H Q I hw=>BoolOp_one (@h pins s σ H Q I hw)
theorem qq (ha:PE X a ta) (hb:PE X (.BoolOp .And (b::rest) pos) tb):PE X (.BoolOp .And (a::b::rest) pos) (xan ta tb):=by
  intro pins s σ H Q I h
  refine BoolOp_and (thn (@ha pins s σ H _ I h) fun v s1 ⟨x,H1,I1,r1,q1⟩=>?_)
  obtain ⟨c,rfl,q1⟩:=q1
  cases r1
  refine wpAny_truthy_bool ?_
  cases c with
  | true=>exact @hb pins s1 σ H1 Q I1 q1
  | false=>exact ⟨.bl false,H1,I1,rfl,q1⟩
theorem xaU (ha:PE X a ta) (hb:PE X (.BoolOp .Or (b::rest) pos) tb):PE X (.BoolOp .Or (a::b::rest) pos) (xc0 ta tb):=by
  intro pins s σ H Q I h
  refine BoolOp_or (thn (@ha pins s σ H _ I h) fun v s1 ⟨x,H1,I1,r1,q1⟩=>?_)
  obtain ⟨c,rfl,q1⟩:=q1
  cases r1
  refine wpAny_truthy_bool ?_
  cases c with
  | false=>exact @hb pins s1 σ H1 Q I1 q1
  | true=>exact ⟨.bl true,H1,I1,rfl,q1⟩
theorem p6 (ha:PE X a ta):PE X (.UnaryOp .Not a pos) (xbp ta):=by
  intro pins s σ H Q I h
  refine UnaryOp_ (thn (@ha pins s σ H _ I h) fun v s1 ⟨x,H1,I1,r1,q1⟩=>?_)
  obtain ⟨c,rfl,q1⟩:=q1
  cases r1
  exact not_of (wpAny_truthy_bool ⟨.bl (!c),H1,I1,rfl,q1⟩)
end
end L2
namespace L2
open PySem PySem.Spec PyProof.Rows
def SqL (K:PySem.W.Frag) (H:Hp) (a:Addr) (xs:List V):Prop :=
  Rd H a (.lst xs) ∨
    ∃ (o:Obj) (its:Array Value) (n:Nat),K.lookup a=some o∧o.cls=.type "list" ∧ o.dict=none∧o.data=.seq its n∧its.size≤sizeLine∧y_ xs its.toList
def SqT (K:PySem.W.Frag) (H:Hp) (a:Addr) (xs:List V):Prop :=
  Rd H a (.tup xs) ∨
    ∃ (o:Obj) (its:Array Value) (n:Nat),K.lookup a=some o∧o.cls=.type "tuple" ∧ o.data=.seq its n∧its.size≤sizeLine∧y_ xs its.toList
def xdy:Value→Option V
  | .none=>some .non
  | .bool b=>some (.bl b)
  | .int i _=>some (.int i)
  | .str x _=>some (.str x)
  | .bytes b _=>some (.byt b)
  | .float b _=>some (.flt b)
  | .ref a=>some (.ref a)
  | .type n=>some (.ty n)
  | _=>none
theorem RelV.abs {x:V} {u:Value} (r:RelV x u):xdy u=some x:=by
  cases x with
  | non=>cases r; rfl
  | bl _=>cases r; rfl
  | int _=>obtain ⟨t,rfl⟩:=r; rfl
  | str _=>obtain ⟨t,rfl⟩:=r; rfl
  | byt _=>obtain ⟨t,rfl⟩:=r; rfl
  | flt _=>obtain ⟨t,rfl⟩:=r; rfl
  | ref _=>cases r; rfl
  | ty _=>cases r; rfl
theorem RelV.inj {x y:V} {u:Value} (r:RelV x u) (q:RelV y u):x=y:=Option.some.inj (r.abs.symm.trans q.abs)
theorem y_.inj:∀ {xs ys:List V} {us:List Value},y_ xs us→y_ ys us→xs=ys
  | _,_,_,.nil,.nil=>rfl
  | _,_,_,.cons r t,.cons r' t'=>by rw [r.inj r',y_.inj t t']
section
variable {X:Cx} {pins:List (Addr × Obj)} {σ:St} {H:Hp} {s:Shared} {a:Addr} {xs ys:List V}
theorem SqL.of {K:PySem.W.Frag} (h:H a=some (.lst xs)):SqL K H a xs:=.inl (.inl h)
theorem SqT.of {K:PySem.W.Frag} (h:H a=some (.tup xs)):SqT K H a xs:=.inl (.inl h)
theorem Inv.list (I:Inv X pins σ H s) (h:SqL X.K H a xs):∃ its:List Value,y_ xs its∧PlainL s.heap a its.toArray∧xs.length≤sizeLine:=by
  rcases h with h | ⟨o,its,n,hk,hc,hd,hs,hz,r⟩
  · obtain ⟨z,its,n,r,e⟩:=h.ok I.hok
    exact ⟨its,r,⟨_,n,e,rfl,rfl,rfl⟩,z⟩
  · refine ⟨its.toList,r,⟨o,n,I.kIn a o hk,hc,hd,by simpa using hs⟩,?_⟩
    have e:=r.length
    simp only [Array.length_toList] at e
    omega
theorem Inv.tuple (I:Inv X pins σ H s) (h:SqT X.K H a xs):∃ its:List Value,y_ xs its∧IsTup s.heap a its.toArray∧xs.length≤sizeLine:=by
  rcases h with h | ⟨o,its,n,hk,hc,hs,hz,r⟩
  · obtain ⟨z,its,r,p⟩:=h.ok I.hok
    exact ⟨its,r,p,z⟩
  · refine ⟨its.toList,r,⟨o,I.kIn a o hk,hc,n,by simpa using hs⟩,?_⟩
    have e:=r.length
    simp only [Array.length_toList] at e
    omega
theorem Inv.list_inj (I:Inv X pins σ H s) (h:SqL X.K H a xs) (h':SqL X.K H a ys):xs=ys:=by
  obtain ⟨its,r,⟨o,n,e,_,_,d⟩,_⟩:=I.list h
  obtain ⟨its',r',⟨o',n',e',_,_,d'⟩,_⟩:=I.list h'
  rw [e] at e'; cases e'
  rw [d] at d'
  injection d' with d1 _
  have:its=its':=by simpa using congrArg Array.toList d1
  subst this
  exact r.inj r'
theorem Inv.tuple_inj (I:Inv X pins σ H s) (h:SqT X.K H a xs) (h':SqT X.K H a ys):xs=ys:=by
  obtain ⟨its,r,⟨o,e,_,n,d⟩,_⟩:=I.tuple h
  obtain ⟨its',r',⟨o',e',_,n',d'⟩,_⟩:=I.tuple h'
  rw [e] at e'; cases e'
  rw [d] at d'
  injection d' with d1 _
  have:its=its':=by simpa using congrArg Array.toList d1
  subst this
  exact r.inj r'
end
abbrev Cx.wish (X:Cx) (E:Value→Shared→Prop):Cx:={ X with xe:=E }
abbrev Cx.nox (X:Cx):Cx:=X.wish fun _ _=>False
theorem Cx.Ok.wish {X:Cx} (ok:X.Ok) (E:Value→Shared→Prop):(X.wish E).Ok :=
  ⟨ok.mod,ok.kind,ok.glob,ok.blt,ok.above,ok.inj,ok.has,ok.cab,ok.hd,ok.frames,ok.stk,ok.exf,ok.bs,ok.bsz,ok.noex,ok.exfs,ok.funs,ok.frf⟩
theorem Cx.Ok.unwish {X:Cx} {E:Value→Shared→Prop} (ok:(X.wish E).Ok):X.Ok :=
  ⟨ok.mod,ok.kind,ok.glob,ok.blt,ok.above,ok.inj,ok.has,ok.cab,ok.hd,ok.frames,ok.stk,ok.exf,ok.bs,ok.bsz,ok.noex,ok.exfs,ok.funs,ok.frf⟩
section
variable {X:Cx} {pins:List (Addr × Obj)} {σ:St} {H:Hp} {s:Shared} {E:Value→Shared→Prop}
theorem Inv.wish (I:Inv X pins σ H s) (E:Value→Shared→Prop):Inv (X.wish E) pins σ H s:=⟨I.ok.wish E,I.os,I.bare,I.base,I.loc,I.cell,I.free,I.freeC,I.pin,I.hok,I.len⟩
theorem Inv.unwish (I:Inv (X.wish E) pins σ H s):Inv X pins σ H s:=⟨I.ok.unwish,I.os,I.bare,I.base,I.loc,I.cell,I.free,I.freeC,I.pin,I.hok,I.len⟩
theorem SP.unwish {D:Ends} {f:Flow} {s':Shared} (h:SP (X.wish E) pins D f s'):SP X pins D f s':=by
  cases f with
  | next=>obtain ⟨σ',H',I,q⟩:=h; exact ⟨σ',H',I.unwish,q⟩
  | brk=>obtain ⟨σ',H',I,q⟩:=h; exact ⟨σ',H',I.unwish,q⟩
  | cont=>obtain ⟨σ',H',I,q⟩:=h; exact ⟨σ',H',I.unwish,q⟩
  | ret u=>obtain ⟨v,σ',H',I,r,q⟩:=h; exact ⟨v,σ',H',I.unwish,r,q⟩
theorem PSs.nox {st:List Stmt} {t:TS} (h:PSs X.nox st t):PSs X st t:=fun pins s σ H D I hw =>
  wpAny_mono (@h pins s σ H D (I.wish _) hw) (fun _ _ q=>q.unwish) fun _ _ z=>False.elim z
end
section
variable {X:Cx} {st:Stmt} {rest:List Stmt} {t u:TS} {e:Expr} {te:TE} {pos:Pos}
def xa6:TS:=fun D σ H=>D.nx σ H
def xad (t u:TS):TS:=fun D σ H=>t { D with nx:=u D } σ H
theorem yb:PSs X [] xa6:=fun _ _ σ H _ I h=>wpAny_execs_nil ⟨σ,H,I,h⟩
theorem xj (h1:PS X st t) (h2:PSs X rest u):PSs X (st::rest) (xad t u):=by
  intro pins s σ H D I h
  refine wpAny_execs_cons (thn (@h1 pins s σ H { D with nx:=u D } I h) fun f s1 q=>?_)
  cases f with
  | next =>
    obtain ⟨σ',H',I',q⟩:=q
    exact @h2 pins s1 σ' H' D I' q
  | ret v=>exact q
  | brk=>exact q
  | cont=>exact q
theorem xl (h1:PS X st t):PSs X [st] t:=by
  intro pins s σ H D I h
  refine wpAny_execs_cons (thn (@h1 pins s σ H D I h) fun f s1 q=>?_)
  cases f with
  | next=>exact wpAny_execs_nil q
  | ret v=>exact q
  | brk=>exact q
  | cont=>exact q
theorem Inv.quiet {pins:List (Addr × Obj)} {σ:St} {H:Hp} {s:Shared} (I:Inv X pins σ H s):interactive X.env=false:=by simp [interactive,I.ok.kind]
def lH (te:TE):TS:=fun D σ H=>te σ H fun _ H1=>D.nx σ H1
theorem wk (he:PE X e te) (hs:swapsWith e none pos.line X.env=pure false:=by rfl):PS X (.Expr e pos) (lH te):=by
  intro pins s σ H D I h
  exact wpAny_Expr_any (thn (@he pins s σ H _ I h) fun v s1 ⟨x,H1,I1,r1,q1⟩=>⟨σ,H1,I1,q1⟩) I.quiet hs
def xae (te:TE):TS:=fun D σ H=>te σ H D.rt
theorem xN (he:PE X e te):PS X (.Return (some e) pos) (xae te):=by
  intro pins s σ H D I h
  exact wpAny_Return_some (thn (@he pins s σ H _ I h) fun v s1 ⟨x,H1,I1,r1,q1⟩=>⟨x,σ,H1,I1,r1,q1⟩)
def xck (c:TT) (t u:TS):TS:=fun D σ H=>c σ H fun b H1=>if b=true then t D σ H1 else u D σ H1
theorem yK {c:Expr} {a b:List Stmt} {tc:TT} (hc:PT X c tc) (ha:PSs X a t) (hb:PSs X b u):PS X (.If c a b pos) (xck tc t u):=by
  intro pins s σ H D I h
  refine wpAny_If (thn (@hc pins s σ H _ I h) fun d s1 ⟨H1,I1,q1⟩=>?_)
  cases d with
  | true=>exact @ha pins s1 σ H1 D I1 q1
  | false=>exact @hb pins s1 σ H1 D I1 q1
def rL:TS:=fun _ _ _=>False
theorem gL:PS X st rL:=fun _ _ _ _ _ _ h=>h.elim
end
abbrev TG:=V→St→Hp→(St→Hp→Prop)→Prop
abbrev TGs:=List V→St→Hp→(St→Hp→Prop)→Prop
def PG (X:Cx) (target:Expr) (t:TG):Prop :=
  ∀ (pins:List (Addr × Obj)) (s:Shared) (σ:St) (H:Hp) (v:V) (u:Value) (Q:St→Hp→Prop),Inv X pins σ H s→RelV v u→t v σ H Q →
    wpAny (model X.prog X.w) X.A (assign target X.env u) (fun _ s'=>∃ σ' H',Inv X pins σ' H' s'∧Q σ' H') X.xe s
def PGs (X:Cx) (ts:List Expr) (t:TGs):Prop :=
  ∀ (pins:List (Addr × Obj)) (s:Shared) (σ:St) (H:Hp) (vs:List V) (us:List Value) (Q:St→Hp→Prop),Inv X pins σ H s→y_ vs us→t vs σ H Q →
    wpAny (model X.prog X.w) X.A (assignInOrder ((assignEach ts X.env).map (·.2)) us) (fun _ s'=>∃ σ' H',Inv X pins σ' H' s'∧Q σ' H') X.xe s
abbrev xco:=V→V→V→Hp→(Hp→Prop)→Prop
def xc9 (X:Cx) (t:xco):Prop :=
  ∀ (pins:List (Addr × Obj)) (s:Shared) (σ:St) (H:Hp) (o i v:V) (ov iv u:Value) (Q:Hp→Prop),Inv X pins σ H s→RelV o ov→RelV i iv→RelV v u→t o i v H Q →
    wpAny (model X.prog X.w) X.A (setItem ov iv u) (fun _ s'=>∃ H',Inv X pins σ H' s'∧Q H') X.xe s
section
variable {X:Cx} {pos:Pos}
def gT (i:Nat):TG:=fun v σ H Q=>Q (σ.set i (some v)) H
theorem xw {i:Nat} {x:Str} (hN:X.N.Nodup) (hi:X.N[i]? = some x) (hx:Loc X.env.scope x) (hf:X.fn x=true∨X.env.scope.names.lookup x=some .local:=by first | exact .inl rfl | exact .inr rfl | assumption):PG X (.Name x pos) (gT i):=by
  intro pins s σ H v u Q I r h
  exact wpAny_assign_Name (kQ I hN hi hx r (fun s' I'=>⟨_,H,I',h⟩) hf)
def xbX:TGs:=fun vs σ H Q=>vs=[]∧Q σ H
def oQ (t:TG) (u:TGs):TGs:=fun vs σ H Q=>∃ v r,vs=v::r∧t v σ H fun σ' H'=>u r σ' H' Q
theorem yo:PGs X [] xbX:=by
  intro pins s σ H vs us Q I r h
  obtain ⟨e,h⟩:=h
  subst e
  cases r
  exact assignInOrder_nil ⟨σ,H,I,h⟩
theorem xx {e:Expr} {es:List Expr} {t:TG} {u:TGs} (h1:PG X e t) (h2:PGs X es u)
    (hs:(assignEach (e::es) X.env).map (·.2)=assign e X.env::(assignEach es X.env).map (·.2):=by rfl):PGs X (e::es) (oQ t u):=by
  intro pins s σ H vs us Q I r h
  obtain ⟨v,vr,e1,h⟩:=h
  subst e1
  cases r with
  | cons r rr =>
    rw [hs]
    refine assignInOrder_cons (thn (@h1 pins s σ H _ _ _ I r h) fun _ s1 ⟨σ1,H1,I1,q1⟩=>?_)
    exact @h2 pins s1 σ1 H1 _ _ Q I1 rr q1
def xbI (K:PySem.W.Frag) (n:Nat) (t:TGs):TG:=fun v σ H Q=>∃ a xs,v=.ref a∧SqT K H a xs∧xs.length=n∧t xs σ H Q
theorem xaI {es:List Expr} {k:Nat} {t:TGs} {n:Nat} (hc:X.calm=true) (h:PGs X es t)
    (hn:(assignEach es X.env).length=n:=by rfl) (hst:(assignEach es X.env).findIdx? (·.1)=none:=by rfl):PG X (.Tuple es k pos) (xbI X.K n t):=by
  intro pins s σ H v u Q I r hw
  obtain ⟨a,xs,e1,hq,hl,hw⟩:=hw
  subst e1
  cases r
  obtain ⟨its,rv,ht,hz⟩:=I.tuple hq
  refine assign_Tuple_tuple (I.ok.hd hc) ht (by simp [hn,← hl,rv.length]) hst fun h' hx=>?_
  have I1:Inv X pins σ H { s with heap:=h' }:=I.kept (t':=s.toks) fun b o e=>hx b o (Nat.ne_of_lt (Heap.lt_size e)) e
  exact @h pins _ σ H xs _ Q I1 (by simpa using rv) hw
def xcA (to ti:TE) (t:xco):TG:=fun v σ H Q=>to σ H fun o H1=>ti σ H1 fun i H2=>t o i v H2 fun H3=>Q σ H3
theorem hJ {o i:Expr} {to ti:TE} {t:xco} (ho:PE X o to) (hi:PE X i ti) (hs:xc9 X t)
    (ha:∀ v,assign (.Subscript o i pos) X.env v=(do
      let ov ← holding [v] (eval o X.env)
      let iv ← holding [v,ov] (eval i X.env)
      standAt pos
      holding [v,ov,iv] (setItem ov iv v)
      release [v,ov,iv] []):=by intro _; rfl):PG X (.Subscript o i pos) (xcA to ti t):=by
  intro pins s σ H v u Q I r h
  rw [ha]
  refine wpAny_bind (wpAny_holding (thn (@ho pins s σ H _ I h) fun ov s1 ⟨x,H1,I1,r1,q1⟩=>?_))
  refine wpAny_bind (wpAny_holding (thn (@hi pins s1 σ H1 _ I1 q1) fun iv s2 ⟨y,H2,I2,r2,q2⟩=>?_))
  refine wpAny_bind (wpAny_standAt (wpAny_bind (wpAny_holding (thn (@hs pins s2 σ H2 x y v ov iv u _ I2 r1 r2 r q2) fun _ s3 ⟨H3,I3,q3⟩=>?_))))
  exact wpAny_release ⟨σ,H3,I3,q3⟩
def lD (te:TE) (g:TG):TS:=fun D σ H=>te σ H fun x H1=>g x σ H1 D.nx
theorem zE {tg e:Expr} {te:TE} {g:TG} (he:PE X e te) (hg:PG X tg g) (hs:swapsWithSole [tg] e pos.line X.env=pure false:=by rfl) (hw:swappedStores [tg] e X.env=pure none:=by rfl)
    (h1:(assignEach [tg] X.env).map (·.2)=[assign tg X.env]:=by rfl):PS X (.Assign [tg] e pos) (lD te g):=by
  intro pins s σ H D I h
  refine wpAny_Assign_stores (thn (@he pins s σ H _ I h) fun v s1 ⟨x,H1,I1,r1,q1⟩=>?_) hs hw
  rw [h1]
  exact thn (@hg pins s1 σ H1 x v _ I1 r1 q1) fun _ s2 q=>q
theorem yc {i:Nat} {x:Str} {e:Expr} {te:TE} {pos':Pos} (hN:X.N.Nodup) (hi:X.N[i]? = some x) (hx:Loc X.env.scope x) (he:PE X e te) (hs:swapsWith e (some (.Name x pos')) pos.line X.env=pure false:=by rfl) (hf:X.fn x=true∨X.env.scope.names.lookup x=some .local:=by first | exact .inl rfl | exact .inr rfl | assumption) :
    PS X (.Assign [.Name x pos'] e pos) (lD te (gT i)):=by
  intro pins s σ H D I h
  refine wpAny_Assign_Name (thn (@he pins s σ H _ I h) fun v s1 ⟨y,H1,I1,r1,q1⟩=>?_) hs
  exact kQ I1 hN hi hx r1 (fun s2 I2=>⟨_,H1,I2,q1⟩) hf
def xcx (i j:Nat) (ta:TA):TS:=fun D σ H=>ta σ H fun vs H1=>∃ v w,vs=[v,w]∧D.nx ((σ.set i (some v)).set j (some w)) H1
theorem dM {i j:Nat} {x y:Str} {a b:Expr} {ta:TA} {px py pt:Pos} {kt k2 pt2} (hc:X.calm=true) (hN:X.N.Nodup) (hi:X.N[i]? = some x) (hj:X.N[j]? = some y) (hij:i≠j)
    (hx:X.env.scope.names.lookup x=some .local) (hy:X.env.scope.names.lookup y=some .local) (ha:PA X [a,b] ta)
    (hw:swappedStores [.Tuple [.Name x px,.Name y py] kt pt] (.Tuple [a,b] k2 pt2) X.env=pure (some [x,y]))
    (hs:swapsWithSole [.Tuple [.Name x px,.Name y py] kt pt] (.Tuple [a,b] k2 pt2) pos.line X.env=pure false:=by rfl) :
    PS X (.Assign [.Tuple [.Name x px,.Name y py] kt pt] (.Tuple [a,b] k2 pt2) pos) (xcx i j ta):=by
  intro pins s σ H D I h
  rw [exec_Assign_arm]
  refine wpAny_bind (wpAny_standAt ?_)
  rw [hs]
  refine wpAny_bind (wpAny_pure ?_)
  rw [if_neg (by decide)]
  refine wpAny_bind (Tuple_ (thn (@ha _ pins s σ H _ I h) fun us s1 ⟨vs,H1,I1,r1,q1⟩=>?_))
  obtain ⟨v,w,e1,q1⟩:=q1
  subst e1
  obtain ⟨u1,u2,rfl,rv,rw'⟩:∃ u1 u2,us=[u1,u2]∧RelV v u1∧RelV w u2:=by
    cases r1 with
    | cons p q =>
      cases q with
      | cons p' q' =>
        cases q'
        exact ⟨_,_,rfl,p,p'⟩
  refine wpAny_newObj_type ?_ (by show 2≤sizeLine; decide)
  have I2:Inv X pins σ H1 { s1 with heap:=s1.heap.push { cls:=.type "tuple", data:=.seq [u1,u2].toArray } }:=I1.kept (t':=s1.toks) fun b o e=>Heap.get?_push_of_some _ e
  rw [hw]
  refine wpAny_bind (wpAny_pure ?_)
  show wpAny (model X.prog X.w) X.A (do rule "assign.swapped-stores"; let items ← unpackItems (.ref s1.heap.objs.size) 2 none; assignInOrder [fun v=>bindName X.env y v,fun v=>bindName X.env x v] items.reverse; pure Flow.next) _ _ _
  refine wpAny_bind (wpAny_rule (wpAny_bind (unpackItems_tuple (items := #[u1,u2]) (I.ok.hd hc) (IsTup.new s1.heap _) fun h' hx'=>?_)))
  have I3:=I2.kept (h':=h') (t':=s1.toks) fun b o e=>hx' b o (Nat.ne_of_lt (Heap.lt_size e)) e
  show wpAny _ _ (assignInOrder [fun v=>bindName X.env y v,fun v=>bindName X.env x v] [u2,u1] >>= fun _=>pure Flow.next) _ _ _
  refine wpAny_bind (assignInOrder_cons (wpAny_bindName (kQ I3 hN hj (.inl hy) rw' (fun s2 I4=>?_) (.inr hy))))
  refine assignInOrder_cons (wpAny_bindName (kQ I4 hN hi (.inl hx) rv (fun s3 I5=>assignInOrder_nil (wpAny_pure ?_)) (.inr hx)))
  rw [List.set_comm _ _ (Ne.symm hij)] at I5
  exact ⟨_,H1,I5,q1⟩
end
section
variable {X:Cx} {pos:Pos}
def ox (c:TT) (tb:TS):TS:=fun D σ H=>∃ W:Nat→St→Hp→Prop,(∃ m,W m σ H)∧∀ m σ H,W m σ H →
  c σ H fun b H1=>if b=true then ∃ N:St→Hp→Prop,(∀ σ' H',N σ' H'→∃ m',m' < m∧W m' σ' H')∧tb { D with nx:=N,ct:=N,bk:=D.nx } σ H1 else D.nx σ H1
theorem aD {c:Expr} {body:List Stmt} {tc:TT} {tb:TS} (hp:PassesOwn (model X.prog X.w) X.A X.env X.xe) (hc:PT X c tc) (hb:PSs X body tb):PS X (.While c body [] pos) (ox tc tb):=by
  intro pins s σ H D I h
  obtain ⟨W,⟨m0,w0⟩,turn⟩:=h
  refine wpAny_While (codeAny_whileLoop (fun n s'=>∃ σ' H',Inv X pins σ' H' s'∧W n σ' H') ?_ m0 ⟨σ,H,I,w0⟩)
  rintro n s1 ⟨σ1,H1,I1,w1⟩
  refine wpAny_passesOwn hp (thn (@hc pins s1 σ1 H1 _ I1 (turn n σ1 H1 w1)) fun b s2 ⟨H2,I2,q2⟩=>?_)
  cases b with
  | true =>
    obtain ⟨N,hN,q2⟩:=q2
    rw [if_pos rfl]
    refine wpAny_passesOwn hp (thn (@hb pins s2 σ1 H2 _ I2 q2) fun f s3 q3=>?_)
    cases f with
    | next =>
      obtain ⟨σ3,H3,I3,n3⟩:=q3
      obtain ⟨m',hm,w3⟩:=hN σ3 H3 n3
      exact ⟨m',hm,σ3,H3,I3,w3⟩
    | cont =>
      obtain ⟨σ3,H3,I3,n3⟩:=q3
      obtain ⟨m',hm,w3⟩:=hN σ3 H3 n3
      exact ⟨m',hm,σ3,H3,I3,w3⟩
    | brk=>exact q3
    | ret v=>exact q3
  | false =>
    rw [if_neg Bool.false_ne_true]
    exact wpAny_execs_nil ⟨σ1,H2,I2,q2⟩
end
structure It where
  go:Nat→Hp→Prop
  yld:Nat→Hp→V→Hp→Prop
  stop:Nat→Hp→Prop
def tS (X:Cx) (pins:List (Addr × Obj)) (H:Hp) (b:Addr):Prop :=
  H b=none∧b≠X.env.locals∧b∉X.fs∧(b∈X.ex∨X.s₀.heap.objs.size≤b)∧(∀ x c,X.env.cells.lookup x=some c→c≠b)∧∀ p∈X.pn++pins,p.1≠b
theorem Inv.fpOk {X:Cx} {pins:List (Addr × Obj)} {σ:St} {H H':Hp} {s:Shared} {b:Addr} (I:Inv X pins σ H s) (hb:s.heap.objs.size≤b) (hn:H' b=none):tS X pins H' b:=by
  refine ⟨hn,Nat.ne_of_gt (Nat.lt_of_lt_of_le I.lt hb),I.nofs hb,.inr (Nat.le_trans I.sz hb),fun x c e z=>?_,fun p hp z=>?_⟩
  · obtain ⟨v,q⟩:=I.cell x c e
    exact absurd (Nat.lt_of_lt_of_le q.lt (by rw [z]; exact hb)) (Nat.lt_irrefl _)
  · exact absurd (Nat.lt_of_lt_of_le (Heap.lt_size (I.pin p hp).1) (by rw [z]; exact hb)) (Nat.lt_irrefl _)
structure Turn (P:Program) (w:World) (K:PySem.W.Frag) (tg:Expr) (J:It) (fp:List Addr) (it:Addr) (tn:Nat→Heap→Prop):Prop where
  mem:it∈fp
  obj:∀ i h,tn i h→∀ b∈fp,∃ o,h.get? b=some o∧∀ v,o.data≠.cell v
  keep:∀ i h h',tn i h→(∀ b∈fp,∀ o,h.get? b=some o→h'.get? b=some o)→tn i h'
  item:∀ (X:Cx),X.prog=P→X.w=w→X.K=K→X.calm=true→∀ (i:Nat) (pins:List (Addr × Obj)) (s:Shared) (σ:St) (H:Hp) (E:Value→Shared→Prop),Inv X pins σ H s→(∀ b∈fp,tS X pins H b)→tn i s.heap→J.go i H →
    wpAny (model P w) X.A (pyNext (.ref it)) (fun r s1=>∃ u,r=some u ∧
      wpAny (model P w) X.A (letOwnedTupleGo tg (.ref it) u) (fun _ s2=>∃ x H',Inv X pins σ H' s2∧RelV x u∧J.yld i H x H'∧tn (i+1) s2.heap∧∀ b∈fp,H' b=none) E s1) E s
  done:∀ (X:Cx),X.prog=P→X.w=w→X.K=K→X.calm=true→∀ (i:Nat) (pins:List (Addr × Obj)) (s:Shared) (σ:St) (H:Hp) (E:Value→Shared→Prop),Inv X pins σ H s→(∀ b∈fp,tS X pins H b)→tn i s.heap→J.stop i H →
    wpAny (model P w) X.A (pyNext (.ref it)) (fun r s1=>r=none∧Inv X pins σ H s1) E s
  self:∀ (A:Around) (i:Nat) (s:Shared) (Q:Value→Shared→Prop) (E:Value→Shared→Prop),tn i s.heap→Q (.ref it) s→wpAny (model P w) A (pyIter (.ref it)) Q E s
abbrev TI:=St→Hp→(It→Hp→Prop)→Prop
def PIE (X:Cx) (pins:List (Addr × Obj)) (σ:St) (tg:Expr) (R:It→Hp→Prop) (itv:Value) (s2:Shared):Prop :=
  ∃ (it:Addr) (fp:List Addr) (tn:Nat→Heap→Prop) (J:It) (H':Hp),itv=.ref it∧Inv X pins σ H' s2∧Turn X.prog X.w X.K tg J fp it tn∧tn 0 s2.heap∧(∀ b∈fp,tS X pins H' b)∧R J H'
def PI (X:Cx) (tg iter:Expr) (wi:TI):Prop :=
  ∀ (pins:List (Addr × Obj)) (s:Shared) (σ:St) (H:Hp) (R:It→Hp→Prop),Inv X pins σ H s→wi σ H R →
    wpAny (model X.prog X.w) X.A (eval iter X.env) (fun v s1=>wpAny (model X.prog X.w) X.A (pyIter v) (PIE X pins σ tg R) X.xe s1) X.xe s
theorem oR {M:Model} {A:Around} {E:Value→Shared→Prop} {s:Shared} {tg:Expr} {it:Addr} {u:Value} {o:Obj} {n:String} {vs:Array Value} {Q:Unit→Shared→Prop} (ho:s.heap.get? it=some o) (hc:o.cls=.type n) (hd:o.data=.fields vs)
    (hn:["enumerate", "zip", "dict_itemiterator", "dict_reverseitemiterator", "odict_iterator", "itertools.zip_longest", "itertools.pairwise"].contains n=false) (hQ:Q () s):wpAny M A (letOwnedTupleGo tg (.ref it) u) Q E s:=by
  unfold letOwnedTupleGo
  cases tg <;> first
    | exact wpAny_pure hQ
    | (cases u <;> first
        | exact wpAny_pure hQ
        | (refine wpAny_bind (wpAny_load ho ?_)
           rw [hc,hd]
           show wpAny M A (if (["enumerate", "zip", "dict_itemiterator", "dict_reverseitemiterator", "odict_iterator", "itertools.zip_longest", "itertools.pairwise"].contains n && vs[0]? == some (rawInt _))=true then _ else _) Q E s
           rw [if_neg (by intro h; rw [hn,Bool.false_and] at h; cases h)]
           exact wpAny_pure hQ))
def Itl (K:PySem.W.Frag) (a:Addr):It :=
  ⟨fun i H=>∃ xs x,SqL K H a xs∧xs[i]? = some x,fun i H x H'=>H'=H∧∀ xs,SqL K H a xs→xs[i]? = some x,fun i H=>∃ xs,SqL K H a xs∧xs.length≤i⟩
def Itt (K:PySem.W.Frag) (a:Addr):It :=
  ⟨fun i H=>∃ xs x,SqT K H a xs∧xs[i]? = some x,fun i H x H'=>H'=H∧∀ xs,SqT K H a xs→xs[i]? = some x,fun i H=>∃ xs,SqT K H a xs∧xs.length≤i⟩
def Itr (lo:Int) (n:Nat):It:=⟨fun i _=>i < n,fun i H x H'=>H'=H∧x=.int (lo+i),fun i _=>n≤i⟩
theorem bL {P:Program} {w:World} {K:PySem.W.Frag} {tg:Expr} (a it:Addr):Turn P w K tg (Itl K a) [it] it (fun i h=>h.IsListIter it a i) where
  mem:=by simp
  obj:=fun i h st b hb=>by
    have e:b=it:=by simpa using hb
    subst e
    obtain ⟨o,e,c,d⟩:=st
    exact ⟨o,e,fun v z=>by rw [d] at z; cases z⟩
  keep:=fun i h h' st k=>st.at fun o e=>k it (by simp) o e
  item:=by
    intro X hP hw hK hc i pins s σ H E I hf st hg
    subst hP hw hK
    obtain ⟨xs,x,hq,hx⟩:=hg
    obtain ⟨its,rv,p,hz⟩:=I.list hq
    obtain ⟨u,hu,ru⟩:=rv.get hx
    obtain ⟨f0,f1,f2,f3,f4,f5⟩:=hf it (by simp)
    refine wpAny_pyNext_list_item st p.isList (x:=u) (by simpa using hu) fun h' st' sb=>?_
    have I1:Inv X pins σ H { s with heap:=h' }:=I.turned (t':=s.toks) (fun b o hb e=>(sb.2 b hb).trans e) f0 f1 f3 f4 f5
    obtain ⟨o,e,c,d⟩:=id st'
    exact ⟨u,rfl,oR (s:={ s with heap:=h' }) e c d (by decide) ⟨x,H,I1,ru,⟨rfl,fun ys hy=>by rw [I.list_inj hy hq]; exact hx⟩,st',fun b hb=>(hf b hb).1⟩⟩
  done:=by
    intro X hP hw hK hc i pins s σ H E I hf st hg
    subst hP hw hK
    obtain ⟨xs,hq,hx⟩:=hg
    obtain ⟨its,rv,p,hz⟩:=I.list hq
    obtain ⟨f0,f1,f2,f3,f4,f5⟩:=hf it (by simp)
    have hl:=rv.length
    exact wpAny_pyNext_list_end (I.ok.hd hc) st p.isList (by simp; omega) fun h' eb=>⟨rfl,I.turned (t':=s.toks) (fun b o hb e=>eb b o hb e) f0 f1 f3 f4 f5⟩
  self:=fun _ _ _ _ _ st h=>wpAny_pyIter_listiter st h
theorem tx {P:Program} {w:World} {K:PySem.W.Frag} {tg:Expr} (a it:Addr):Turn P w K tg (Itt K a) [it] it (fun i h=>h.IsTupleIter it a i) where
  mem:=by simp
  obj:=fun i h st b hb=>by
    have e:b=it:=by simpa using hb
    subst e
    obtain ⟨o,e,c,d⟩:=st
    exact ⟨o,e,fun v z=>by rw [d] at z; cases z⟩
  keep:=fun i h h' st k=>st.at fun o e=>k it (by simp) o e
  item:=by
    intro X hP hw hK hc i pins s σ H E I hf st hg
    subst hP hw hK
    obtain ⟨xs,x,hq,hx⟩:=hg
    obtain ⟨its,rv,p,hz⟩:=I.tuple hq
    obtain ⟨u,hu,ru⟩:=rv.get hx
    obtain ⟨f0,f1,f2,f3,f4,f5⟩:=hf it (by simp)
    refine wpAny_pyNext_tuple_item st (show s.heap.IsTuple a its.toArray from p) (x:=u) (by simpa using hu) fun h' st' sb=>?_
    have I1:Inv X pins σ H { s with heap:=h' }:=I.turned (t':=s.toks) (fun b o hb e=>(sb.2 b hb).trans e) f0 f1 f3 f4 f5
    obtain ⟨o,e,c,d⟩:=id st'
    exact ⟨u,rfl,oR (s:={ s with heap:=h' }) e c d (by decide) ⟨x,H,I1,ru,⟨rfl,fun ys hy=>by rw [I.tuple_inj hy hq]; exact hx⟩,st',fun b hb=>(hf b hb).1⟩⟩
  done:=by
    intro X hP hw hK hc i pins s σ H E I hf st hg
    subst hP hw hK
    obtain ⟨xs,hq,hx⟩:=hg
    obtain ⟨its,rv,p,hz⟩:=I.tuple hq
    obtain ⟨f0,f1,f2,f3,f4,f5⟩:=hf it (by simp)
    have hl:=rv.length
    exact wpAny_pyNext_tuple_end (I.ok.hd hc) st (show s.heap.IsTuple a its.toArray from p) (by simp; omega) fun h' eb=>⟨rfl,I.turned (t':=s.toks) (fun b o hb e=>eb b o hb e) f0 f1 f3 f4 f5⟩
  self:=fun _ _ _ _ _ st h=>wpAny_pyIter_tupleiter st h
theorem tq {P:Program} {w:World} {K:PySem.W.Frag} {tg:Expr} (it:Addr) (lo:Int) (n:Nat):Turn P w K tg (Itr lo n) [it] it (fun i h=>IsRangeIter h it (lo+(i:Nat)*1) ((n:Int)-(i:Nat)) 1) where
  mem:=by simp
  obj:=fun i h st b hb=>by
    have e:b=it:=by simpa using hb
    subst e
    exact ⟨_,st,fun v z=>by
      have z':Data.fields _=Data.cell v:=z
      cases z'⟩
  keep:=fun i h h' st k=>k it (by simp) _ st
  item:=by
    intro X hP hw hK hc i pins s σ H E I hf st hg
    subst hP hw hK
    obtain ⟨f0,f1,f2,f3,f4,f5⟩:=hf it (by simp)
    have W:=Walks.range (prog:=X.prog) (w:=X.w) (I.ok.hd hc) it lo 1 n
    refine W.item i s _ _ hg st fun v h' tk hv st' kk=>?_
    obtain ⟨t,rfl⟩:=hv
    have I1:Inv X pins σ H { s with heap:=h',toks:=tk }:=I.turned (fun b o hb e=>kk b o (by simpa using hb) e) f0 f1 f3 f4 f5
    refine ⟨_,rfl,oR (s:={ s with heap:=h',toks:=tk }) (n := "range_iterator") st' rfl rfl (by decide) ⟨.int (lo+i),H,I1,⟨t,?_⟩,⟨rfl,rfl⟩,st',fun b hb=>(hf b hb).1⟩⟩
    rw [Int.mul_one]
  done:=by
    intro X hP hw hK hc i pins s σ H E I hf st hg
    subst hP hw hK
    obtain ⟨f0,f1,f2,f3,f4,f5⟩:=hf it (by simp)
    exact wpAny_pyNext_range_end (I.ok.hd hc) st (by have:n≤i:=hg; omega) fun h' eb=>⟨rfl,I.turned (t':=s.toks) (fun b o hb e=>eb b o hb e) f0 f1 f3 f4 f5⟩
  self:=fun _ _ _ _ _ st h=>wpAny_pyIter_rangeiter st h
end L2
namespace L2
open PySem PySem.Spec PyProof.Rows
section
variable {X:Cx} {tg:Expr}
def xca (K:PySem.W.Frag) (tl:TE):TI:=fun σ H R=>tl σ H fun x H1=>∃ a,x=.ref a∧(∃ xs,SqL K H1 a xs)∧R (Itl K a) H1
theorem c_ {pins:List (Addr × Obj)} {σ:St} {H:Hp} {s:Shared} {R:It→Hp→Prop} {E:Value→Shared→Prop} {lo hi:Int} {t u v:Tok} {tk:Nat} (I:Inv X pins σ H s) (h1:-(2 ^ 62)≤lo) (h2:lo < 2 ^ 62) (h3:-(2 ^ 62)≤hi) (h4:hi < 2 ^ 62)
    (q:R (Itr lo (hi-lo).toNat) H):wpAny (model X.prog X.w) X.A (pyIter (.ref s.heap.objs.size)) (PIE X pins σ tg R) E { s with heap:=s.heap.push { cls:=.type "range", data:=.fields #[.int lo t,.int hi u,.int 1 v] },toks:=tk }:=by
  refine wpAny_pyIter_range (IsRange.new ..) (small_one h1 h2 h3 h4) ?_
  have I1:Inv X pins σ H { s with heap:=s.heap.push { cls:=.type "range", data:=.fields #[.int lo t,.int hi u,.int 1 v] },toks:=tk }:=I.kept fun b o e=>Heap.get?_push_of_some _ e
  refine ⟨(s.heap.push { cls:=.type "range", data:=.fields #[.int lo t,.int hi u,.int 1 v] }).objs.size,[(s.heap.push { cls:=.type "range", data:=.fields #[.int lo t,.int hi u,.int 1 v] }).objs.size],_,_,H,rfl,
    I1.kept (t':=tk) fun b o e=>Heap.get?_push_of_some _ e,tq _ lo (hi-lo).toNat,?_,fun b hb=>?_,q⟩
  · have e1:lo+((0:Nat):Int)*1=lo:=by simp
    have e2:(((hi-lo).toNat:Nat):Int)-((0:Nat):Int)=Builtin.Range.rangeSize lo hi 1:=by rw [rangeSize_one]; split <;> omega
    show IsRangeIter _ _ (lo+((0:Nat):Int)*1) ((((hi-lo).toNat:Nat):Int)-((0:Nat):Int)) 1
    rw [e1,e2]
    exact Heap.get?_push_size _ rfl
  · have e:b=(s.heap.push { cls:=.type "range", data:=.fields #[.int lo t,.int hi u,.int 1 v] }).objs.size:=by simpa using hb
    subst e
    exact I1.fpOk (Nat.le_refl _) (I1.hok.fresh (Nat.le_refl _))
def xbr (ta:TA):TI:=fun σ H R=>ta σ H fun vs H1=>∃ j:Int,vs=[.int j]∧-(2 ^ 62)≤j∧j < 2 ^ 62∧R (Itr 0 j.toNat) H1
theorem qC {a:Expr} {ta:TA} {p pos:Pos} (hg:Gl X "range") (hm:X.mg "range" = none) (ha:PA X [a] ta) (hs:starEach [a] X.env=[(false,eval a X.env)]:=by rfl):PI X tg (.Call (.Name "range" p) [a] [] pos) (xbr ta):=by
  intro pins s σ H R I h
  refine Call_ (gg I hg hm boot_range (PyProof.Rows.callWith_type1 (thn (@ha pos pins s σ H _ I h) fun us s1 ⟨vs,H1,I1,r1,q1⟩=>?_) hs rfl))
  obtain ⟨j,e,q1,q2,q⟩:=q1
  subst e
  cases r1 with
  | cons r rr =>
    cases rr
    obtain ⟨t,rfl⟩:=r
    exact call_range_1 (c_ I1 (by omega) (by omega) q1 q2 (by simpa using q))
def xc7 (wi:TI) (g:TG) (tb:TS):TS:=fun D σ H=>wi σ H fun J H1=>∃ W:Nat→Nat→St→Hp→Prop,(∃ m,W 0 m σ H1)∧∀ i m σ H,W i m σ H →
  (J.stop i H∧D.nx σ H)∨(J.go i H∧∃ N:St→Hp→Prop,(∀ σ' H',N σ' H'→∃ m',m' < m∧W (i+1) m' σ' H')∧∀ x H',J.yld i H x H'→g x σ H' fun σ2 H2=>tb { D with nx:=N,ct:=N,bk:=D.nx } σ2 H2)
def dW (fp:List Addr) (h:Heap):List (Addr × Obj):=fp.filterMap fun b=>(h.get? b).map fun o=>(b,o)
theorem vp {fp:List Addr} {h:Heap} {b:Addr} {o:Obj} (hb:b∈fp) (e:h.get? b=some o):(b,o)∈dW fp h:=List.mem_filterMap.mpr ⟨b,hb,by rw [e]; rfl⟩
theorem ny {fp:List Addr} {h:Heap} {p:Addr × Obj} (hp:p∈dW fp h):p.1∈fp∧h.get? p.1=some p.2:=by
  obtain ⟨b,hb,e⟩:=List.mem_filterMap.mp hp
  cases q:h.get? b with
  | none=>rw [q] at e; cases e
  | some o =>
    rw [q] at e
    have e':(b,o)=p:=Option.some.inj e
    subst e'
    exact ⟨hb,q⟩
theorem Inv.pinned {pins:List (Addr × Obj)} {σ:St} {H:Hp} {s:Shared} {fp:List Addr} (I:Inv X pins σ H s) (hf:∀ b∈fp,tS X pins H b) (ho:∀ b∈fp,∃ o,s.heap.get? b=some o∧∀ v,o.data≠.cell v):Inv X (pins++dW fp s.heap) σ H s :=
  I.pins_of fun p hp=>(List.mem_append.mp hp).elim (fun z=>I.pin p (List.mem_append_right _ z)) fun z=>by
    obtain ⟨hb,e⟩:=ny z
    obtain ⟨f0,f1,f2,_⟩:=hf p.1 hb
    obtain ⟨o,e',d⟩:=ho p.1 hb
    rw [e] at e'; cases e'
    exact ⟨e,f0,f1,f2,d⟩
theorem Inv.unpinned {pins pl:List (Addr × Obj)} {σ:St} {H:Hp} {s:Shared} (I:Inv X (pins++pl) σ H s):Inv X pins σ H s:=I.pins_of fun p hp=>I.pin p (List.mem_append_right _ (List.mem_append_left _ hp))
theorem wH {iter:Expr} {body:List Stmt} {wi:TI} {g:TG} {tb:TS} {pos:Pos} (hp:PassesOwn (model X.prog X.w) X.A X.env X.xe) (hc:X.calm=true) (hi:PI X tg iter wi) (hg:PG X tg g) (hb:PSs X body tb)
    (hs:∀ x,foldedSetIterable iter X.env x=pure x:=by intro _; rfl):PS X (.For tg iter body [] pos) (xc7 wi g tb):=by
  intro pins s σ H D I h
  refine wpAny_For (thn (@hi pins s σ H _ I h) fun v s1 h1=>thn h1 fun itv s2 h2=>?_) hs
  obtain ⟨it,fp,tn,J,H2,e,I2,T,st2,f2,W,⟨m0,w0⟩,turn⟩:=h2
  subst e
  have stat:∀ {H':Hp},(∀ b∈fp,H' b=none)→∀ b∈fp,tS X pins H' b:=fun hn b hb=>⟨hn b hb,(f2 b hb).2⟩
  refine codeAny_forLoop_any (fun n s'=>∃ i σ' H',Inv X pins σ' H' s'∧tn i s'.heap∧(∀ b∈fp,H' b=none)∧W i n σ' H') ?_ m0 ⟨0,σ,H2,I2,st2,fun b hb=>(f2 b hb).1,w0⟩
  rintro n s3 ⟨i,σ3,H3,I3,st3,fr3,w3⟩
  rcases turn i n σ3 H3 w3 with ⟨stop,qn⟩ | ⟨go,N,hN,step⟩
  · refine wpAny_passesOwn hp (thn (T.done X rfl rfl rfl hc i pins s3 σ3 H3 X.xe I3 (stat fr3) st3 stop) fun r s4 ⟨hr,I4⟩=>?_)
    subst hr
    exact wpAny_execs_nil ⟨σ3,H3,I4,qn⟩
  · refine wpAny_passesOwn hp (thn (T.item X rfl rfl rfl hc i pins s3 σ3 H3 X.xe I3 (stat fr3) st3 go) fun r s4 ⟨u,hr,h4⟩=>?_)
    subst hr
    refine wpAny_passesOwn hp (thn h4 fun _ s5 ⟨x,H5,I5,r5,y5,st5,fr5⟩=>?_)
    have I5':=I5.pinned (stat fr5) (T.obj _ _ st5)
    refine wpAny_passesOwn hp (thn (hg _ s5 σ3 H5 x u _ I5' r5 (step x H5 y5)) fun _ s6 ⟨σ6,H6,I6,q6⟩=>?_)
    refine wpAny_passesOwn hp (thn (@hb _ s6 σ6 H6 _ I6 q6) fun f s7 q7=>?_)
    have again:∀ {σ7:St} {H7:Hp},Inv X (pins++dW fp s5.heap) σ7 H7 s7→N σ7 H7→∃ m,m < n∧∃ i σ' H',Inv X pins σ' H' s7∧tn i s7.heap∧(∀ b∈fp,H' b=none)∧W i m σ' H':=fun {σ7 H7} I7 n7=>by
      obtain ⟨m',hm,w7⟩:=hN σ7 H7 n7
      refine ⟨m',hm,i+1,σ7,H7,I7.unpinned,T.keep _ _ _ st5 fun b hb o e=>(I7.pin (b,o) (List.mem_append_right _ (List.mem_append_right _ (vp hb e)))).1,fun b hb=>?_,w7⟩
      obtain ⟨o,e,d⟩:=T.obj _ _ st5 b hb
      exact (I7.pin (b,o) (List.mem_append_right _ (List.mem_append_right _ (vp hb e)))).2.1
    cases f with
    | next=>obtain ⟨σ7,H7,I7,n7⟩:=q7; exact again I7 n7
    | cont=>obtain ⟨σ7,H7,I7,n7⟩:=q7; exact again I7 n7
    | brk=>obtain ⟨σ7,H7,I7,q7⟩:=q7; exact ⟨σ7,H7,I7.unpinned,q7⟩
    | ret v=>obtain ⟨x7,σ7,H7,I7,r7,q7⟩:=q7; exact ⟨x7,σ7,H7,I7.unpinned,r7,q7⟩
end
end L2
namespace L2
open PySem PySem.Spec PyProof.Rows
abbrev R2:=V→V→Hp→VK→Prop
def OpR (X:Cx) (f:Value→Value→Sem Value) (r:R2):Prop :=
  ∀ (pins:List (Addr × Obj)) (s:Shared) (σ:St) (H:Hp) (x y:V) (v u:Value) (Q:VK),Inv X pins σ H s→RelV x v→RelV y u→r x y H Q →
    wpAny (model X.prog X.w) X.A (f v u) (EP X pins σ Q) X.xe s
def UnR (X:Cx) (f:Value→Sem Value) (r:V→Hp→VK→Prop):Prop :=
  ∀ (pins:List (Addr × Obj)) (s:Shared) (σ:St) (H:Hp) (x:V) (v:Value) (Q:VK),Inv X pins σ H s→RelV x v→r x H Q →
    wpAny (model X.prog X.w) X.A (f v) (EP X pins σ Q) X.xe s
def qs (X:Cx) (f:Value) (r:List V→Hp→VK→Prop):Prop :=
  ∀ (pins:List (Addr × Obj)) (s:Shared) (σ:St) (H:Hp) (xs:List V) (us:List Value) (Q:VK),Inv X pins σ H s→y_ xs us→r xs H Q →
    wpAny (model X.prog X.w) X.A (call f us) (EP X pins σ Q) X.xe s
def xde (X:Cx) (r:V→Hp→(Bool→Hp→Prop)→Prop):Prop :=
  ∀ (pins:List (Addr × Obj)) (s:Shared) (σ:St) (H:Hp) (x:V) (v:Value) (Q:Bool→Hp→Prop),Inv X pins σ H s→RelV x v→r x H Q →
    wpAny (model X.prog X.w) X.A (truthy v) (TP X pins σ Q) X.xe s
def tOp (r:R2) (ta tb:TE):TE:=fun σ H Q=>ta σ H fun x H1=>tb σ H1 fun y H2=>r x y H2 Q
def tUn (r:V→Hp→VK→Prop) (ta:TE):TE:=fun σ H Q=>ta σ H fun x H1=>r x H1 Q
def rI (C:Int→Int→Prop) (g:Int→Int→V):R2:=fun x y H Q=>∃ i j,x=.int i∧y=.int j∧C i j∧Q (g i j) H
def rI0 (g:Int→Int→V):R2:=fun x y H Q=>∃ i j,x=.int i∧y=.int j∧Q (g i j) H
def rU (g:Int→V):V→Hp→VK→Prop:=fun x H Q=>∃ i,x=.int i∧Q (g i) H
section
variable {X:Cx} {a b c:Expr} {ta tb tc:TE} {pos:Pos}
theorem xbW (ha:PE X a ta) (hb:PE X b tb) {pins:List (Addr × Obj)} {s:Shared} {σ:St} {H:Hp} {R:V→V→Hp→Prop} (I:Inv X pins σ H s)
    (h:ta σ H fun x H1=>tb σ H1 fun y H2=>R x y H2) {Q:Value→Shared→Prop} {f:Value→Value→Sem Value}
    (hf:∀ v u s2 x y H2,Inv X pins σ H2 s2→RelV x v→RelV y u→R x y H2→wpAny (model X.prog X.w) X.A (f v u) Q X.xe s2) :
    wpAny (model X.prog X.w) X.A (eval a X.env) (fun v s₁=>wpAny (model X.prog X.w) X.A (eval b X.env) (fun u s₂=>wpAny (model X.prog X.w) X.A (f v u) Q X.xe s₂) X.xe s₁) X.xe s:=by
  refine thn (@ha pins s σ H _ I h) fun v s1 ⟨x,H1,I1,r1,q1⟩=>?_
  refine thn (@hb pins s1 σ H1 _ I1 q1) fun u s2 ⟨y,H2,I2,r2,q2⟩=>?_
  exact hf v u s2 x y H2 I2 r1 r2 q2
theorem xF {op:Operator} {r:R2} (ho:OpR X (binaryOp op) r) (ha:PE X a ta) (hb:PE X b tb):PE X (.BinOp a op b pos) (tOp r ta tb):=by
  intro pins s σ H Q I h
  exact wpAny_BinOp (xbW ha hb I h fun v u s2 x y H2 I2 rx ry q=>@ho pins s2 σ H2 x y v u Q I2 rx ry q)
theorem uK {op:UnaryOp} {r:V→Hp→VK→Prop} (ho:UnR X (unaryOp op) r) (ha:PE X a ta):PE X (.UnaryOp op a pos) (tUn r ta):=by
  intro pins s σ H Q I h
  exact UnaryOp_ (thn (@ha pins s σ H _ I h) fun v s1 ⟨x,H1,I1,r1,q1⟩=>@ho pins s1 σ H1 x v Q I1 r1 q1)
theorem opI {f:Value→Value→Sem Value} {C:Int→Int→Prop} {g:Int→Int→Int}
    (rule:∀ (i j:Int) (t u:Tok) (s:Shared) (Q:Value→Shared→Prop) (E:Value→Shared→Prop),C i j→Q (.int (g i j) s.toks) { s with toks:=s.toks+1 }→wpAny (model X.prog X.w) X.A (f (.int i t) (.int j u)) Q E s) :
    OpR X f (rI C fun i j=>.int (g i j)):=by
  intro pins s σ H x y v u Q I rx ry h
  obtain ⟨i,j,rfl,rfl,hc,q⟩:=h
  obtain ⟨t,rfl⟩:=rx
  obtain ⟨t',rfl⟩:=ry
  exact rule i j t t' s _ _ hc ⟨.int (g i j),H,I.tok _,⟨_,rfl⟩,q⟩
theorem xcW {f:Value→Value→Sem Value} {g:Int→Int→Int}
    (rule:∀ (i j:Int) (t u:Tok) (s:Shared) (Q:Value→Shared→Prop) (E:Value→Shared→Prop),Q (.int (g i j) s.toks) { s with toks:=s.toks+1 }→wpAny (model X.prog X.w) X.A (f (.int i t) (.int j u)) Q E s) :
    OpR X f (rI0 fun i j=>.int (g i j)):=by
  intro pins s σ H x y v u Q I rx ry h
  obtain ⟨i,j,rfl,rfl,q⟩:=h
  obtain ⟨t,rfl⟩:=rx
  obtain ⟨t',rfl⟩:=ry
  exact rule i j t t' s _ _ ⟨.int (g i j),H,I.tok _,⟨_,rfl⟩,q⟩
theorem xbC {f:Value→Value→Sem Value} {g:Int→Int→Bool}
    (rule:∀ (i j:Int) (t u:Tok) (s:Shared) (Q:Value→Shared→Prop) (E:Value→Shared→Prop),Q (.bool (g i j)) s→wpAny (model X.prog X.w) X.A (f (.int i t) (.int j u)) Q E s) :
    OpR X f (rI0 fun i j=>.bl (g i j)):=by
  intro pins s σ H x y v u Q I rx ry h
  obtain ⟨i,j,rfl,rfl,q⟩:=h
  obtain ⟨t,rfl⟩:=rx
  obtain ⟨t',rfl⟩:=ry
  exact rule i j t t' s _ _ ⟨.bl (g i j),H,I,rfl,q⟩
def xcR (i j:Int):Prop:=0≤j∧j≤1000000∧i.natAbs < 2 ^ 64
def xbD (i j:Int):Prop:=(-(2 ^ 64) < i∧i < 2 ^ 64)∨(-(2 ^ 64) < j∧j < 2 ^ 64)
theorem xbD.ok {i j:Int} (h:xbD i j):IntMulOk i j:=by
  rcases h with ⟨h1,h2⟩ | ⟨h1,h2⟩
  · exact .of_left (intBits_le_64 h1 h2)
  · exact .of_right (intBits_le_64 h1 h2)
theorem zp:OpR X (binaryOp .Add) (rI0 fun i j=>.int (i+j)):=xcW fun _ _ _ _ _ _ _ q=>add_int q
theorem zy:OpR X (binaryOp .Sub) (rI0 fun i j=>.int (i-j)):=xcW fun _ _ _ _ _ _ _ q=>sub_int q
theorem fD:OpR X (binaryOp .Mult) (rI xbD fun i j=>.int (i*j)):=opI fun _ _ _ _ _ _ _ hc q=>mul_int q hc.ok
theorem j3:OpR X (binaryOp .Mod) (rI (fun _ j=>0 < j) fun i j=>.int (i % j)):=opI fun i j _ _ _ _ _ hc q=>by
  have h1:(0:Int) < j:=hc
  exact mod_int' (by omega) (by rw [Int.fmod_eq_emod_of_nonneg i (by omega)]; exact q)
theorem mo:OpR X (binaryOp .Mod) (rI (fun _ j=>j≠0) fun i j=>.int (i.fmod j)):=opI fun _ _ _ _ _ _ _ hc q=>mod_int' hc q
theorem oF:OpR X (binaryOp .Pow) (rI xcR fun i j=>.int (i ^ j.toNat)):=opI fun _ _ _ _ _ _ _ hc q=>pow_int_small hc.1 hc.2.1 hc.2.2 q
theorem unI {f:Value→Sem Value} {g:Int→Int}
    (rule:∀ (i:Int) (t:Tok) (s:Shared) (Q:Value→Shared→Prop) (E:Value→Shared→Prop),Q (.int (g i) s.toks) { s with toks:=s.toks+1 }→wpAny (model X.prog X.w) X.A (f (.int i t)) Q E s) :
    UnR X f (rU fun i=>.int (g i)):=by
  intro pins s σ H x v Q I rx h
  obtain ⟨i,rfl,q⟩:=h
  obtain ⟨t,rfl⟩:=rx
  exact rule i t s _ _ ⟨.int (g i),H,I.tok _,⟨_,rfl⟩,q⟩
theorem zH:UnR X (unaryOp .USub) (rU fun i=>.int (-i)):=unI fun _ _ _ _ _ q=>neg_int q
end
section
variable {X:Cx} {a b c:Expr} {ta tb tc:TE} {pos:Pos}
theorem xby:OpR X (compareOp .Lt) (rI0 fun i j=>.bl (decide (i < j))):=xbC fun _ _ _ _ _ _ _ q=>lt_int q
theorem sJ:OpR X (compareOp .LtE) (rI0 fun i j=>.bl (decide (i≤j))):=xbC fun _ _ _ _ _ _ _ q=>le_int q
theorem pG:OpR X (compareOp .Gt) (rI0 fun i j=>.bl (decide (j < i))):=xbC fun _ _ _ _ _ _ _ q=>gt_int q
theorem lh:OpR X (compareOp .GtE) (rI0 fun i j=>.bl (decide (j≤i))):=xbC fun _ _ _ _ _ _ _ q=>ge_int q
theorem OpR.or {f:Value→Value→Sem Value} {r r':R2} (h:OpR X f r) (h':OpR X f r'):OpR X f (fun x y H Q=>r x y H Q∨r' x y H Q):=by
  intro pins s σ H x y v u Q I rx ry q
  rcases q with q | q
  · exact @h pins s σ H x y v u Q I rx ry q
  · exact @h' pins s σ H x y v u Q I rx ry q
theorem xR (b:Expr) {op:CmpOp} (h:op≠.In:=by decide) (h2:op≠.NotIn:=by decide):behindInMarks op b=false:=by
  have e1:(op == CmpOp.In)=false:=by cases op <;> first | rfl | exact absurd rfl h
  have e2:(op == CmpOp.NotIn)=false:=by cases op <;> first | rfl | exact absurd rfl h2
  cases b <;> simp [behindInMarks,e1,e2]
theorem za {op:CmpOp} {r:R2} (ho:OpR X (compareOp op) r) (ha:PE X a ta) (hb:PE X b tb) (hm:behindInMarks op b=false):PE X (.Compare a [op] [b] pos) (tOp r ta tb):=by
  intro pins s σ H Q I h
  exact wpAny_Compare1 (xbW ha hb I h fun v u s2 x y H2 I2 rx ry q=>@ho pins s2 σ H2 x y v u Q I2 rx ry q) hm
def lg (t:TE):TT:=fun σ H Q=>t σ H fun x H'=>∃ k,x=.bl k∧Q k H'
theorem xQ {op:CmpOp} {r:R2} (ho:OpR X (compareOp op) r) (ha:PE X a ta) (hb:PE X b tb) (hm:behindInMarks op b=false):PT X (.Compare a [op] [b] pos) (lg (tOp r ta tb)):=by
  intro pins s σ H Q I h
  refine wpAny_isTrue_Compare1 (thn (@ha pins s σ H _ I h) fun v s1 ⟨x,H1,I1,r1,q1⟩=>thn (@hb pins s1 σ H1 _ I1 q1) fun u s2 ⟨y,H2,I2,r2,q2⟩ =>
    thn (@ho pins s2 σ H2 x y v u _ I2 r1 r2 q2) fun c s3 ⟨z,H3,I3,r3,k,e,q3⟩=>?_) hm
  subst e
  cases r3
  exact wpAny_truthy_bool ⟨H3,I3,q3⟩
def oz (r r':R2) (ta tb tc:TE):TE:=fun σ H Q=>ta σ H fun x H1=>tb σ H1 fun y H2=>r x y H2 fun z H3=>∃ k,z=.bl k ∧
  (if k=true then tc σ H3 fun w' H4=>r' y w' H4 Q else Q (.bl false) H3)
theorem cA {op op':CmpOp} {r r':R2} (ho:OpR X (compareOp op) r) (ho':OpR X (compareOp op') r') (ha:PE X a ta) (hb:PE X b tb) (hc:PE X c tc)
    (hm:lastMarks [op,op'] [b,c]=false:=by with_unfolding_all rfl):PT X (.Compare a [op,op'] [b,c] pos) (lg (oz r r' ta tb tc)):=by
  intro pins s σ H Q I h
  refine isTrue_chain (thn (@ha pins s σ H _ I h) fun v s1 ⟨x,H1,I1,r1,q1⟩=>test_link (thn (@hb pins s1 σ H1 _ I1 q1) fun u s2 ⟨y,H2,I2,r2,q2⟩ =>
    thn (@ho pins s2 σ H2 x y v u _ I2 r1 r2 q2) fun d s3 ⟨z,H3,I3,r3,k,e,q3⟩=>?_)) hm
  subst e
  cases r3
  refine wpAny_truthy_bool ?_
  cases k with
  | false =>
    obtain ⟨k',e',q'⟩:=q3
    cases e'
    exact ite_ff ⟨H3,I3,q'⟩
  | true =>
    refine ite_tt (test_last (thn (@hc pins s3 σ H3 _ I3 q3) fun w' s4 ⟨z',H4,I4,r4,q4⟩=>thn (@ho' pins s4 σ H4 y z' u w' _ I4 r2 r4 q4) fun d' s5 ⟨z2,H5,I5,r5,k2,e2,q5⟩=>?_))
    subst e2
    cases r5
    exact wpAny_truthy_bool ⟨H5,I5,q5⟩
def xbM (K:PySem.W.Frag) (x:V) (H:Hp) (k:Bool):Prop :=
  match x with
  | .non=>k=false
  | .bl b=>k=b
  | .int i=>k=(i != 0)
  | .str y=>y.length≤sizeLine∧k=((y.length:Int) != 0)
  | .byt y=>y.size≤sizeLine∧k=((y.size:Int) != 0)
  | .ref p=>(∃ xs,SqL K H p xs∧k = !xs.isEmpty)∨(∃ xs,SqT K H p xs∧k = !xs.isEmpty)∨∃ kvs,H p=some (.dK kvs)∧k = !kvs.isEmpty
  | _=>False
theorem tJ {κ:Type} {kvs:List (κ × V)} {vs:List (κ × Value)} (r:KV kvs vs):(!vs.isEmpty) = !kvs.isEmpty:=by
  cases r <;> rfl
theorem j0 {xs:List V} {its:List Value} (r:y_ xs its):(!its.toArray.isEmpty) = !xs.isEmpty:=by
  cases r <;> simp
theorem gf:(sizeLine:Nat) < 2 ^ 63:=by rw [sizeLine_eq]; decide
theorem xaj:xde X (fun x H Q=>∃ k,xbM X.K x H k∧Q k H):=by
  intro pins s σ H x v Q I rx h
  obtain ⟨k,e,q⟩:=h
  have hl:=gf
  have hs:sizeLine=16777216:=sizeLine_eq
  cases x with
  | non =>
    cases rx
    have e':k=false:=e
    subst e'
    exact truthy_none ⟨H,I,q⟩
  | bl b =>
    cases rx
    have e':k=b:=e
    subst e'
    exact wpAny_truthy_bool ⟨H,I,q⟩
  | int i =>
    obtain ⟨t,rfl⟩:=rx
    have e':k=(i != 0):=e
    subst e'
    exact PySem.P.truthy_int ⟨H,I,q⟩
  | str y =>
    obtain ⟨t,rfl⟩:=rx
    obtain ⟨hy,e'⟩:y.length≤sizeLine∧k=((y.length:Int) != 0):=e
    subst e'
    exact PySem.P.truthy_str (by omega) ⟨H,I.tok _,q⟩
  | byt y =>
    obtain ⟨t,rfl⟩:=rx
    obtain ⟨hy,e'⟩:y.size≤sizeLine∧k=((y.size:Int) != 0):=e
    subst e'
    exact PySem.W.truthy_bytes (by omega) ⟨H,I.tok _,q⟩
  | ref p =>
    cases rx
    have e':(∃ xs,SqL X.K H p xs∧k = !xs.isEmpty)∨(∃ xs,SqT X.K H p xs∧k = !xs.isEmpty)∨∃ kvs,H p=some (.dK kvs)∧k = !kvs.isEmpty:=e
    rcases e' with ⟨xs,hx,e'⟩ | ⟨xs,hx,e'⟩ | ⟨kvs,hx,e'⟩
    · subst e'
      obtain ⟨its,r,pl,hz⟩:=I.list hx
      have hlen:=r.length
      exact wpAny_truthy_list pl.isList (by simp only [List.size_toArray]; omega) ⟨H,I.tok _,by rw [j0 r]; exact q⟩
    · subst e'
      obtain ⟨its,r,pl,hz⟩:=I.tuple hx
      have hlen:=r.length
      exact truthy_tuple pl (by simp only [List.size_toArray]; omega) ⟨H,I.tok _,by rw [j0 r]; exact q⟩
    · subst e'
      obtain ⟨hz,hS,vs,r,m⟩:kvs.length≤sizeLine∧(p == sysModules)=false∧∃ vs,KV kvs vs∧s.heap.DictOf (ak X.prog X.w) p vs:=I.hok p _ hx
      have hlen:kvs.length=vs.length:=Paired.length r
      exact wpAny_truthy_dict hS m (by omega) ⟨H,I.tok _,by rw [tJ r]; exact q⟩
  | _=>exact (show False from e).elim
theorem vals1 {x:V} {us:List Value} (r:y_ [x] us):∃ u,us=[u]∧RelV x u:=by
  cases r with
  | cons r1 r2=>cases r2; exact ⟨_,rfl,r1⟩
theorem vals2 {x y:V} {us:List Value} (r:y_ [x,y] us):∃ u w',us=[u,w']∧RelV x u∧RelV y w':=by
  cases r with
  | cons r1 r2 =>
    cases r2 with
    | cons r3 r4=>cases r4; exact ⟨_,_,rfl,r1,r3⟩
theorem zP:qs X (.builtin "abs") (fun xs H Q=>∃ i,xs=[.int i]∧Q (.int (if i < 0 then -i else i)) H):=by
  intro pins s σ H xs us Q I r h
  obtain ⟨i,rfl,q⟩:=h
  obtain ⟨u,rfl,t,rfl⟩:=vals1 r
  exact call_abs_int fun u tk=>⟨.int (if i < 0 then -i else i),H,I.tok _,⟨_,rfl⟩,q⟩
theorem fJ (hc:X.calm=true):qs X (.builtin "max") (fun xs H Q=>∃ i j,xs=[.int i,.int j]∧Q (.int (if j > i then j else i)) H):=by
  intro pins s σ H xs us Q I r h
  obtain ⟨i,j,rfl,q⟩:=h
  obtain ⟨u,w',rfl,⟨t,rfl⟩,⟨t',rfl⟩⟩:=vals2 r
  refine max_two_ints (I.ok.hd hc) fun h' tk k=>⟨_,H,I.kept k,?_,q⟩
  by_cases hj:j > i
  · rw [if_pos hj,if_pos hj]; exact ⟨_,rfl⟩
  · rw [if_neg hj,if_neg hj]; exact ⟨_,rfl⟩
theorem ma (hc:X.calm=true):qs X (.builtin "min") (fun xs H Q=>∃ i j,xs=[.int i,.int j]∧Q (.int (if j < i then j else i)) H):=by
  intro pins s σ H xs us Q I r h
  obtain ⟨i,j,rfl,q⟩:=h
  obtain ⟨u,w',rfl,⟨t,rfl⟩,⟨t',rfl⟩⟩:=vals2 r
  refine min_two_ints (I.ok.hd hc) fun h' tk k=>⟨_,H,I.kept k,?_,q⟩
  by_cases hj:j < i
  · rw [if_pos hj,if_pos hj]; exact ⟨_,rfl⟩
  · rw [if_neg hj,if_neg hj]; exact ⟨_,rfl⟩
end
end L2
namespace L2
open PySem PySem.Spec PyProof.Rows
structure xch (h:Heap) (x dx C:Addr) (mA:Str→Option Value):Prop where
  obj:h.get? x=some (PySem.W.instObj C dx)
  ns:h.Ns1 dx mA
  ne:dx≠x
theorem nt {h:Heap} {dx:Addr} {mA:Str→Option Value} (n:h.Ns1 dx mA):∃ od,h.get? dx=some od∧∀ name,PySem.W.lookIn name od=some (mA name):=by
  obtain ⟨o,es,ep,ho,hd,hk,_,hm⟩:=n
  refine ⟨o,ho,fun name=>?_⟩
  have e:=hm name
  unfold nsFind findBy at e
  rw [← Array.find?_toList] at e
  unfold PySem.W.lookIn
  rw [hd]
  dsimp only
  split
  · rename_i y q
    rw [q] at e
    exact congrArg some e
  · rename_i q
    rw [q] at e
    have a:es.toList.any (·.refKey)=false:=by
      rw [List.any_eq_false]
      intro y hy
      obtain ⟨z,t,hkey⟩:=hk y (Array.mem_toList_iff.mp hy)
      simp [DictEntry.refKey,hkey]
    have a':¬ es.toList.any (·.refKey)=true:=by rw [a]; exact Bool.false_ne_true
    rw [if_neg a']
    exact congrArg some e
theorem xch.look {h:Heap} {x dx C:Addr} {mA:Str→Option Value} (I:xch h x dx C mA):∃ od,PySem.W.InstAt h x (PySem.W.instObj C dx) C (some od)∧∀ name,PySem.W.lookIn name od=some (mA name) :=
  let ⟨od,ho,hl⟩:=nt I.ns
  ⟨od,⟨I.obj,rfl,rfl,ho⟩,hl⟩
section
variable {prog:Program} {w:World} {A:Around} {E:Value→Shared→Prop} {s:Shared} {K:PySem.W.Frag} {x dx C f:Addr} {mA:Str→Option Value} {name:Str} {v:Value}
end
section
variable {P:Program} {w:World} {H H':Hp} {h h':Heap} {a C dx:Addr} {fs fs':List (Str × V)}
theorem oK (hok:HOk P w H h) (e:H a=some (.ins C dx fs)):∃ mA,xch h a dx C mA∧(∀ f,xb0 (fs.lookup f) (mA f))∧PySem.Within mA (fs.map (·.1))∧fs.length≤1000∧H dx=some (.own a):=by
  obtain ⟨d,z,ne,ob,mA,n,r,q⟩:=(show wC P w H h a (.ins C dx fs) from hok a _ e)
  exact ⟨mA,⟨ob,n,ne⟩,r,q,z,d⟩
end
structure Cls (K:PySem.W.Frag) (C:Addr):Prop where
  pg:PySem.W.plainGet K C Str.empty=true
  hd:PySem.W.hasDictIn K C=true
  po:PySem.W.plainOver K C=true
  sa:PySem.W.findIn K (.ref C) "__setattr__" = some (some (.builtin "object.__setattr__"))
theorem Cls.get {K:PySem.W.Frag} {C:Addr} (c:Cls K C) (f:Str):PySem.W.plainGet K C f=true:=c.pg
section
variable {X:Cx} {pins:List (Addr × Obj)} {σ:St} {H:Hp} {s:Shared} {a C dx:Addr} {fs:List (Str × V)} {f:Str} {v:V} {A:Around} {E:Value→Shared→Prop}
end
section
variable {X:Cx} {o e value:Expr} {f:Str} {pos pos' tpos:Pos} {ta tv:TE}
end
section
variable {X:Cx} {pins:List (Addr × Obj)} {σ:St} {H:Hp} {s:Shared} {A:Around} {E:Value→Shared→Prop} {Q:Value→Shared→Prop} {c:Value} {b:Bool}
inductive tj (K:PySem.W.Frag) (H:Hp):V→Value→Prop where
  | non:tj K H .non (.type "NoneType")
  | bl (x:Bool):tj K H (.bl x) (.type "bool")
  | int (i:Int):tj K H (.int i) (.type "int")
  | str (x:Str):tj K H (.str x) (.type "str")
  | flt (x:UInt64):tj K H (.flt x) (.type "float")
  | lst {a:Addr} {xs:List V} (e:H a=some (.lst xs)):tj K H (.ref a) (.type "list")
  | frz {a:Addr} {o:Obj} {xs:List V} (e:H a=some (.frz o (.lst xs))):tj K H (.ref a) (.type "list")
  | tup {a:Addr} {xs:List V} (e:H a=some (.tup xs)):tj K H (.ref a) (.type "tuple")
  | dK {a:Addr} {kvs:List (Key × V)} (e:H a=some (.dK kvs)):tj K H (.ref a) (.type "dict")
  | dT {a:Addr} {kvs:List (List Key × V)} (e:H a=some (.dT kvs)):tj K H (.ref a) (.type "dict")
  | ins {a C dx:Addr} {fs:List (Str × V)} (e:H a=some (.ins C dx fs)) (cl:Cls K C) (ha:PySem.W.findIn K (.ref C) "__class__" = some (some (.builtin "object.__class__")))
      (hn:PySem.W.specialIn K (.builtin "object.__class__") "__get__" = some (some (.builtin "getset_descriptor.__get__"))) (htk:PySem.W.takesIn K (.builtin "object.__class__")=some true)
      (hm:PySem.W.mroIn K C (.type "object")=some true):tj K H (.ref a) (.ref C)
theorem mV {x:V} {u t:Value} (I:Inv X pins σ H s) (rx:RelV x u) (ty:tj X.K H x t) (e:PySem.W.kitOne X.K t c=some b) (h:∀ tk,Q (.bool b) { s with toks:=tk }) :
    wpAny (model X.prog X.w) A (call (.builtin "isinstance") [u,c]) Q E s:=by
  cases ty with
  | non=>cases (show u=Value.none from rx); exact PySem.W.kia_one PySem.W.kitx_none I.kIn True.intro e (fun z=>nomatch z) h
  | bl y=>cases (show u=Value.bool y from rx); exact PySem.W.kia_one PySem.W.kitx_bool I.kIn True.intro e (fun z=>nomatch z) h
  | int i=>obtain ⟨t,q⟩:=(show ∃ t,u=Value.int i t from rx); cases q; exact PySem.W.kia_one PySem.W.kitx_int I.kIn True.intro e (fun z=>nomatch z) h
  | str y=>obtain ⟨t,q⟩:=(show ∃ t,u=Value.str y t from rx); cases q; exact PySem.W.kia_one PySem.W.kitx_str I.kIn True.intro e (fun z=>nomatch z) h
  | flt y=>obtain ⟨t,q⟩:=(show ∃ t,u=Value.float y t from rx); cases q; exact PySem.W.kia_one PySem.W.kitx_float I.kIn True.intro e (fun z=>nomatch z) h
  | @lst a xs ea =>
    cases (show u=Value.ref a from rx)
    obtain ⟨_,_,n,_,h1⟩:=(show wC X.prog X.w H s.heap a (.lst xs) from I.hok a _ ea)
    exact PySem.W.kia_one PySem.W.kitx_list I.kIn ⟨_,h1,rfl⟩ e (fun z=>nomatch z) h
  | @frz a ob xs ea =>
    cases (show u=Value.ref a from rx)
    obtain ⟨_,_,_,n,_,h1⟩:=(show wC X.prog X.w H s.heap a (.frz ob (.lst xs)) from I.hok a _ ea)
    exact PySem.W.kia_one PySem.W.kitx_list I.kIn ⟨_,h1,rfl⟩ e (fun z=>nomatch z) h
  | @tup a xs ea =>
    cases (show u=Value.ref a from rx)
    obtain ⟨_,_,_,p⟩:=(show wC X.prog X.w H s.heap a (.tup xs) from I.hok a _ ea)
    obtain ⟨o,h1,h2,_⟩:=p
    exact PySem.W.kia_one PySem.W.kitx_tuple I.kIn ⟨o,h1,h2⟩ e (fun z=>nomatch z) h
  | @dK a kvs ea =>
    cases (show u=Value.ref a from rx)
    obtain ⟨_,_,vs,_,p⟩:=(show wC X.prog X.w H s.heap a (.dK kvs) from I.hok a _ ea)
    obtain ⟨o,es,ep,h1,h2,_⟩:=p
    exact PySem.W.kia_one PySem.W.kitx_dict I.kIn ⟨o,h1,h2.1⟩ e (fun z=>nomatch z) h
  | @dT a kvs ea =>
    cases (show u=Value.ref a from rx)
    obtain ⟨_,_,xs,_,o,es,ep,h1,h2,_⟩:=(show wC X.prog X.w H s.heap a (.dT kvs) from I.hok a _ ea)
    exact PySem.W.kia_one PySem.W.kitx_dict I.kIn ⟨o,h1,h2.1⟩ e (fun z=>nomatch z) h
  | @ins a C dx fs ea cl ha hn htk hm =>
    cases (show u=Value.ref a from rx)
    obtain ⟨mA,O,_⟩:=oK I.hok ea
    obtain ⟨od,J,_⟩:=O.look
    exact PySem.W.kia_one (PySem.W.kitx_own (cl.get _) cl.hd ha hn htk hm) I.kIn J e (fun z=>nomatch z) h
end
end L2
namespace L2
open PySem PySem.Spec PyProof.Rows
structure qI (k:Nat) (A:Around):Prop where
  hd:A.handled=none
  dp:A.depth+3*k+5 < recursionLimit
  un:A.units+16*k+200 < cLine
theorem qI.mono {j k:Nat} {A:Around} (r:qI k A) (h:j≤k):qI j A:=⟨r.hd,by have:=r.dp; omega,by have:=r.un; omega⟩
theorem qI.deeper {k:Nat} {A:Around} (r:qI (k+1) A) (env:Env):qI k (A.deeper env) :=
  ⟨r.hd,by have:=r.dp; show A.depth+1+3*k+5 < _; omega,by have:=r.un; show A.units+3+16*k+200 < _; omega⟩
theorem qI.depth {k:Nat} {A:Around} (r:qI k A):A.depth < recursionLimit:=by have:=r.dp; omega
theorem qI.units {k:Nat} {A:Around} (r:qI k A):A.units+64 < cLine:=by have:=r.un; omega
def lX:TA:=fun _ H Q=>Q [] H
def jh (ta:TE) (tr:TA):TA:=fun σ H Q=>ta σ H fun x H1=>tr σ H1 fun xs H2=>Q (x::xs) H2
section
variable {X:Cx} {e:Expr} {es:List Expr} {te:TE} {t:TA} {pos:Pos}
theorem xh:PA X [] lX:=fun _ _ _ _ H Q I h=>Calls.spliced_nil ⟨[],H,I,.nil,h⟩
theorem xc (ha:PE X e te) (hr:PA X es t) (hs:starEach (e::es) X.env=(false,eval e X.env)::starEach es X.env:=by rfl):PA X (e::es) (jh te t):=by
  intro pos pins s σ H Q I h
  rw [hs]
  show wpAny _ _ (spliced ((false,eval e X.env)::backTo pos (starEach es X.env))) _ _ s
  refine Calls.spliced_cons (thn (@ha pins s σ H _ I h) fun u s1 ⟨x,H1,I1,r1,q1⟩=>?_)
  exact thn (@hr pos pins s1 σ H1 _ I1 q1) fun us s2 ⟨xs,H2,I2,r2,q2⟩=>⟨x::xs,H2,I2,.cons r1 r2,q2⟩
def xcY (t:TA):TE:=fun σ H Q=>t σ H fun xs H1=>xs.length≤sizeLine∧∀ p,H1 p=none→Q (.ref p) (upd H1 p (.tup xs))
def xbU (t:TA):TE:=fun σ H Q=>t σ H fun xs H1=>xs.length≤sizeLine∧∀ p,H1 p=none→Q (.ref p) (upd H1 p (.lst xs))
theorem xJ {x1} (h:PA X es t):PE X (.Tuple es x1 pos) (xcY t):=by
  intro pins s σ H Q I hq
  refine wpAny_Tuple_spliced (thn (@h pos pins s σ H _ I hq) fun us s1 ⟨xs,H1,I1,r,z,q⟩=>⟨by rw [← r.length]; exact z,?_⟩)
  have hf:H1 s1.heap.objs.size=none:=I1.hok.fresh (Nat.le_refl _)
  refine ⟨.ref s1.heap.objs.size,upd H1 s1.heap.objs.size (.tup xs),I1.laid (t':=s1.toks) (fun b u e=>Heap.get?_push_of_some _ e) (Nat.le_refl _) ?_,rfl,q _ hf⟩
  exact ⟨z,us,r,⟨_,Heap.get?_push_size _ rfl,rfl,_,rfl⟩⟩
theorem yU (h:PA X es t):PE X (.List es pos) (xbU t):=by
  intro pins s σ H Q I hq
  refine wpAny_List_spliced (thn (@h pos pins s σ H _ I hq) fun us s1 ⟨xs,H1,I1,r,z,q⟩=>⟨by rw [← r.length]; exact z,?_⟩)
  have hf:H1 s1.heap.objs.size=none:=I1.hok.fresh (Nat.le_refl _)
  refine ⟨.ref s1.heap.objs.size,upd H1 s1.heap.objs.size (.lst xs),I1.laid (t':=s1.toks) (fun b u e=>Heap.get?_push_of_some _ e) (Nat.le_refl _) ?_,rfl,q _ hf⟩
  exact ⟨z,us,0,r,Heap.get?_push_size _ rfl⟩
end
abbrev Sp:=List V→Hp→VK→XK→Prop
abbrev CXT:=List Env→Hp→Shared→XK→Value→Shared→Prop
structure xbG (P:Program) (w:World) (K:PySem.W.Frag) (mg:Str→Option Value) (base:Heap) (A:Around) (outer:List Env) (s:Shared) (H:Hp):Prop where
  frames:A.frames=some outer
  mod:Mod K mg base
  bs:∀ b o,base.get? b=some o→s.heap.get? b=some o∧H b=none
  bsz:base.objs.size≤s.heap.objs.size
  funs:s.heap.FunFrames base outer
  frf:∀ b∈frs outer,H b=none
  hok:HOk P w H s.heap
  bare:AllBare s.gens
def CE (outer:List Env) (P:Program) (w:World) (H:Hp) (s:Shared) (Q:VK) (u:Value) (s':Shared):Prop :=
  ∃ v H',s'.os=s.os∧AllBare s'.gens∧Un (frs outer) [] H H' s.heap s'.heap∧HOk P w H' s'.heap∧RelV v u∧Q v H'
def CR (CX:CXT) (outer:List Env) (P:Program) (w:World) (H:Hp) (s:Shared) (Q:VK) (E:XK) (r:Result) (s':Shared):Prop :=
  match r with
  | .ok (.ret u)=>CE outer P w H s Q u s'
  | .ok _=>False
  | .error e=>CX outer H s E e s'
structure gI (P:Program) (w:World) (K:PySem.W.Frag) (mg:Str→Option Value) (base:Heap) (CX:CXT) (k:Nat) (f:Addr) (fd:FuncData) (ps:List Str) (sp:Sp):Prop where
  len:∀ vs H Q E,sp vs H Q E→vs.length=ps.length
  run:∀ (A:Around) (outer:List Env) (s:Shared) (H:Hp) (args:Args) (us:List Value) (vs:List V) (Q:VK) (E:XK),qI k A→xbG P w K mg base A outer s H→BindsTo s fd args (ps.zip us)→y_ vs us→sp vs H Q E →
    codeAny (model P w) A (.call (.ref f) args) (CR CX outer P w H s Q E) s
theorem gI.mono {P:Program} {w:World} {K:PySem.W.Frag} {mg:Str→Option Value} {base:Heap} {CX:CXT} {j k:Nat} {f:Addr} {fd:FuncData} {ps:List Str} {sp:Sp} (F:gI P w K mg base CX j f fd ps sp) (h:j≤k) :
    gI P w K mg base CX k f fd ps sp:=⟨F.len,fun A outer s H args us vs Q E hr=>F.run A outer s H args us vs Q E (hr.mono h)⟩
theorem gI.imp {P:Program} {w:World} {K:PySem.W.Frag} {mg:Str→Option Value} {base:Heap} {CX:CXT} {k:Nat} {f:Addr} {fd:FuncData} {ps:List Str} {sp sp':Sp} (F:gI P w K mg base CX k f fd ps sp)
    (h:∀ vs H Q E,sp' vs H Q E→sp vs H Q E):gI P w K mg base CX k f fd ps sp' :=
  ⟨fun vs H Q E q=>F.len vs H Q E (h _ _ _ _ q),fun A outer s H args us vs Q E hr he hb hv hs=>F.run A outer s H args us vs Q E hr he hb hv (h _ _ _ _ hs)⟩
section
variable {X:Cx} {pins:List (Addr × Obj)} {σ:St} {H:Hp} {s s':Shared}
theorem Inv.env0 (I:Inv X pins σ H s):xbG X.prog X.w X.K X.mg X.base X.A X.stack s H :=
  ⟨I.ok.frames,I.ok.mod,I.bs,Nat.le_trans I.ok.bsz I.sz,I.stack,I.stkFree,I.hok,I.bare⟩
theorem Inv.after {Q:VK} {u:Value} (I:Inv X pins σ H s) (h:CE X.stack X.prog X.w H s Q u s'):EP X pins σ Q u s':=by
  obtain ⟨v,H',os,bare,un,hok,r,q⟩:=h
  obtain ⟨hh,g,d,t,os'⟩:=s'
  obtain rfl:os'=s.os:=os
  exact ⟨v,H',I.call (h':=hh) (g':=g) (d':=d) (t':=t) (ch:=[]) un hok bare (fun b z=>absurd z (by simp)),r,q⟩
end
def xbP (sp:Sp) (dvs:List V) (E:XK) (t:TA):TE:=fun σ H Q=>t σ H fun vs H1=>sp (vs++dvs) H1 Q E
def Binds (K:PySem.W.Frag) (fd:FuncData) (ps:List Str) (ds:List Value):Prop :=
  ∀ (s:Shared) (us:List Value),K.In s.heap→(us++ds).length=ps.length→BindsTo s fd ⟨us,[]⟩ (ps.zip (us++ds))
theorem Binds.all {K:PySem.W.Frag} {fd:FuncData} {ps:List Str} (h:∀ us:List Value,us.length=ps.length→bindArgs fd ⟨us,[]⟩=pure (ps.zip us)):Binds K fd ps []:=fun s us _ hl=>by
  rw [List.append_nil] at hl ⊢
  exact .of_eq (h us hl)
def h9 (CX:CXT) (X:Cx) (E:XK):Prop:=∀ (pins:List (Addr × Obj)) (σ:St) (H:Hp) (s:Shared) (e:Value) (s':Shared),Inv X pins σ H s→CX X.stack H s E e s'→X.xe e s'
section
variable {X:Cx} {CX:CXT} {k:Nat} {f C:Addr} {fd:FuncData} {ps:List Str} {sp:Sp} {dvs:List V} {ds:List Value} {E:XK} {x m:Str} {p pos apos:Pos} {e o:Expr} {es:List Expr} {ta:TE} {t:TA}
theorem xap {pins:List (Addr × Obj)} {σ:St} {H:Hp} {s:Shared} {Q:VK} {us:List Value} {vs:List V} (F:gI X.prog X.w X.K X.mg X.base CX k f fd ps sp) (hr:qI k X.A) (hb:Binds X.K fd ps ds) (hd:y_ dvs ds) (hx:h9 CX X E)
    (I:Inv X pins σ H s) (r:y_ vs us) (h:sp (vs++dvs) H Q E):wpAny (model X.prog X.w) X.A (call (.ref f) us) (EP X pins σ Q) X.xe s:=by
  have r2:y_ (vs++dvs) (us++ds):=r.append hd
  have hl:(us++ds).length=ps.length:=by rw [← r2.length]; exact F.len _ _ _ _ h
  refine wpAny_call (codeAny_mono (F.run X.A X.stack s H ⟨us,[]⟩ (us++ds) (vs++dvs) Q E hr I.env0 (hb s us I.kIn hl) r2 h) fun r s' hq=>?_)
  cases r with
  | error e=>exact hx pins σ H s e s' I hq
  | ok fl =>
    cases fl with
    | ret u=>exact I.after hq
    | next=>exact False.elim hq
    | brk=>exact False.elim hq
    | cont=>exact False.elim hq
theorem mK (F:gI X.prog X.w X.K X.mg X.base CX k f fd ps sp) (hr:qI k X.A) (hg:Gl X x) (hm:X.mg x=some (.ref f)) (hk:PySem.W.keepIn X.K (.ref f)=true) (hb:Binds X.K fd ps ds) (hd:y_ dvs ds) (hx:h9 CX X E)
    (ha:PA X (e::es) t) (hdb:(x == ("__debug__" : Str))=false:=by decide) (he:starEach (e::es) X.env=(false,eval e X.env)::starEach es X.env:=by rfl) (hpl:(backTo pos (starEach es X.env)).any (·.1)=false:=by rfl) :
    PE X (.Call (.Name x p) (e::es) [] pos) (xbP sp dvs E t):=by
  intro pins s σ H Q I h
  refine wpAny_Call_Name_kw (qM I hg hm ?_ hdb)
  refine PySem.W.callWith_K (h₀:=X.base) I.ok.mod.kin hk (thn (@ha pos pins s σ H _ I h) fun us s1 ⟨vs,H1,I1,r,q⟩=>⟨I1.kIn,?_⟩) he hpl
  exact xap F hr hb hd hx I1 r q
end
section
variable {X:Cx} {CX:CXT} {k:Nat} {f C:Addr} {fd:FuncData} {ps ks:List Str} {sp:Sp} {E:XK} {x m:Str} {p pos apos kpos:Pos} {e o:Expr} {es:List Expr} {kws:List Keyword} {te ta:TE} {t tk:TA} {nm:Option Str}
variable {g:List Value→List Value→List Value} {gV:List V→List V→List V}
end
structure xI (N P:List Str) (sc:Scope):Prop where
  kind:sc.kind=.function
  co:sc.isCoroutine=false
  gen:sc.isGenerator=false
  nd:N.Nodup
  pre:N.take P.length=P
  par:∀ x∈P,sc.names.lookup x=some .local∨sc.names.lookup x=some .cell
  nofree:∀ y∈sc.names,y.2≠.free
theorem fY {kindOf:Str→Option NameKind} {x:Str}:∀ {binds:List (Str × Value)} {m:Str→Option Value},(∀ v,(x,v)∉binds)→bindL kindOf binds m x=m x
  | [],_,_=>rfl
  | (n,v)::r,m,h=>by
    unfold bindL
    rw [fY fun w hw=>h w (List.mem_cons_of_mem _ hw)]
    split
    · have:x≠n:=by rintro rfl; exact h v List.mem_cons_self
      simp [this]
    · rfl
theorem dH {kindOf:Str→Option NameKind} {x:Str}:∀ {binds:List (Str × Value)} {m:Str→Option Value},(∀ v,(x,v)∉binds)→bindC kindOf binds m x=m x
  | [],_,_=>rfl
  | (n,v)::r,m,h=>by
    unfold bindC
    rw [dH fun w hw=>h w (List.mem_cons_of_mem _ hw)]
    split
    · rfl
    · have:x≠n:=by rintro rfl; exact h v List.mem_cons_self
      simp [this]
theorem dy {kindOf:Str→Option NameKind} {x:Str} {v:Value}:∀ {P:List Str} {vs:List Value} {i:Nat} {m:Str→Option Value},P.Nodup→P[i]? = some x→vs[i]? = some v→kindOf x=some .local →
    bindL kindOf (P.zip vs) m x=some v
  | [],_,_,_,_,h,_,_=>by simp at h
  | _::_,[],_,_,_,_,h,_=>by simp at h
  | p::P,w::vs,0,m,nd,h1,h2,hk=>by
    simp at h1 h2; subst h1; subst h2
    show bindL kindOf ((p,w)::P.zip vs) m p=_
    unfold bindL
    rw [fY fun v hv=>(List.nodup_cons.mp nd).1 (List.of_mem_zip hv).1,if_pos hk]
    simp
  | p::P,w::vs,i+1,m,nd,h1,h2,hk=>by
    show bindL kindOf ((p,w)::P.zip vs) m x=_
    unfold bindL
    exact dy (i:=i) (List.nodup_cons.mp nd).2 (by simpa using h1) (by simpa using h2) hk
theorem fF {kindOf:Str→Option NameKind} {x:Str} {v:Value}:∀ {P:List Str} {vs:List Value} {i:Nat} {m:Str→Option Value},P.Nodup→P[i]? = some x→vs[i]? = some v→kindOf x≠some .local →
    bindC kindOf (P.zip vs) m x=some v
  | [],_,_,_,_,h,_,_=>by simp at h
  | _::_,[],_,_,_,_,h,_=>by simp at h
  | p::P,w::vs,0,m,nd,h1,h2,hk=>by
    simp at h1 h2; subst h1; subst h2
    show bindC kindOf ((p,w)::P.zip vs) m p=_
    unfold bindC
    rw [dH fun v hv=>(List.nodup_cons.mp nd).1 (List.of_mem_zip hv).1,if_neg hk]
    simp
  | p::P,w::vs,i+1,m,nd,h1,h2,hk=>by
    show bindC kindOf ((p,w)::P.zip vs) m x=_
    unfold bindC
    exact fF (i:=i) (List.nodup_cons.mp nd).2 (by simpa using h1) (by simpa using h2) hk
def start (N:List Str) (vs:List V):St:=vs.map some++List.replicate (N.length-vs.length) none
def kK (CX:CXT) (P:Program) (w:World) (K:PySem.W.Frag) (mg:Str→Option Value) (base:Heap) (N:List Str) (qual:Str) (scope:Scope) (f:Addr) (cd:Value) (A:Around) (outer:List Env) (s:Shared) (H:Hp) (E:XK):Cx where
  prog:=P
  w:=w
  K:=K
  mg:=mg
  base:=base
  A:=A.deeper (envOfC qual scope s.heap.objs.size f cd)
  N:=N
  s₀:=s
  H₀:=H
  env:=envOfC qual scope s.heap.objs.size f cd
  outer:=outer
  stack:=envOfC qual scope s.heap.objs.size f cd::outer
  ex:=[]
  calm:=true
  fn:=fun _=>true
  pn:=[]
  xe:=fun e s'=>wpAny (model P w) (A.deeper (envOfC qual scope s.heap.objs.size f cd)) (leaving (envOfC qual scope s.heap.objs.size f cd) e) (fun _ s''=>CX outer H s E e s'') (fun e' s''=>CX outer H s E e' s'') s'
theorem aS {sc:Scope} {n:Nat} {x:Str} (h:sc.names.lookup x=some .cell):∃ c,(cellsFrom n sc.names []).lookup x=some c:=by
  have q:=PySem.W.cellsFrom_some sc.names n [] (.inl h)
  exact Option.isSome_iff_exists.mp q
theorem nU {CX:CXT} {P:Program} {w:World} {K:PySem.W.Frag} {mg:Str→Option Value} {base:Heap} {N ps:List Str} {qual:Str} {scope:Scope} {f:Addr} {cd:Value} {A:Around} {outer:List Env} {s s1:Shared} {H:Hp} {E:XK} {us:List Value} {vs:List V}
    (S:xI N ps scope) (hd:A.handled=none) (e0:xbG P w K mg base A outer s H) (hl:vs.length=ps.length) (r:y_ vs us)
    (x:InCallC s s.heap.objs.size (bindL (envOfC qual scope s.heap.objs.size f cd).kindOf (ps.zip us) fun _=>none) (cellsFrom (s.heap.objs.size+1) scope.names []) (bindC (envOfC qual scope s.heap.objs.size f cd).kindOf (ps.zip us) fun _=>none) s1) :
    Inv (kK CX P w K mg base N qual scope f cd A outer s H E) [] (start N vs) H s1:=by
  have hpl:ps.length≤N.length:=by have:=congrArg List.length S.pre; rw [List.length_take] at this; omega
  obtain ⟨h1,tk,rfl,hk⟩:=x.done
  have noA:∀ b:Addr,b∉(kK CX P w K mg base N qual scope f cd A outer s H E).ex:=fun b z=>absurd (show b∈([]:List Addr) from z) (by simp)
  refine ⟨⟨e0.mod,S.kind,rfl,rfl,Nat.le_refl _,fun y z c h1 h2=>?_,fun y hy=>?_,fun y c _ h=>?_,fun _=>hd,Around.frames_deeper e0.frames,.inr ⟨rfl,rfl⟩,fun b z=>absurd z (noA b),e0.bs,e0.bsz,fun b _ _=>noA b,fun b z=>absurd z (noA b),e0.funs,e0.frf⟩,
    rfl,e0.bare,Un.kept hk,⟨_,x.toInCall.ns,fun i y v h1 h2 h3=>?_⟩,fun y c h=>⟨_,x.cell y c h⟩,e0.hok.fresh (Nat.le_refl _),fun y c h=>?_,fun p hp=>absurd (show p∈([]:List (Addr × Obj)) from hp) (by simp),e0.hok.kept hk,?_⟩
  · exact name_of_addr x.apart (PySem.mem_of_lookup h1) (PySem.mem_of_lookup h2)
  · have hy:scope.names.lookup y=some .cell∨scope.names.lookup y=some .free:=hy
    rcases hy with hy | hy
    · exact aS hy
    · exact absurd rfl (S.nofree _ (PySem.mem_of_lookup hy))
  · exact Nat.le_of_lt (x.above y c (PySem.mem_of_lookup h))
  · have hi:i < vs.length:=by
      unfold start at h2
      by_cases hi:i < vs.length
      · exact hi
      · rw [List.getElem?_append_right (by simpa using hi)] at h2
        rw [List.getElem?_replicate] at h2
        split at h2 <;> cases h2
    have ha:vs[i]? = some v:=by
      unfold start at h2
      rw [List.getElem?_append_left (by simpa using hi),List.getElem?_map] at h2
      cases e:vs[i]? with
      | none=>rw [e] at h2; cases h2
      | some a=>rw [e] at h2; cases h2; rfl
    obtain ⟨u,hu,rv⟩:=r.get ha
    have hp:ps[i]? = some y:=by
      rw [← S.pre,List.getElem?_take_of_lt (by omega)]; exact h1
    have ndP:ps.Nodup:=by rw [← S.pre]; exact S.nd.sublist (List.take_sublist _ _)
    refine ⟨u,rv,?_⟩
    rcases S.par y (List.mem_of_getElem? hp) with k | k
    · exact .inl ⟨k,dy ndP hp hu k⟩
    · obtain ⟨c,e⟩:=aS (n:=s.heap.objs.size+1) k
      refine .inr ⟨.inl k,c,e,?_⟩
      have q:=x.cell y c e
      rw [fF ndP hp hu (by show scope.names.lookup y≠_; rw [k]; decide)] at q
      exact q
  · exact e0.hok.fresh (Nat.le_of_lt (x.above y c (PySem.mem_of_lookup h)))
  · unfold start
    show _=N.length
    rw [List.length_append,List.length_map,List.length_replicate]
    omega
theorem xbc {CX:CXT} {P:Program} {w:World} {K:PySem.W.Frag} {mg:Str→Option Value} {base:Heap} {k:Nat} {f:Addr} {name qual:Str} {params:Arguments} {body:List Stmt} {scope:Scope} {dV kV doc pm cdv ct oc:Value} {an od:Option Addr}
    {osl:Array (Option Value)} {N ps:List Str} {sp:Sp} (lk:K.lookup f=some ⟨oc,od,.func (PySem.W.fnOf name qual params body scope dV kV doc pm an cdv ct),osl⟩) (hcd:PySem.W.codeIn K cdv qual=true) (S:xI N ps scope)
    (len:∀ vs H Q E,sp vs H Q E→vs.length=ps.length)
    (hbody:∀ (A:Around) (outer:List Env) (s:Shared) (H:Hp) (vs:List V) (Q:VK) (E:XK),qI k (A.deeper (envOfC qual scope s.heap.objs.size f cdv))→sp vs H Q E →
      ∃ t,PSs (kK CX P w K mg base N qual scope f cdv A outer s H E) body t∧t { nx:=fun _ H'=>Q .non H',rt:=Q } (start N vs) H) :
    gI P w K mg base CX (k+1) f (PySem.W.fnOf name qual params body scope dV kV doc pm an cdv ct) ps sp:=by
  refine ⟨len,fun A outer s H args us vs Q E hr e0 hb r hsp=>?_⟩
  have hl:=len _ _ _ _ hsp
  have KX:K.In s.heap:=e0.mod.kin.keeps fun b o e=>(e0.bs b o e).1
  have lim:s.heap.NoLimit:=e0.mod.nolimit.keeps fun b o e=>(e0.bs b o e).1
  have hkind:∀ y∈ps.zip us,scope.names.lookup y.1=some .local∨(scope.names.lookup y.1=some .cell∧((cellsFrom (s.heap.objs.size+1) scope.names []).lookup y.1).isSome=true):=fun ⟨n,v⟩ hy=>by
    rcases S.par n (List.of_mem_zip hy).1 with q | q
    · exact .inl q
    · exact .inr ⟨q,PySem.W.cellsFrom_some _ _ _ (.inl q)⟩
  refine codeAny_call_function hr.depth (KX _ _ lk) rfl S.co S.gen rfl (PySem.W.codeRec_of KX hcd) (hb _ _ _ _ ?_)
  refine wpAny_newFunctionEnv_cells S.kind hkind fun env he s1 x=>?_
  subst he
  refine ⟨lim.keeps x.toInCall.keep,codeAny_func ?_⟩
  obtain ⟨t,ht,hq⟩:=hbody A outer s H vs Q E (hr.deeper _) hsp
  have I:Inv (kK CX P w K mg base N qual scope f cdv A outer s H E) [] (start N vs) H s1:=nU S hr.hd e0 hl r x
  refine wpAny_mono (@ht [] s1 (start N vs) H _ I hq) (fun fl s' hs=>?_) fun e s' hs=>hs
  have fin:∀ {σ':St} {H':Hp} {v:V} {u:Value},Inv (kK CX P w K mg base N qual scope f cdv A outer s H E) [] σ' H' s'→RelV v u→Q v H'→CE outer P w H s Q u s' :=
    fun {σ' H' v u} J rv q=>⟨v,H',J.os,J.bare,J.base,J.hok,rv,q⟩
  cases fl with
  | ret u =>
    obtain ⟨v,σ',H',J,rv,q⟩:=hs
    exact fin J rv q
  | next =>
    obtain ⟨σ',H',J,q⟩:=hs
    exact fin (v:=V.non) (u:=Value.none) J rfl q
  | brk =>
    obtain ⟨_,_,_,q⟩:=hs
    exact False.elim q
  | cont =>
    obtain ⟨_,_,_,q⟩:=hs
    exact False.elim q
end L2
namespace L2
open PySem PySem.Spec PyProof.Rows
section
variable {X:Cx} {x:Str} {p pos:Pos} {e:Expr} {es:List Expr} {t:TA} {id T:String} {r:List V→Hp→VK→Prop}
def tCB (r:List V→Hp→VK→Prop) (t:TA):TE:=fun σ H Q=>t σ H fun vs H1=>r vs H1 Q
theorem xC (hc:qs X (.builtin id) r) (hg:Gl X x) (hm:X.mg x=none) (hv:bootBuiltins x=some (.builtin id)) (ha:PA X (e::es) t) (hn:x ≠ "__name__" := by decide) (hdb:(x == ("__debug__" : Str))=false:=by decide)
    (he:starEach (e::es) X.env=(false,eval e X.env)::starEach es X.env:=by rfl) (hpl:(backTo pos (starEach es X.env)).any (·.1)=false:=by rfl):PE X (.Call (.Name x p) (e::es) [] pos) (tCB r t):=by
  intro pins s σ H Q I h
  refine wpAny_Call_Name_kw (gg I hg hm hv ?_ hn hdb)
  exact PyProof.Rows.callWith_builtin1 (thn (@ha pos pins s σ H _ I h) fun us s1 ⟨vs,H1,I1,r1,q1⟩=>@hc pins s1 σ H1 vs us Q I1 r1 q1) he hpl
theorem wm (hc:qs X (.type T) r) (hg:Gl X x) (hm:X.mg x=none) (hv:bootBuiltins x=some (.type T)) (ha:PA X (e::es) t) (hn:x ≠ "__name__" := by decide) (hdb:(x == ("__debug__" : Str))=false:=by decide)
    (he:starEach (e::es) X.env=(false,eval e X.env)::starEach es X.env:=by rfl) (hpl:(backTo pos (starEach es X.env)).any (·.1)=false:=by rfl):PE X (.Call (.Name x p) (e::es) [] pos) (tCB r t):=by
  intro pins s σ H Q I h
  refine wpAny_Call_Name_kw (gg I hg hm hv ?_ hn hdb)
  exact PyProof.Rows.callWith_type1 (thn (@ha pos pins s σ H _ I h) fun us s1 ⟨vs,H1,I1,r1,q1⟩=>@hc pins s1 σ H1 vs us Q I1 r1 q1) he hpl
end
end L2
namespace HT
open PySem PyProof.Rows
def lexLt:List Int→List Int→Bool
  | [],[]=>false
  | [],_::_=>true
  | _::_,[]=>false
  | x::xs,y::ys=>if x=y then lexLt xs ys else decide (x < y)
theorem tP (x y:Int) (xs ys:List Int):lexLt (x::xs) (y::ys)=if x=y then lexLt xs ys else decide (x < y):=rfl
theorem gB:lexLt [] []=false:=rfl
theorem jX (y:Int) (ys:List Int):lexLt [] (y::ys)=true:=rfl
theorem jU (x:Int) (xs:List Int):lexLt (x::xs) []=false:=rfl
theorem cK (A:Around) (s:Shared) (a:Int) (t:Tok) (c:Int) (u:Tok):∃ e,SeqAt.EqAt A s (.int a t) (.int c u) e∧(e=true↔a=c) :=
  ⟨(a == c),SeqAt.EqAt.int_int a t c u,by simp⟩
theorem cZ (A:Around) (s:Shared) (a:Int) (t:Tok) (c:Int) (u:Tok) (prog:Program) (w:World) (E:Value→Shared→Prop) (Q:Value→Shared→Prop) (h:Q (.bool (decide (a < c))) s) :
    wpAny (model prog w) A (richCompare .Lt (.int a t) (.int c u)) Q E s :=
  (PyProof.Rows.lt_int h:wpAny (model prog w) A (compareOp .Lt (.int a t) (.int c u)) Q E s)
section
open PySem.SeqAt
open PySem.AutoSeq1 (wpAny_loadPart')
open PySem.MeetsSeq PySem.MeetsSeq2 PySem.MeetsSeq3
theorem gW (l b:Addr) (items items2:Array Value) (n n2:Nat) (dd dd2:Option Addr) (sl sl2:Array (Option Value)) (ns ms:List Int) (hi:IntsAre items.toList ns) (hj:IntsAre items2.toList ms) :
    Meets (Builtin.«tuple.__lt__» ⟨[.ref l,.ref b],[]⟩)
      (fun _ R s=>s.heap.get? l=some { cls:=.type "tuple", dict:=dd,data:=.seq items n,slots:=sl }∧s.heap.get? b=some { cls:=.type "tuple", dict:=dd2,data:=.seq items2 n2,slots:=sl2 } ∧
        R (.ok (.ret (.bool (lexLt ns ms)))) s) :=
  .of_wp fun prog w A R s h=>by
    obtain ⟨hp,g,d,tk,os⟩:=s; obtain ⟨hl,hb,h⟩:=h
    have f2:=AutoSeq1.sub_tuple_tuple
    have z1:items.size=ns.length:=by rw [← hi.length]; simp
    have z2:items2.size=ms.length:=by rw [← hj.length]; simp
    wp_walk using wpAny_loadPart' hl,wpAny_loadPart' hb,wpAny_forIn_list _ (fun rest b s'=>b.1=none∧s'=⟨hp,g,d,tk,os⟩∧∃ (vs ws:List Value) (ns' ms':List Int),rest=vs.zip ws ∧
      IntsAre vs ns'∧IntsAre ws ms'∧ns'.length+items2.size=ms'.length+items.size∧R (.ok (.ret (.bool (lexLt ns' ms')))) ⟨hp,g,d,tk,os⟩) _
    case turn =>
      rintro ⟨y,x⟩ rest b s' ⟨hb',rfl,vs,ws,ns',ms',hz,hvi,hwi,hlen,hR⟩
      cases hvi with
      | nil=>rw [List.zip_nil_left] at hz; cases hz
      | cons a t hvi' =>
        cases hwi with
        | nil=>rw [List.zip_nil_right] at hz; cases hz
        | cons c u hwi' =>
          rw [List.zip_cons_cons] at hz
          injection hz with hyx hrest
          injection hyx with hy hx
          subst hy hx
          rw [tP] at hR
          simp only [List.length_cons] at hlen
          obtain ⟨e,he,hiff⟩:=cK A.in1 ⟨hp,g,d,tk,os⟩ a t c u
          refine wpAny_bind (he prog w _ _ ?_)
          cases e with
          | true =>
            rw [if_pos (hiff.mp rfl)] at hR
            wp_walk
            exact ⟨rfl,rfl,_,_,_,_,hrest,hvi',hwi',by omega,hR⟩
          | false =>
            rw [if_neg (fun q=>absurd (hiff.mpr q) Bool.false_ne_true)] at hR
            have hri:=cZ A.in1 ⟨hp,g,d,tk,os⟩ a t c u prog w
            wp_walk using hri
            exact ⟨_,rfl,by simpa using hR⟩
    case fin =>
      rintro ⟨b1,b2⟩ s' ⟨hb',rfl,vs,ws,ns',ms',hz,hvi,hwi,hlen,hR⟩
      simp only at hb'
      subst hb'
      have hv:lexLt ns' ms'=decide (items.size < items2.size):=by
        cases hvi with
        | nil =>
          cases hwi with
          | nil =>
            simp only [List.length_nil] at hlen
            rw [gB]
            exact (decide_eq_false (by omega)).symm
          | cons c u hw =>
            simp only [List.length_nil,List.length_cons] at hlen
            rw [jX]
            exact (decide_eq_true (by omega)).symm
        | cons a t hv =>
          cases hwi with
          | nil =>
            simp only [List.length_nil,List.length_cons] at hlen
            rw [jU]
            exact (decide_eq_false (by omega)).symm
          | cons c u hw =>
            rw [List.zip_cons_cons] at hz
            cases hz
      rw [hv] at hR
      wp_walk
      exact ⟨_,rfl,by simpa [Builtin.Tuple.tupleCompareSizes] using hR⟩
    case h =>
      exact ⟨rfl,rfl,items.toList,items2.toList,ns,ms,rfl,hi,hj,by omega,h⟩
end
section
variable {prog:Program} {w:World} {A:Around} {E:Value→Shared→Prop} {s:Shared}
theorem td {l b:Addr} {items items2:Array Value} {ns ms:List Int} {Q:Value→Shared→Prop} (hl:IsTup s.heap l items) (hb:IsTup s.heap b items2) (hi:IntsAre items.toList ns) (hj:IntsAre items2.toList ms)
    (hu:A.units < cLine) (h:Q (.bool (lexLt ns ms)) s):wpAny (model prog w) A (compareOp .Lt (.ref l) (.ref b)) Q E s:=by
  obtain ⟨⟨cls,dd,data,sl⟩,ho,hc,n,hd⟩:=id hl
  obtain ⟨⟨cls2,dd2,data2,sl2⟩,ho2,hc2,n2,hd2⟩:=id hb
  simp only at hc hd hc2 hd2
  subst hc hd hc2 hd2
  exact richCompare_meets_room (op:=.Lt) ⟨_,ho,rfl⟩ ⟨_,ho2,rfl⟩ PySem.F.slot_tuple_lt PySem.F.entry_tuple_lt (PySem.F.args_tuple_lt_2 _ _) (gW l b items items2 n n2 dd dd2 sl sl2 ns ms hi hj)
    ⟨ho,ho2,show Value.bool (lexLt ns ms)≠Value.notImplemented∧Q (.bool (lexLt ns ms)) s from ⟨(fun x=>nomatch x),h⟩⟩ hu
theorem lN {t b:Addr} {vs ws:List Value} {Q:Value→Shared→Prop} (ht:IsTup s.heap t vs.toArray) (hb:IsTup s.heap b ws.toArray) (hv:vs≠[])
    (h1:ws=[]→Q (.ref t) s) (h2:ws≠[]→Q (.ref s.heap.objs.size) { s with heap:=s.heap.push { cls:=.type "tuple", data:=.seq (vs++ws).toArray } })
    (hsz:vs.length+ws.length≤sizeLine):wpAny (model prog w) A (binaryOp .Add (.ref t) (.ref b)) Q E s:=by
  obtain ⟨⟨cls,dd,data,sl⟩,ho,hc,n,hd⟩:=id ht
  obtain ⟨⟨cls2,dd2,data2,sl2⟩,ho2,hc2,n2,hd2⟩:=id hb
  simp only at hc hd hc2 hd2
  subst hc hd hc2 hd2
  have e:vs.toArray++ws.toArray=(vs++ws).toArray:=by simp
  by_cases hw:ws=[]
  · exact concat_meets ⟨_,ho,rfl⟩ ⟨_,ho2,rfl⟩ noFill_tuple_add seq_tuple_add PySem.F.slot_tuple_add PySem.F.entry_tuple_add (PySem.F.args_tuple_add_2 _ _)
      (tuple_addW1 t b vs.toArray ws.toArray n n2 dd dd2 sl sl2 (by simpa using hv) (by simp [hw])) ⟨ho,ho2,h1 hw⟩
  · refine concat_meets ⟨_,ho,rfl⟩ ⟨_,ho2,rfl⟩ noFill_tuple_add seq_tuple_add PySem.F.slot_tuple_add PySem.F.entry_tuple_add (PySem.F.args_tuple_add_2 _ _)
      (tuple_addW2 t b vs.toArray ws.toArray n n2 dd dd2 sl sl2 (by simpa using hv) (by simpa using hw) (by rw [List.size_toArray,List.size_toArray]; exact hsz)) ⟨ho,ho2,?_⟩
    rw [e]
    exact h2 hw
def sIx (n d:Nat):Option Int→Nat
  | none=>d
  | some v=>if v < 0 then (v+(n:Int)).toNat else min v.toNat n
theorem fe (n d:Nat):sIx n d none=d:=rfl
theorem bK (n d k:Nat):sIx n d (some (k:Int))=min k n:=by
  show (if (k:Int) < 0 then ((k:Int)+(n:Int)).toNat else min (k:Int).toNat n)=min k n
  rw [if_neg (by omega),Int.toNat_natCast]
theorem xaO (n d:Nat) (hd:d≤n) (o:Option Int):sIx n d o≤n:=by
  cases o with
  | none=>exact hd
  | some v =>
    show (if v < 0 then (v+(n:Int)).toNat else min v.toNat n)≤n
    by_cases hv:v < 0
    · rw [if_pos hv]; omega
    · rw [if_neg hv]; exact Nat.min_le_right _ _
theorem mF (v:Int) (n d:Nat):(if v < 0 then max (v+(n:Int)) 0 else min v (n:Int))=((sIx n d (some v):Nat):Int):=by
  show (if v < 0 then max (v+(n:Int)) 0 else min v (n:Int))=(((if v < 0 then (v+(n:Int)).toNat else min v.toNat n):Nat):Int)
  by_cases hv:v < 0
  · simp only [if_pos hv]; omega
  · simp only [if_neg hv]; omega
theorem rW (lo hi:Option Int) (n:Nat):Builtin.Slice.sliceAdjust lo hi 1 (n:Int)=(((sIx n 0 lo:Nat):Int),((sIx n n hi:Nat):Int)):=by
  have h1:¬ ((1:Int) < 0):=by omega
  unfold Builtin.Slice.sliceAdjust
  simp only [h1,if_false]
  refine Prod.ext ?_ ?_
  · cases lo with
    | none=>rfl
    | some v=>exact mF v n 0
  · cases hi with
    | none=>rfl
    | some v=>exact mF v n n
theorem r9 (i j:Nat):Builtin.Slice.slicePlaces (i:Int) (j:Int) 1=j-i:=by
  unfold Builtin.Slice.slicePlaces
  have h1:(1:Int) > 0:=by omega
  simp only [h1,if_true,Int.ediv_one]
  split <;> omega
theorem j4 {v:Value} {o:Option Int} {Q:Option Int→Shared→Prop} (p:IsPart v o) (h:Q o s):wpAny (model prog w) A (Builtin.Slice.slicePartIndex v) Q E s:=by
  cases p with
  | none=>exact slicePart_none h
  | int i t=>exact slicePart_int h
theorem uM {sl:Addr} {vl vu:Value} {lo hi:Option Int} {n:Nat} {Q:Int × Int × Nat→Shared→Prop} (hs:s.heap.IsSliceOf sl vl vu .none) (pl:IsPart vl lo) (pu:IsPart vu hi)
    (h:Q (((sIx n 0 lo:Nat):Int),1,sIx n n hi-sIx n 0 lo) s):wpAny (model prog w) A (Builtin.Slice.sliceApplied (.ref sl) (pure (n:Int))) Q E s:=by
  obtain ⟨os,hos,hcs,hds⟩:=id hs
  unfold Builtin.Slice.sliceApplied Builtin.Slice.sliceFields
  refine wpAny_bind (wpAny_bind (wpAny_field hos hds (x:=vl) rfl (wpAny_bind (wpAny_field hos hds (x:=vu) rfl (wpAny_bind (wpAny_field hos hds (x:=.none) rfl (wpAny_pure ?_)))))))
  refine wpAny_bind (slicePart_none ?_)
  show wpAny _ _ (if ((1:Int) == 0)=true then _ else _) _ _ s
  rw [if_neg (by decide)]
  refine wpAny_bind (j4 pl (wpAny_bind (j4 pu (wpAny_bind (wpAny_pure ?_)))))
  show wpAny _ _ (match Builtin.Slice.sliceAdjust lo hi 1 (n:Int) with | (lo,hi)=>pure (lo,(1:Int),Builtin.Slice.slicePlaces lo hi 1)) _ _ s
  rw [rW lo hi n]
  show wpAny _ _ (pure (((sIx n 0 lo:Nat):Int),(1:Int),Builtin.Slice.slicePlaces ((sIx n 0 lo:Nat):Int) ((sIx n n hi:Nat):Int) 1)) _ _ s
  rw [r9]
  exact wpAny_pure h
theorem bU (xs:Array Value) (i k:Nat):((List.range k).filterMap fun (m:Nat)=>xs[((i:Int)+(m:Int)*1).toNat]?).toArray=((xs.toList.drop i).take k).toArray:=by
  have e:(fun (m:Nat)=>xs[((i:Int)+(m:Int)*1).toNat]?)=fun m=>xs[i+m]?:=by
    funext m
    have:((i:Int)+(m:Int)*1).toNat=i+m:=by omega
    rw [this]
  rw [e]
  have:=pick_run xs i k
  rw [List.filterMap_map] at this
  have e2:((fun x=>xs[x]?) ∘ fun x=>i+x)=fun m=>xs[i+m]?:=rfl
  rw [e2] at this
  rw [this]
theorem qH {t sl:Addr} {items:Array Value} {vl vu:Value} {lo hi:Option Int} {Q:Value→Shared→Prop} (ht:IsTup s.heap t items) (hs:s.heap.IsSliceOf sl vl vu .none) (pl:IsPart vl lo) (pu:IsPart vu hi)
    (hw:¬ (sIx items.size 0 lo=0∧sIx items.size items.size hi=items.size))
    (h:Q (.ref s.heap.objs.size) { s with heap:=s.heap.push { cls:=.type "tuple", data:=.seq ((items.toList.drop (sIx items.size 0 lo)).take (sIx items.size items.size hi-sIx items.size 0 lo)).toArray } })
    (hsz:items.size≤sizeLine):wpAny (model prog w) A (getItem (.ref t) (.ref sl)) Q E s:=by
  have htake:sizeOk (.seq ((items.toList.drop (sIx items.size 0 lo)).take (sIx items.size items.size hi-sIx items.size 0 lo)).toArray):=by
    show ((items.toList.drop (sIx items.size 0 lo)).take (sIx items.size items.size hi-sIx items.size 0 lo)).toArray.size≤sizeLine
    rw [List.size_toArray,List.length_take,List.length_drop,Array.length_toList]
    omega
  have hj:sIx items.size items.size hi≤items.size:=xaO _ _ (Nat.le_refl _) hi
  obtain ⟨os,hos,hcs,hds⟩:=id hs
  have hTs:s.TypeIs (.ref sl) "slice" := ⟨os,hos,hcs⟩
  unfold getItem
  try with_reducible refine wpAny_holding ?_
  first | refine wpAny_bind (wpAny_pure ?_) | skip
  refine wpAny_bind (wpAny_sequenceKey ht.typeIs (by decide) ?_)
  refine wpAny_bind (wpAny_callSpecial?_slot (name:=Str.ofString "__getitem__") ht.typeIs PyProof.Rows.slot_tuple_getitem
    (wpAny_call_entry PyProof.Rows.slot_tuple_getitem ht.typeIs entry_tuple_getitem ?_ (args_tuple_getitem _ _)))
  show wpAny _ _ (Builtin.Tuple.tupleItemsOf (.ref t) >>= _) _ _ s
  refine wpAny_bind (tupleItemsOf_ ht ?_)
  refine wpAny_bind (wpAny_typeOf hTs ?_)
  rw [if_pos (by decide)]
  refine wpAny_bind (uM hs pl pu ?_)
  have hno:¬ ((((sIx items.size 0 lo:Nat):Int) == 0 && (1:Int) == 1 && (sIx items.size items.size hi-sIx items.size 0 lo) == items.size)=true):=by
    intro q
    rw [Bool.and_eq_true,Bool.and_eq_true] at q
    have q1:((sIx items.size 0 lo:Nat):Int)=0:=eq_of_beq q.1.1
    have q2:sIx items.size items.size hi-sIx items.size 0 lo=items.size:=eq_of_beq q.2
    exact hw ⟨by omega,by omega⟩
  show wpAny _ _ (if (((sIx items.size 0 lo:Nat):Int) == 0 && (1:Int) == 1 && (sIx items.size items.size hi-sIx items.size 0 lo) == items.size)=true then _ else _) _ _ s
  rw [if_neg hno,bU]
  first
    | exact wpAny_bind (m:=Builtin.Tuple.tupleExact _) (wpAny_newObj_type (wpAny_pure ⟨_,rfl,wpAny_pure h⟩) htake)
    | exact wpAny_bind (m:=Builtin.Tuple.tupleExact _) (wpAny_newObj_type (wpAny_bind (wpAny_pure (wpAny_pure ⟨_,rfl,wpAny_pure h⟩))) htake)
    | exact wpAny_bind (wpAny_bind (m:=Builtin.Tuple.tupleExact _) (wpAny_newObj_type (wpAny_pure (wpAny_pure ⟨_,rfl,wpAny_pure h⟩)) htake))
    | exact wpAny_bind (wpAny_bind (m:=Builtin.Tuple.tupleExact _) (wpAny_newObj_type (wpAny_pure ⟨_,rfl,wpAny_pure h⟩) htake))
end
end HT
namespace L2
open PySem PySem.Spec PyProof.Rows
abbrev TO:=St→Hp→(Option Int→Hp→Prop)→Prop
def PO (X:Cx) (e:Option Expr) (t:TO):Prop :=
  ∀ (pins:List (Addr × Obj)) (s:Shared) (σ:St) (H:Hp) (Q:Option Int→Hp→Prop),Inv X pins σ H s→t σ H Q →
    wpAny (model X.prog X.w) X.A (evalPart e X.env) (fun u s'=>∃ o H',Inv X pins σ H' s'∧IsPart u o∧Q o H') X.xe s
def ng:TO:=fun _ H Q=>Q none H
def xax (t:TE):TO:=fun σ H Q=>t σ H fun x H1=>∃ i,x=.int i∧Q (some i) H1
theorem intsAre_of {ns:List Int}:∀ {us:List Value},y_ (ns.map V.int) us→IntsAre us ns:=by
  induction ns with
  | nil=>intro us r; rw [List.map_nil] at r; cases r; exact .nil
  | cons n ns ih =>
    intro us r
    rw [List.map_cons] at r
    cases r with
    | cons r1 r2 =>
      obtain ⟨t,e⟩:=r1
      subst e
      exact .cons n t (ih r2)
section
variable {X:Cx} {e:Expr} {te:TE} {lo hi:Option Expr} {tl th:TO} {pos p2:Pos}
theorem qd:PO X none ng:=by
  intro pins s σ H Q I h
  rw [evalPart_none]
  exact wpAny_pure ⟨none,H,I,.none,h⟩
theorem v5 (h:PE X e te):PO X (some e) (xax te):=by
  intro pins s σ H Q I hw
  rw [evalPart_some]
  refine thn (@h pins s σ H _ I hw) fun u s1 ⟨x,H1,I1,r1,q1⟩=>?_
  obtain ⟨i,rfl,q⟩:=q1
  obtain ⟨t,rfl⟩:=r1
  exact ⟨some i,H1,I1,.int i t,q⟩
def SlR (X:Cx) (r:V→Option Int→Option Int→Hp→VK→Prop):Prop :=
  ∀ (pins:List (Addr × Obj)) (s:Shared) (σ:St) (H:Hp) (x:V) (v vl vu:Value) (lo hi:Option Int) (sl:Addr) (Q:VK),Inv X pins σ H s→RelV x v→s.heap.IsSliceOf sl vl vu .none→IsPart vl lo→IsPart vu hi→r x lo hi H Q →
    ∃ T id,typeLookup (.type T) "__getitem__" = pure (some (.builtin id))∧s.TypeIs v T∧wpAny (model X.prog X.w) X.A (getItem v (.ref sl)) (EP X pins σ Q) X.xe s
def tSl (r:V→Option Int→Option Int→Hp→VK→Prop) (te:TE) (tl th:TO):TE:=fun σ H Q=>te σ H fun x H1=>tl σ H1 fun l H2=>th σ H2 fun u H3=>r x l u H3 Q
theorem uG {r:V→Option Int→Option Int→Hp→VK→Prop} (hr:SlR X r) (he:PE X e te) (hl:PO X lo tl) (hu:PO X hi th):PE X (.Subscript e (.Slice lo hi none p2) pos) (tSl r te tl th):=by
  intro pins s σ H Q I h
  refine Subscript_ (thn (@he pins s σ H _ I h) fun v s1 ⟨x,H1,I1,r1,q1⟩=>?_)
  refine wpAny_Slice (thn (@hl pins s1 σ H1 _ I1 q1) fun vl s2 ⟨l,H2,I2,pl,q2⟩=>thn (@hu pins s2 σ H2 _ I2 q2) fun vu s3 ⟨u,H3,I3,pu,q3⟩=>?_)
  rw [evalPart_none]
  refine wpAny_pure ?_
  have I4:Inv X pins σ H3 { s3 with heap:=s3.heap.push { cls:=.type "slice", data:=.fields #[vl,vu,.none] } }:=I3.kept (t':=s3.toks) fun b ob q=>Heap.get?_push_of_some _ q
  obtain ⟨T,id,hT,ht,hg⟩:=hr pins { s3 with heap:=s3.heap.push { cls:=.type "slice", data:=.fields #[vl,vu,.none] } } σ H3 x v vl vu l u s3.heap.objs.size Q I4 r1 (Heap.IsSliceOf.new ..) pl pu q3
  show wpAny (model X.prog X.w) X.A (subscriptTail e (.Slice lo hi none p2) v (.ref s3.heap.objs.size)) (EP X pins σ Q) X.xe { s3 with heap:=s3.heap.push { cls:=.type "slice", data:=.fields #[vl,vu,.none] } }
  exact tail_any (ops:=[.ref s3.heap.objs.size,v]) ht hT hg (by with_unfolding_all rfl)
def tO (xs:List V) (lo hi:Option Int):List V:=(xs.drop (HT.sIx xs.length 0 lo)).take (HT.sIx xs.length xs.length hi-HT.sIx xs.length 0 lo)
theorem jg (xs:List V) (lo hi:Option Int):(tO xs lo hi).length≤xs.length:=by
  unfold tO
  rw [List.length_take,List.length_drop]
  omega
def xc_ (K:PySem.W.Frag):V→Option Int→Option Int→Hp→VK→Prop:=fun x lo hi H Q=>∃ a xs,x=.ref a∧SqT K H a xs ∧
  ¬ (HT.sIx xs.length 0 lo=0∧HT.sIx xs.length xs.length hi=xs.length)∧∀ p,H p=none→Q (.ref p) (upd H p (.tup (tO xs lo hi)))
theorem xa1:SlR X (xc_ X.K):=by
  intro pins s σ H x v vl vu lo hi sl Q I rx hs pl pu h
  obtain ⟨a,xs,rfl,hx,hw,q⟩:=h
  cases rx
  obtain ⟨its,r,ht,hz⟩:=I.tuple hx
  have hlen:its.toArray.size=xs.length:=by rw [List.size_toArray]; exact r.length.symm
  refine ⟨"tuple", _,PyProof.Rows.slot_tuple_getitem.lookup,ht.typeIs,?_⟩
  refine HT.qH ht hs pl pu (by rw [hlen]; exact hw) ?_ (by rw [hlen]; exact hz)
  rw [hlen]
  refine ⟨.ref s.heap.objs.size,_,I.laid (t':=s.toks) (o:=.tup (tO xs lo hi)) (fun b ob q=>Heap.get?_push_of_some _ q) (Nat.le_refl _) ?_,rfl,q _ (I.hok.fresh (Nat.le_refl _))⟩
  exact ⟨Nat.le_trans (jg xs lo hi) hz,_,(r.drop (HT.sIx xs.length 0 lo)).take (HT.sIx xs.length xs.length hi-HT.sIx xs.length 0 lo),IsTup.new _ _⟩
def xc1 (K:PySem.W.Frag):R2:=fun x y H Q=>∃ a b ns ms,x=.ref a∧y=.ref b∧SqT K H a (ns.map V.int)∧SqT K H b (ms.map V.int)∧Q (.bl (HT.lexLt ns ms)) H
theorem xaZ (hu:X.A.units < cLine):OpR X (compareOp .Lt) (xc1 X.K):=by
  intro pins s σ H x y v u Q I rx ry h
  obtain ⟨a,b,ns,ms,rfl,rfl,ha,hb,q⟩:=h
  cases rx
  cases ry
  obtain ⟨its,r1,p1,_⟩:=I.tuple ha
  obtain ⟨its2,r2,p2,_⟩:=I.tuple hb
  have i1:IntsAre its.toArray.toList ns:=intsAre_of r1
  have i2:IntsAre its2.toArray.toList ms:=intsAre_of r2
  exact HT.td p1 p2 i1 i2 hu ⟨.bl (HT.lexLt ns ms),H,I,rfl,q⟩
def xcc (K:PySem.W.Frag):R2:=fun x y H Q=>∃ a b xs ys,x=.ref a∧y=.ref b∧SqT K H a xs∧SqT K H b ys∧xs≠[]∧xs.length+ys.length≤sizeLine ∧
  (ys=[]→Q (.ref a) H)∧(ys≠[]→∀ p,H p=none→Q (.ref p) (upd H p (.tup (xs++ys))))
theorem y_.nil_iff {xs:List V} {us:List Value} (r:y_ xs us):us=[]↔xs=[]:=by
  cases r with
  | nil=>simp
  | cons _ _=>simp
theorem lq:OpR X (binaryOp .Add) (xcc X.K):=by
  intro pins s σ H x y v u Q I rx ry h
  obtain ⟨a,b,xs,ys,rfl,rfl,ha,hb,hx,hz,q1,q2⟩:=h
  cases rx
  cases ry
  obtain ⟨its,r1,p1,_⟩:=I.tuple ha
  obtain ⟨its2,r2,p2,_⟩:=I.tuple hb
  refine HT.lN p1 p2 (fun z=>hx (r1.nil_iff.mp z)) (fun z=>⟨.ref a,H,I,rfl,q1 (r2.nil_iff.mp z)⟩) (fun z=>?_) (by rw [← r1.length,← r2.length]; exact hz)
  refine ⟨.ref s.heap.objs.size,_,I.laid (t':=s.toks) (o:=.tup (xs++ys)) (fun b ob q=>Heap.get?_push_of_some _ q) (Nat.le_refl _) ?_,rfl,q2 (fun w=>z (r2.nil_iff.mpr w)) _ (I.hok.fresh (Nat.le_refl _))⟩
  exact ⟨by rw [List.length_append]; exact hz,_,r1.append r2,IsTup.new _ _⟩
end
end L2
namespace L2
open PySem PySem.Spec PyProof.Rows
def ixN (n:Nat) (i:Int):Option Nat:=if 0≤i then (if i < n then some i.toNat else none) else if -(n:Int)≤i then some (i+n).toNat else none
def atI {α:Type} (xs:List α) (i:Int):Option α:=(ixN xs.length i).bind fun j=>xs[j]?
theorem n_ {n:Nat} {i:Int} {j:Nat} (h:ixN n i=some j):seqIndex? i n=some j∧j < n∧-(n:Int)≤i∧i < n:=by
  unfold ixN at h
  by_cases h0:0≤i
  · rw [if_pos h0] at h
    by_cases h1:i < n
    · rw [if_pos h1] at h
      have e:i.toNat=j:=Option.some.inj h
      exact ⟨by rw [seqIndex_of h0 h1,e],by omega,by omega,h1⟩
    · rw [if_neg h1] at h; cases h
  · rw [if_neg h0] at h
    by_cases h1:-(n:Int)≤i
    · rw [if_pos h1] at h
      have e:(i+n).toNat=j:=Option.some.inj h
      exact ⟨by rw [seqIndex_neg (by omega) h1,e],by omega,h1,by omega⟩
    · rw [if_neg h1] at h; cases h
theorem sN {α:Type} {xs:List α} {i:Int} {v:α} (h:atI xs i=some v):∃ j,seqIndex? i xs.length=some j∧xs[j]? = some v∧j < xs.length∧-(xs.length:Int)≤i∧i < xs.length:=by
  unfold atI at h
  cases e:ixN xs.length i with
  | none=>rw [e] at h; cases h
  | some j =>
    rw [e] at h
    obtain ⟨h1,h2,h3,h4⟩:=n_ e
    exact ⟨j,h1,h,h2,h3,h4⟩
theorem ls {α:Type} {xs:List α} {j:Nat} {v:α} (h:xs[j]? = some v):atI xs (j:Int)=some v:=by
  have hj:j < xs.length:=(List.getElem?_eq_some_iff.mp h).1
  have e:ixN xs.length (j:Int)=some j:=by
    unfold ixN
    rw [if_pos (by omega),if_pos (by omega)]; simp
  unfold atI; rw [e]; exact h
theorem cQ {α:Type} (xs:List α) (v:α):atI (xs++[v]) (-1)=some v:=by
  have hl:(xs++[v]).length=xs.length+1:=by simp
  have e:ixN (xs++[v]).length (-1)=some xs.length:=by
    unfold ixN
    rw [hl,if_neg (by decide),if_pos (by omega)]
    congr 1
    omega
  unfold atI
  rw [e]
  show (xs++[v])[xs.length]? = some v
  simp
def lG (b:Expr):Prop:=∀ o i,subscripted b false o i=operate [o,i] (getItem o i)
def IxR (X:Cx) (r:R2):Prop :=
  ∀ (value slice:Expr) (pins:List (Addr × Obj)) (s:Shared) (σ:St) (H:Hp) (x y:V) (v u:Value) (Q:VK),Inv X pins σ H s→RelV x v→RelV y u→r x y H Q →
    subscripted slice false v u=operate [v,u] (getItem v u)→wpAny (model X.prog X.w) X.A (subscriptTail value slice v u) (EP X pins σ Q) X.xe s
def MtR (X:Cx) (id:String) (r:V→List V→Hp→VK→Prop):Prop :=
  ∀ (pins:List (Addr × Obj)) (s:Shared) (σ:St) (H:Hp) (x:V) (xs:List V) (v:Value) (us:List Value) (Q:VK),Inv X pins σ H s→RelV x v→y_ xs us→r x xs H Q →
    wpAny (model X.prog X.w) X.A (call (.builtin id) (v::us)) (EP X pins σ Q) X.xe s
section
variable {X:Cx} {a b:Expr} {ta tb:TE} {pos:Pos}
theorem IxR.or {r r':R2} (h:IxR X r) (h':IxR X r'):IxR X (fun x y H Q=>r x y H Q∨r' x y H Q):=by
  intro value slice pins s σ H x y v u Q I rx ry q hs
  rcases q with q | q
  · exact h value slice pins s σ H x y v u Q I rx ry q hs
  · exact h' value slice pins s σ H x y v u Q I rx ry q hs
theorem xP {r:R2} (hr:IxR X r) (ha:PE X a ta) (hb:PE X b tb) (hs:lG b):PE X (.Subscript a b pos) (tOp r ta tb):=by
  intro pins s σ H Q I h
  exact Subscript_ (xbW ha hb I h fun v u s2 x y H2 I2 rx ry q=>hr a @b pins s2 σ H2 x y v u Q I2 rx ry q (hs _ _))
def xcm (K:PySem.W.Frag):R2:=fun x y H Q=>∃ p xs i v,x=.ref p∧y=.int i∧SqL K H p xs∧atI xs i=some v∧Q v H
def xcy (K:PySem.W.Frag):R2:=fun x y H Q=>∃ p xs i v,x=.ref p∧y=.int i∧SqT K H p xs∧atI xs i=some v∧Q v H
def xcE:R2:=fun x y H Q=>∃ z i c,x=.str z∧y=.int i∧z.length≤sizeLine∧atI z.cps.toList i=some c∧Q (.str ⟨#[c]⟩) H
theorem t_:IxR X (xcm X.K):=by
  intro value slice pins s σ H x y v u Q I rx ry h hs
  obtain ⟨p,xs,i,z,rfl,rfl,hq,he,q⟩:=h
  cases rx
  obtain ⟨t,rfl⟩:=ry
  obtain ⟨its,r,pl,hz⟩:=I.list hq
  obtain ⟨j,h1,h2,h3,h4,h5⟩:=sN he
  obtain ⟨w,ew,rw'⟩:=r.get h2
  have hl:=r.length
  have hn:=gf
  have fin:EP X pins σ Q w s:=⟨z,H,I,rw',q⟩
  by_cases h0:0≤i
  · have hj:i.toNat=j:=by
      rw [seqIndex_of h0 h5] at h1
      exact Option.some.inj h1
    exact item_listR pl.isList h0 (by omega) (by rw [hj]; simpa using ew) fin hs
  · have hj:(i+(its.toArray.size:Int)).toNat=j:=by
      rw [seqIndex_neg (by omega) h4] at h1
      rw [List.size_toArray,← hl]
      exact Option.some.inj h1
    exact subscriptTail_builtinR (x:=w) pl.isList.typeIs slot_list_getitem.lookup
      (wpAny_getItem_list_neg (Q:=fun r s'=>r=w∧EP X pins σ Q r s') pl.isList (by omega) (by rw [List.size_toArray] <;> omega) (by omega) (by rw [hj]; simpa using ew) ⟨rfl,fin⟩) hs
theorem xaM:IxR X (xcy X.K):=by
  intro value slice pins s σ H x y v u Q I rx ry h hs
  obtain ⟨p,xs,i,z,rfl,rfl,hq,he,q⟩:=h
  cases rx
  obtain ⟨t,rfl⟩:=ry
  obtain ⟨its,r,pl,hz⟩:=I.tuple hq
  obtain ⟨j,h1,h2,h3,h4,h5⟩:=sN he
  obtain ⟨w,ew,rw'⟩:=r.get h2
  have hl:=r.length
  have hn:=gf
  have fin:EP X pins σ Q w s:=⟨z,H,I,rw',q⟩
  exact subscriptTail_builtinR (x:=w) pl.typeIs slot_tuple_getitem.lookup
    (getItem_tuple (j:=j) (Q:=fun r s'=>r=w∧EP X pins σ Q r s') pl (by omega) (by omega) (by rw [List.size_toArray,← hl]; exact h1) (by simpa using ew) ⟨rfl,fin⟩) hs
theorem xat:IxR X xcE:=by
  intro value slice pins s σ H x y v u Q I rx ry h hs
  obtain ⟨z,i,c,rfl,rfl,hz,he,q⟩:=h
  obtain ⟨t,rfl⟩:=rx
  obtain ⟨t',rfl⟩:=ry
  obtain ⟨j,h1,h2,h3,h4,h5⟩:=sN he
  have hl:z.cps.toList.length=z.length:=by simp [Str.length]
  rw [hl] at h1 h4 h5
  have hn:=gf
  exact tail_any (typeIs_str s z t) slot_str_getitem.lookup (getItem_str (c:=c) (by
    have e1:decide (i < -(2 ^ 63:Int))=false:=decide_eq_false (by omega)
    have e2:decide (i≥2 ^ 63)=false:=decide_eq_false (by omega)
    rw [e1,e2,Bool.or_false]) (by rw [h1]; simpa using h2) ⟨.str ⟨#[c]⟩,H,I.tok _,⟨_,rfl⟩,q⟩) hs
def rIx (K:PySem.W.Frag):R2:=fun x y H Q=>xcm K x y H Q∨xcy K x y H Q∨xcE x y H Q
theorem xal:IxR X (rIx X.K):=t_.or (xaM.or xat)
theorem r_ (its:List Value) (n j:Nat) (u:Value):Obj.mapSeq (·.setIfInBounds j u) { cls:=.type "list", data:=.seq its.toArray n }={ cls:=.type "list", data:=.seq (its.set j u).toArray n }:=by
  simp [Obj.mapSeq]
theorem Inv.lst {pins:List (Addr × Obj)} {σ:St} {H:Hp} {s:Shared} {p:Addr} {xs:List V} (I:Inv X pins σ H s) (h:H p=some (.lst xs)) :
    ∃ (its:List Value) (n:Nat),y_ xs its∧s.heap.get? p=some { cls:=.type "list", data:=.seq its.toArray n }∧xs.length≤sizeLine:=by
  obtain ⟨z,its,n,r,e⟩:=I.hok p _ h
  exact ⟨its,n,r,e,z⟩
theorem Inv.lstUpd {pins:List (Addr × Obj)} {σ:St} {H:Hp} {s:Shared} {p:Addr} {xs ys:List V} {its its':List Value} {n n':Nat} {f:Obj→Obj} (I:Inv X pins σ H s) (h:H p=some (.lst xs))
    (ho:s.heap.get? p=some { cls:=.type "list", data:=.seq its.toArray n }) (hf:f { cls:=.type "list", data:=.seq its.toArray n }={ cls:=.type "list", data:=.seq its'.toArray n' }) (r:y_ ys its') (hz:ys.length≤sizeLine) (t:Nat) :
    Inv X pins σ (upd H p (.lst ys)) { s with heap:=s.heap.update p f,toks:=t }:=by
  have e:(s.heap.update p f).get? p=some { cls:=.type "list", data:=.seq its'.toArray n' }:=by
    rw [Heap.get?_update_self f ho (by rw [hf] <;> rfl),hf]
  refine I.write (x:=p) (e:=p) (by rw [h]; trivial) (.inl rfl) (fun b u hb q=>(Heap.get?_update_other _ _ (Ne.symm hb)).trans q) ⟨_,e⟩ ?_
  exact ⟨hz,its',n',r,e⟩
def xba:V→V→V→Hp→(Hp→Prop)→Prop:=fun o i v H Q=>∃ p xs k j,o=.ref p∧i=.int k∧H p=some (.lst xs)∧ixN xs.length k=some j∧Q (upd H p (.lst (xs.set j v)))
theorem set_list:xc9 X xba:=by
  intro pins s σ H o i v ov iv u Q I ro ri rv h
  obtain ⟨p,xs,k,j,rfl,rfl,hp,hj,q⟩:=h
  cases ro
  obtain ⟨t,rfl⟩:=ri
  obtain ⟨its,n,r,ho,hz⟩:=I.lst hp
  obtain ⟨h1,h2,h3,h4⟩:=n_ hj
  have hl:=r.length
  have hn:=gf
  have I':Inv X pins σ (upd H p (.lst (xs.set j v))) { s with heap:=s.heap.update p (Obj.mapSeq (·.setIfInBounds j u)) } :=
    I.lstUpd hp ho (r_ its n j u) (r.set rv j) (by rw [List.length_set]; exact hz) s.toks
  by_cases h0:0≤k
  · have hk:k.toNat=j:=by
      rw [seqIndex_of h0 h4] at h1
      exact Option.some.inj h1
    exact PySem.W.ki_setAt ho h0 (by omega) (by rw [List.size_toArray,← hl]; exact h4) (by rw [hk]; exact ⟨_,I',q⟩)
  · have hk:(k+(its.toArray.size:Int)).toNat=j:=by
      rw [seqIndex_neg (by omega) h3] at h1
      rw [List.size_toArray,← hl]
      exact Option.some.inj h1
    exact PySem.W.ki_setBack ho (by omega) (by rw [List.size_toArray,← hl]; exact h3) (by omega) (by rw [hk]; exact ⟨_,I',q⟩)
theorem fN (lo hi:Option Int) (n:Nat):(sliceBounds lo hi none n).1=((HT.sIx n 0 lo:Nat):Int)∧(sliceBounds lo hi none n).2.1=((HT.sIx n n hi:Nat):Int)∧(sliceBounds lo hi none n).2.2=1:=by
  refine ⟨?_,?_,rfl⟩
  · cases lo with
    | none=>simp [sliceBounds,HT.sIx]
    | some i =>
      simp only [sliceBounds,HT.sIx,Option.getD_none,show (1:Int) > 0 by decide,if_true]
      by_cases h:i < 0
      · simp only [h,if_true] <;> omega
      · simp only [h,if_false] <;> omega
  · cases hi with
    | none=>simp [sliceBounds,HT.sIx]
    | some i =>
      simp only [sliceBounds,HT.sIx,Option.getD_none,show (1:Int) > 0 by decide,if_true]
      by_cases h:i < 0
      · simp only [h,if_true] <;> omega
      · simp only [h,if_false] <;> omega
theorem fg (its:List Value) (lo hi:Option Int):slicePick its.toArray lo hi none=((its.drop (HT.sIx its.length 0 lo)).take (HT.sIx its.length its.length hi-HT.sIx its.length 0 lo)).toArray:=by
  obtain ⟨h1,h2,h3⟩:=fN lo hi its.toArray.size
  unfold slicePick
  rw [h1,h2,h3]
  simp only [sliceRange_one,pick_run,List.size_toArray] <;> rfl
def xay (K:PySem.W.Frag):V→Option Int→Option Int→Hp→VK→Prop:=fun x lo hi H Q=>∃ a xs,x=.ref a∧SqL K H a xs∧∀ p,H p=none→Q (.ref p) (upd H p (.lst (tO xs lo hi)))
theorem bG:SlR X (xay X.K):=by
  intro pins s σ H x v vl vu lo hi sl Q I rx hs pl pu h
  obtain ⟨a,xs,rfl,hx,q⟩:=h
  cases rx
  obtain ⟨its,r,ht,hz⟩:=I.list hx
  have hlen:=r.length
  refine ⟨"list", _,slot_list_getitem.lookup,ht.isList.typeIs,?_⟩
  refine wpAny_getItem_list_slice ht.isList hs pl pu .none (by simp) ?_ (by rw [List.size_toArray] <;> omega)
  rw [fg,← hlen]
  refine ⟨.ref s.heap.objs.size,_,I.laid (t':=s.toks) (o:=.lst (tO xs lo hi)) (fun b ob q=>Heap.get?_push_of_some _ q) (Nat.le_refl _) ?_,rfl,q _ (I.hok.fresh (Nat.le_refl _))⟩
  exact ⟨Nat.le_trans (jg xs lo hi) hz,_,0,(r.drop (HT.sIx xs.length 0 lo)).take (HT.sIx xs.length xs.length hi-HT.sIx xs.length 0 lo),Heap.get?_push_size _ rfl⟩
theorem dX:qs X (.builtin "len") (fun xs H Q=>∃ p ys,xs=[.ref p]∧(SqL X.K H p ys∨SqT X.K H p ys)∧Q (.int ys.length) H):=by
  intro pins s σ H xs us Q I r h
  obtain ⟨p,ys,rfl,hq,q⟩:=h
  obtain ⟨u,rfl,rx⟩:=vals1 r
  cases rx
  have hn:=gf
  rcases hq with hq | hq
  · obtain ⟨its,r',pl,hz⟩:=I.list hq
    have hlen:=r'.length
    exact Calls.call_len_list pl.isList (by simp only [List.size_toArray] <;> omega) ⟨.int ys.length,H,I.tok _,⟨s.toks+1,by rw [List.size_toArray,hlen]⟩,q⟩
  · obtain ⟨its,r',pl,hz⟩:=I.tuple hq
    have hlen:=r'.length
    exact len_tuple pl (by simp only [List.size_toArray] <;> omega) ⟨.int ys.length,H,I.tok _,⟨s.toks+1,by rw [List.size_toArray,hlen]⟩,q⟩
theorem dO:qs X (.type "list") (fun xs H Q=>∃ p ys,xs=[.ref p]∧(SqL X.K H p ys∨SqT X.K H p ys)∧∀ l,H l=none→Q (.ref l) (upd H l (.lst ys))):=by
  intro pins s σ H xs us Q I r h
  obtain ⟨p,ys,rfl,hq,q⟩:=h
  obtain ⟨u,rfl,rx⟩:=vals1 r
  cases rx
  have fin:∀ (its:List Value),y_ ys its→ys.length≤sizeLine→∀ (h':Heap) (c':Nat),(∀ b o',s.heap.get? b=some o'→h'.get? b=some o') →
      h'.get? s.heap.objs.size=some { cls:=.type "list", dict:=none,data:=.seq its.toArray c',slots := #[] }→EP X pins σ Q (.ref s.heap.objs.size) { s with heap:=h' }:=fun its r' hz h' c' kp e =>
    ⟨.ref s.heap.objs.size,_,I.laid (t':=s.toks) kp (Nat.le_refl _) (show wC X.prog X.w _ h' _ (.lst ys) from ⟨hz,its,c',r',e⟩),rfl,q _ (I.hok.fresh (Nat.le_refl _))⟩
  rcases hq with hq | hq
  · obtain ⟨its,r',pl,hz⟩:=I.list hq
    have hlen:=r'.length
    obtain ⟨o,ho,hc,n,hd⟩:=pl.isList
    exact call_list_seq p (.inl rfl) ho hc hd (fun h' c' kp e=>fin its r' hz h' c' kp e) (by simp only [List.size_toArray] <;> omega)
  · obtain ⟨its,r',pl,hz⟩:=I.tuple hq
    have hlen:=r'.length
    obtain ⟨o,ho,hc,n,hd⟩:=pl
    exact call_list_seq p (.inr rfl) ho hc hd (fun h' c' kp e=>fin its r' hz h' c' kp e) (by simp only [List.size_toArray] <;> omega)
theorem fi:qs X (.type "tuple") (fun xs H Q=>∃ p ys,xs=[.ref p]∧((SqL X.K H p ys∧∀ l,H l=none→Q (.ref l) (upd H l (.tup ys)))∨(SqT X.K H p ys∧Q (.ref p) H))):=by
  intro pins s σ H xs us Q I r h
  obtain ⟨p,ys,rfl,h⟩:=h
  obtain ⟨u,rfl,rx⟩:=vals1 r
  cases rx
  rcases h with ⟨hq,q⟩ | ⟨hq,q⟩
  · obtain ⟨its,r',pl,hz⟩:=I.list hq
    have hlen:=r'.length
    refine call_tuple_list pl.isList (fun h' kp=>?_) (by simp only [List.size_toArray] <;> omega)
    have I1:Inv X pins σ H { s with heap:=h' }:=I.kept (t':=s.toks) kp
    have I2:Inv X pins σ (upd H h'.objs.size (.tup ys)) { s with heap:=h'.push { cls:=.type "tuple", data:=.seq its.toArray } } :=
      I1.laid (t':=s.toks) (fun b o e=>Heap.get?_push_of_some _ e) (Nat.le_refl _) (show wC X.prog X.w _ _ _ (.tup ys) from ⟨hz,its,r',IsTup.new _ _⟩)
    exact ⟨.ref h'.objs.size,_,I2,rfl,q _ (I1.hok.fresh (Nat.le_refl _))⟩
  · obtain ⟨its,r',pl,hz⟩:=I.tuple hq
    exact call_tuple_same pl ⟨.ref p,H,I,rfl,q⟩
def tyV (K:PySem.W.Frag) (T:String) (x:V) (H:Hp):Prop:=match x with
  | .str _=>T = "str"
  | .int _=>T = "int"
  | .ref p=>(T = "list" ∧ ∃ xs,SqL K H p xs)∨(T = "tuple" ∧ ∃ o,K.lookup p=some o∧o.cls=.type "tuple" ∧ o.dict=none) ∨
      (T = "dict" ∧ ((∃ kvs,H p=some (.dK kvs))∨∃ kvs,H p=some (.dT kvs)))∨(T = "set" ∧ ∃ S n,H p=some (.set S n))
  | _=>False
theorem xbe {pins:List (Addr × Obj)} {σ:St} {H:Hp} {s:Shared} {T:String} {x:V} {v:Value} (I:Inv X pins σ H s) (r:RelV x v) (ty:tyV X.K T x H) :
    s.TypeIs v T∧∀ a,v=.ref a→∃ ob,s.heap.get? a=some ob∧ob.dict=none:=by
  cases x with
  | str z =>
    obtain ⟨t,rfl⟩:=r
    cases (show T = "str" from ty)
    exact ⟨typeIs_str s z t,fun _ e=>nomatch e⟩
  | int i =>
    obtain ⟨t,rfl⟩:=r
    cases (show T = "int" from ty)
    exact ⟨typeIs_int s i t,fun _ e=>nomatch e⟩
  | ref p =>
    cases r
    rcases ty with ⟨rfl,xs,hq⟩ | ⟨rfl,o,hk,hc,hd⟩ | ⟨rfl,hk⟩ | ⟨rfl,S,n,hk⟩
    · obtain ⟨its,_,pl,_⟩:=I.list hq
      refine ⟨pl.isList.typeIs,fun a e=>?_⟩
      cases e
      obtain ⟨o,n,e,c,hd,_⟩:=pl
      exact ⟨o,e,hd⟩
    · refine ⟨⟨o,I.kIn p o hk,hc⟩,fun a e=>?_⟩
      cases e
      exact ⟨o,I.kIn _ o hk,hd⟩
    · have z:∃ o,s.heap.get? p=some o∧o.ExactDict:=by
        rcases hk with ⟨kvs,hk⟩ | ⟨kvs,hk⟩
        · obtain ⟨_,_,_,_,o,_,_,e,ex,_⟩:=I.hok p _ hk
          exact ⟨o,e,ex⟩
        · obtain ⟨_,_,_,_,o,_,_,e,ex,_⟩:=I.hok p _ hk
          exact ⟨o,e,ex⟩
      obtain ⟨o,e,ex⟩:=z
      refine ⟨⟨o,e,ex.1⟩,fun a e2=>?_⟩
      cases e2
      exact ⟨o,e,ex.2.1⟩
    · obtain ⟨o,_,_,_,e,ex,_⟩:=I.hok p _ hk
      refine ⟨⟨o,e,ex.1⟩,fun a e2=>?_⟩
      cases e2
      exact ⟨o,e,ex.2.1⟩
  | _=>exact False.elim ty
def tBM (K:PySem.W.Frag) (T:String) (r:V→List V→Hp→VK→Prop) (to:TE) (t:TA):TE:=fun σ H Q=>to σ H fun x H1=>tyV K T x H1∧t σ H1 fun xs H2=>r x xs H2 Q
variable {o e:Expr} {es:List Expr} {to:TE} {t:TA} {name:Str} {apos cpos:Pos} {T id:String} {r:V→List V→Hp→VK→Prop}
theorem tY (pa:PlainAttrs T) (slot:Slot T name id) (hty:typeOf (.builtin id)=pure (.type "method_descriptor")) (hm:MtR X id r) (ho:PE X o to) (ha:PA X (e::es) t)
    (hbase:attributeBase o name X.env (eval o X.env)=eval o X.env:=by rfl)
    (hfew:((backTo cpos (starEach (e::es) X.env)).all (fun x=>!x.1) && (backToKw cpos (keywordEach [] X.env)).all (fun x=>x.1.isSome)
      && decide ((e::es).length+([]:List Keyword).length+(if ([]:List Keyword).isEmpty then 0 else 1) < 30))=true:=by rfl)
    (hline:(apos.endLine == cpos.line)=true:=by rfl) (hs:starEach (e::es) X.env=(false,eval e X.env)::starEach es X.env:=by rfl) (hplain:(backTo cpos (starEach es X.env)).any (·.1)=false:=by rfl) :
    PE X (.Call (.Attribute o name apos) (e::es) [] cpos) (tBM X.K T r to t):=by
  intro pins s σ H Q I h
  refine wpAny_Call_method_late hbase hfew hline rfl (thn (@ho pins s σ H _ I h) fun v s1 ⟨x,H1,I1,r1,ty,q1⟩=>?_)
  obtain ⟨h1,h2⟩:=xbe I1 r1 ty
  refine ⟨T,id,pa,slot,hty,h1,h2,?_⟩
  have hA:=@ha cpos pins s1 σ H1 _ I1 q1
  rw [hs] at hA ⊢
  refine Calls.callWith_builtin (by show (false || (backTo cpos (starEach es X.env)).any (·.1))=false; rw [hplain] <;> rfl) (Calls.evalArgs_plain ?_)
  exact thn hA fun us s2 ⟨vs,H2,I2,r2,q2⟩=>@hm pins s2 σ H2 x vs v us Q I2 r1 r2 q2
end
end L2
namespace L2
open PySem PySem.Spec PyProof.Rows
def MtM (X:Cx) (id:String) (r:V→List V→Hp→VK→Prop):Prop :=
  ∀ (pins:List (Addr × Obj)) (s:Shared) (σ:St) (H:Hp) (x:V) (xs:List V) (v:Value) (us:List Value) (Q:VK),Inv X pins σ H s→RelV x v→y_ xs us→r x xs H Q →
    wpAny (model X.prog X.w) X.A (call (.builtin id) (v::us)) (EP X pins σ Q) X.xe s
theorem y_.one:∀ {x:V} {us:List Value},y_ [x] us→∃ u,us=[u]∧RelV x u
  | _,_,.cons r .nil=>⟨_,rfl,r⟩
theorem y_.rep {xs:List V} {us:List Value} (h:y_ xs us):∀ k:Nat,y_ (List.replicate k xs).flatten (List.replicate k us).flatten
  | 0=>.nil
  | k+1=>by
    rw [List.replicate_succ,List.replicate_succ,List.flatten_cons,List.flatten_cons]
    exact y_.append h (y_.rep h k)
theorem foldl_rep (its:List Value):∀ (k:Nat) (acc:List Value),
    List.foldl (fun x1 x2=>x1++x2) acc.toArray (List.replicate k its.toArray)=(acc++(List.replicate k its).flatten).toArray
  | 0,acc=>by simp
  | k+1,acc=>by
    have e:acc.toArray++its.toArray=(acc++its).toArray:=by simp
    have e2:(acc++its)++(List.replicate k its).flatten=acc++(List.replicate (k+1) its).flatten:=by
      rw [List.replicate_succ,List.flatten_cons,List.append_assoc]
    rw [← e2,← foldl_rep its k (acc++its),← e,List.replicate_succ,List.foldl_cons]
section
variable {X:Cx} {pins:List (Addr × Obj)} {σ:St} {H:Hp} {s:Shared} {l b:Addr} {xs ys zs:List V}
theorem Inv.lset {its its':List Value} {n:Nat} {f:Array Value→Array Value} {t':Nat} (I:Inv X pins σ H s) (hH:H l=some (.lst xs))
    (e:s.heap.get? l=some { cls:=.type "list", data:=.seq its.toArray n }) (hf:f its.toArray=its'.toArray) (hv:y_ ys its') (hz:ys.length≤sizeLine) :
    Inv X pins σ (upd H l (.lst ys)) { s with heap:=s.heap.update l (Obj.mapSeq f),toks:=t' }:=by
  have q:=PySem.IsL.update e f
  rw [hf] at q
  refine I.write (x:=l) (e:=l) (by rw [hH]; exact trivial) (.inl rfl) (fun b' u hb hu=>(Heap.get?_update_other s.heap (Obj.mapSeq f) (Ne.symm hb)).trans hu) ⟨_,q⟩ ?_
  exact ⟨hz,its',_,hv,q⟩
theorem Inv.lnew {its:List Value} {t':Nat} (I:Inv X pins σ H s) (hv:y_ ys its) (hz:ys.length≤sizeLine) :
    Inv X pins σ (upd H s.heap.objs.size (.lst ys)) { s with heap:=s.heap.push { cls:=.type "list", data:=.seq its.toArray },toks:=t' } :=
  I.laid (fun _ _ q=>Heap.get?_push_of_some _ q) (Nat.le_refl _) ⟨hz,its,0,hv,Heap.get?_push_size _ rfl⟩
theorem Inv.fresh (I:Inv X pins σ H s):H s.heap.objs.size=none:=I.hok.fresh (Nat.le_refl _)
theorem Inv.lstM (I:Inv X pins σ H s) (hH:H l=some (.lst xs)):xs.length≤sizeLine∧∃ (its:List Value) (n:Nat),y_ xs its∧xs.length=its.length∧s.heap.get? l=some { cls:=.type "list", data:=.seq its.toArray n }:=by
  obtain ⟨z,its,n,r,e⟩:=I.hok l _ hH
  exact ⟨z,its,n,r,r.length,e⟩
theorem bO {n:Nat} (h:n≤sizeLine):Builtin.List.listTooLong n=false:=by
  unfold Builtin.List.listTooLong
  exact decide_eq_false (by omega)
end
section
variable {X:Cx}
def mX:V→List V→Hp→VK→Prop:=fun x vs H Q=>∃ l xs y,x=.ref l∧vs=[y]∧H l=some (.lst xs)∧xs.length < sizeLine∧Q .non (upd H l (.lst (xs++[y])))
theorem vd:MtM X "list.append" mX:=by
  intro pins s σ H x vs v us Q I rx rv h
  obtain ⟨l,xs,y,rfl,rfl,hH,hz,q⟩:=h
  cases rx
  obtain ⟨u,rfl,ru⟩:=rv.one
  obtain ⟨z,its,n,r,hl,e⟩:=I.lstM hH
  refine call_meets F.slot_list_append ⟨_,e,rfl⟩ F.entry_list_append (F.args_list_append_2 _ _) (PySem.list_append l its.toArray n u (by rw [List.size_toArray]; omega)) ⟨e,?_⟩
  refine ⟨.non,_,I.lset (its':=its++[u]) hH e (by simp) (r.append (.cons ru .nil)) ?_,rfl,q⟩
  rw [List.length_append,List.length_singleton]
  omega
def xcl:R2:=fun x y H Q=>∃ l b xs zs,x=.ref l∧y=.ref b∧H l=some (.lst xs)∧H b=some (.lst zs)∧xs.length+zs.length≤sizeLine∧∀ p,H p=none→Q (.ref p) (upd H p (.lst (xs++zs)))
theorem jv:OpR X (binaryOp .Add) xcl:=by
  intro pins s σ H x y v u Q I rx ry h
  obtain ⟨l,b,xs,zs,rfl,rfl,hH,hB,hz,q⟩:=h
  cases rx
  cases ry
  obtain ⟨z,its,n,r,hl,e⟩:=I.lstM hH
  obtain ⟨z2,its2,n2,r2,hl2,e2⟩:=I.lstM hB
  refine PySem.P.add_list e e2 ?_ (by rw [List.size_toArray,List.size_toArray]; omega)
  have ea:its.toArray++its2.toArray=(its++its2).toArray:=by simp
  rw [ea]
  exact ⟨.ref _,_,I.lnew (t':=s.toks) (r.append r2) (by rw [List.length_append]; omega),rfl,q _ I.fresh⟩
def xb_:R2:=fun x y H Q=>∃ l k xs,x=.ref l∧y=.int k∧H l=some (.lst xs)∧-(2 ^ 63)≤k∧k < 2 ^ 63∧xs.length*k.toNat≤sizeLine ∧
  ∀ p,H p=none→Q (.ref p) (upd H p (.lst (List.replicate k.toNat xs).flatten))
theorem len_rep {α:Type} (xs:List α) (k:Nat):(List.replicate k xs).flatten.length=k*xs.length:=by
  induction k with
  | zero=>simp
  | succ k ih=>rw [List.replicate_succ,List.flatten_cons,List.length_append,ih,Nat.succ_mul,Nat.add_comm]
theorem pZ:OpR X (binaryOp .Mult) xb_:=by
  intro pins s σ H x y v u Q I rx ry h
  obtain ⟨l,k,xs,rfl,rfl,hH,h1,h2,hz,q⟩:=h
  cases rx
  obtain ⟨t,rfl⟩:=ry
  obtain ⟨z,its,n,r,hl,e⟩:=I.lstM hH
  have hlen:its.toArray.size*k.toNat≤sizeLine:=by rw [List.size_toArray,← hl]; exact hz
  have hcap:¬ its.toArray.size*k.toNat > (2 ^ 63-1) / 8:=by
    have:(sizeLine:Nat)≤(2 ^ 63-1) / 8:=by decide
    omega
  have hfit:¬ (!Builtin.List.listFitsIndex k)=true:=by
    rw [fitsIndex_both h1 h2]
    exact Bool.false_ne_true
  have hlong:¬ Builtin.List.listTooLong (its.toArray.size*k.toNat)=true:=by
    rw [bO hlen]
    exact Bool.false_ne_true
  have hnew:List.foldl (fun x1 x2=>x1++x2) #[] (List.replicate (if its.toArray.isEmpty=true then 0 else k.toNat) its.toArray)=(List.replicate k.toNat its).flatten.toArray:=by
    have f0:∀ m:Nat,List.foldl (fun x1 x2=>x1++x2) #[] (List.replicate m its.toArray)=(List.replicate m its).flatten.toArray:=fun m=>by
      have:=foldl_rep its m []
      rw [List.nil_append] at this
      exact this
    rw [f0]
    cases its with
    | nil=>simp
    | cons a r'=>rw [if_neg (by simp)]
  refine wpAny_binaryOp_repeat_ref (T := "list") (U := "int") (by decide) ⟨_,e,rfl⟩ (fun s'=>typeIs_int s' k t) noFill_list_mul F.fills_int_mul F.slot_int_rmul repeat_list F.slot_int_index.lookup
    (call_meets F.slot_int_rmul (typeIs_int s k t) F.entry_int_rmul (F.args_int_rmul_2 _ _) (int___rmul___int_list k t l its.toArray n)
      ⟨e,rfl,⟨_,e,rfl⟩,call_meets F.slot_list_mul ⟨_,e,rfl⟩ F.entry_list_mul (F.args_list_mul_2 _ _) (AutoListH.list___mul___list_int_3 l its.toArray n k t hfit hcap hlong) ⟨e,?_⟩⟩)
  rw [hnew]
  exact ⟨.ref _,_,I.lnew (t':=s.toks) (r.rep k.toNat) (by rw [len_rep,Nat.mul_comm]; exact hz),rfl,q _ I.fresh⟩
end
section
variable {prog:Program} {w:World} {A:Around} {E:Value→Shared→Prop} {s:Shared}
end
section
variable {X:Cx}
end
end L2
namespace Att
open PySem PySem.W PySem.Calls PyProof.Rows
theorem jE {P:Params} {h:Heap}:∀ (ns:List Int) (vs:List Value),WellAll P h vs (ns.map WData.int)→IntsAre vs ns:=by
  intro ns
  induction ns with
  | nil =>
    intro vs w
    rw [List.map_nil] at w
    cases w
    exact .nil
  | cons n ns ih =>
    intro vs w
    rw [List.map_cons] at w
    cases w with
    | cons a b =>
      cases a
      exact .cons _ _ (ih _ b)
theorem nW {l:OpenLaw} {n:Nat} (hn:l.most=some n) {P:Params} {h:Heap} {args:List WData} {vals:List Value}
    (hpre:l.row.toRowW.claim.pre args=true) (hwl:WellAll P h vals args) :
    ∃ a vs ns,vals=[Value.ref a]∧args=[WData.list (ns.map WData.int)]∧h.get? a=some { cls:=.type "list", data:=.seq vs.toArray }∧IntsAre vs ns∧ns.length≤n:=by
  have hsh:WShape.hasAll [] args [.list .int]=true:=(pre_splitW hpre).1
  have hc:l.pre.holds [] { args:=args }=true:=(pre_splitW hpre).2
  obtain ⟨d,r,rfl,h1,h2⟩:=hasAllW_cons hsh
  obtain rfl:=hasAllW_nil h2
  obtain ⟨xs,rfl,h3⟩:=hasW_list h1
  obtain ⟨ns,rfl⟩:=items_int h3
  have hlen:ns.length≤n:=by
    unfold OpenLaw.pre at hc
    have h4:(WTm.not (.lt (.lit (.int (n:Int))) (.len (.arg 0)))).holds [] { args:=[.list (ns.map .int)] }=true:=by
      have h4:=(holds_andW hc).1
      rw [hn] at h4
      exact h4
    have h5:=condW_of h4 (w_not (w_lt w_lit (w_len_list (w_arg rfl))))
    rw [List.length_map] at h5
    refine Nat.le_of_not_lt fun q=>?_
    have q':(n:Int) < ((ns.length:Nat):Int):=by omega
    first
      | (rw [decide_eq_true q'] at h5; exact absurd h5 (by decide))
      | (simp at h5; omega)
  cases hwl with
  | cons w1 w2 =>
    cases w2
    cases w1 with
    | list ho hall=>exact ⟨_,_,ns,rfl,rfl,ho,jE ns _ hall,hlen⟩
theorem mE (l:OpenLaw) (args:List WData):l.row.toRowW.claim.post args (.bool true) args=true :=
  postW_of (r:=l.row.toRowW) (X:=(true == true))
    (show WShape.has [] (.bool true) .bool=true by first | rfl | decide | simp [WShape.has,WShape.arms,WShape.armsAll])
    (show (WTm.eq .res (.lit (.bool true))).value [] { args:=args,res:=some (.bool true),after:=args }=some (.bool (true == true)) from w_eq_bool (w_res rfl) w_lit) rfl
theorem aa {l:OpenLaw} {n:Nat} {q:Program} {loose:List Str} {XP:(Str→Option Value)→Heap→Prop} {YP:World→Heap→Prop} {d:DefRec}
    (hn:l.most=some n) (hdf:d.params.defaults=[])
    (call:∀ (w:World) (s₀ s₁:Shared) (mg mb:Str→Option Value) (fa:Addr) (o:Obj) (pm cd doc:Value) (a:Addr) (vs:List Value) (ns:List Int),
      Ground q loose [] XP w s₀ mg mb s₁.heap→YP w s₁.heap →
      s₁.heap.get? fa=some o→o.data=.func (docDef d.name d.params d.body d.scope pm cd doc)→s₁.heap.CodeRec cd d.name→mg d.name=some (.ref fa) →
      s₁.heap.get? a=some { cls:=.type "list", data:=.seq vs.toArray }→IntsAre vs ns→ns.length≤n→s₁.gens = #[] →
      codeAny (model l.prog w) callerA (.call (.ref fa) ⟨[.ref a],[]⟩) (fun r s'=>r=.ok (.ret (.bool true))∧OldK s₁.heap s'.heap∧s'.os=s₁.os∧AllBare s'.gens) s₁) :
    WalkO q loose XP YP l.row.toRowW d [] (fun f vs=>PySem.call f vs):=by
  intro w s₀ s₁ mg mb G Y fa o pm cd doc dV kV ho hd hcd hD hmg hg args vals as hpre hlay hrd hwl hlo
  obtain rfl:dV=.none:=Dflts.none hD hdf
  obtain rfl:kV=.none:=Dflts.noKw hD
  obtain ⟨a,vs,ns,rfl,rfl,hobj,hints,hlen⟩:=nW hn hpre hwl
  refine enter_call (codeAny_mono (call w s₀ s₁ mg mb fa o pm cd doc a vs ns G Y ho (fd_plain hd) hcd hmg hobj hints hlen hg) fun r s' hq=>?_)
  obtain ⟨rfl,h2,h3,h4⟩:=hq
  exact ⟨.inl ⟨.bool true,.bool true,[],rfl,fun _=>rfl,.bool true,mE l _,fun _=>⟨List.Pairwise.nil,fun _ hm=>(nomatch hm)⟩⟩,h2,h3,h4⟩
section
variable {prog:Program} {w:World} {A:Around} {E:Value→Shared→Prop} {s:Shared} {K:Frag}
def ledger (h:Heap) (L d:Addr):List (Addr × Obj):=(List.range h.objs.size).filterMap fun a=>if a=L∨a=d then none else (h.get? a).map fun o=>(a,o)
end
end Att
namespace L2
open PySem PySem.Spec PyProof.Rows
theorem dD:∀ {vs:List Value} {ns:List Int},IntsAre vs ns→y_ (ns.map V.int) vs
  | _,_,.nil=>.nil
  | _,_,.cons n t h=>.cons ⟨t,rfl⟩ (dD h)
def xb3 (H:Hp):Prop:=∀ b,H b=none∨∃ o xs,H b=some (.frz o (.lst xs))
theorem b_ {P:Program} {w:World} {K:PySem.W.Frag} {mg mb:Str→Option Value} {CX:CXT} {k:Nat} {fa a:Addr} {fd:FuncData} {x:Str} {sp:Sp} {s₁:Shared} {vs:List Value} {ns:List Int}
    (KX:K.In s₁.heap) (hns:s₁.heap.Ns mainGlobals mg) (hb:s₁.heap.Ns builtinsNs mb) (hbb:∀ x:Str,x ≠ "__name__" → mb x=bootBuiltins x) (hlim:s₁.heap.NoLimit) (hg:s₁.gens = #[])
    (ha:s₁.heap.get? a=some { cls:=.type "list", data:=.seq vs.toArray }) (hi:IntsAre vs ns) (hl:ns.length≤sizeLine) (hr:qI k callerA)
    (F:∀ base:Heap,K.In base→base.Ns mainGlobals mg→gI P w K mg base CX k fa fd [x] sp) (hbind:∀ (s:Shared) (u:Value),BindsTo s fd ⟨[u],[]⟩ [(x,u)])
    (hsp:∀ H:Hp,xb3 H→SqL K H a (ns.map V.int)→sp [.ref a] H (fun v _=>v=.bl true) fun _ _ _=>False)
    (hCX:∀ H e s',CX [] H s₁ (fun _ _ _=>False) e s'→False) :
    codeAny (model P w) callerA (.call (.ref fa) ⟨[.ref a],[]⟩) (fun r s'=>r=.ok (.ret (.bool true))∧OldK s₁.heap s'.heap∧s'.os=s₁.os∧AllBare s'.gens) s₁:=by
  have rv:=dD hi
  have lenV:=hi.length
  have core:∀ H:Hp,xb3 H→SqL K H a (ns.map V.int)→HOk P w H s₁.heap→(∀ b,H b≠none→b=a)→(H a≠none→K.lookup a=none) →
      codeAny (model P w) callerA (.call (.ref fa) ⟨[.ref a],[]⟩) (fun r s'=>r=.ok (.ret (.bool true))∧OldK s₁.heap s'.heap∧s'.os=s₁.os∧AllBare s'.gens) s₁:=by
    intro H hO hS hok hA hK
    have base_of:∀ {b:Addr} {o:Obj},s₁.heap.get? b=some o→H b=none→(bQ s₁.heap H).get? b=some o:=fun e n=>bP e n
    have noA:∀ {b:Addr} {o:Obj} {es:Array DictEntry} {ep:Nat},s₁.heap.get? b=some o→o.data=.dict es ep→H b=none:=fun {b o es ep} e d=>by
      cases q:H b with
      | none=>rfl
      | some u =>
        have e':b=a:=hA b (by rw [q]; simp)
        subst e'
        rw [ha] at e; cases e
        have d':Data.seq vs.toArray _=Data.dict es ep:=d
        cases d'
    have nsK:∀ {b:Addr} {m:Str→Option Value},s₁.heap.Ns b m→(bQ s₁.heap H).Ns b m:=fun {b m} ⟨o,es,ep,e,d,r⟩=>⟨o,es,ep,base_of e (noA e d),d,r⟩
    have hKb:K.In (bQ s₁.heap H):=fun b o e=>base_of (KX b o e) (by
      cases q:H b with
      | none=>rfl
      | some u =>
        have e':b=a:=hA b (by rw [q]; simp)
        subst e'
        rw [hK (by rw [q]; simp)] at e; cases e)
    have hM:Mod K mg (bQ s₁.heap H):=⟨hKb,nsK hns,⟨mb,nsK hb,hbb⟩,let ⟨mc,h1,h2⟩:=hlim; ⟨mc,nsK h1,h2⟩⟩
    have e0:xbG P w K mg (bQ s₁.heap H) callerA [] s₁ H:=⟨rfl,hM,fun b o e=>lP e,Nat.le_of_eq (nZ _ _),trivial,fun b hb=>absurd (show b∈([]:List Addr) from hb) (by simp),hok,.of_eq hg⟩
    refine codeAny_mono ((F _ hKb (nsK hns)).run callerA [] s₁ H ⟨[.ref a],[]⟩ [.ref a] [.ref a] _ _ hr e0 (hbind s₁ (.ref a)) (.cons rfl .nil) (hsp H hO hS)) fun r s' h=>?_
    cases r with
    | error e=>exact (hCX H e s' h).elim
    | ok fl =>
      cases fl with
      | next=>exact False.elim h
      | brk=>exact False.elim h
      | cont=>exact False.elim h
      | ret u =>
        obtain ⟨v,H',os,bare,un,hok',r',q⟩:=h
        have q':v=.bl true:=q
        subst q'
        obtain rfl:u=Value.bool true:=r'
        refine ⟨rfl,OldK.of_keep fun b o e=>?_,os,bare⟩
        cases q:H b with
        | none=>exact un.keep b o e q (by intro z; exact absurd (show b∈([]:List Addr) from z) (by simp)) (by simp)
        | some u =>
          rcases hO b with z | ⟨ob,xs,z⟩
          · rw [q] at z; cases z
          · have z2:=un.frzs b ob _ z
            obtain ⟨e1,_⟩:=hok b _ z
            obtain ⟨e2,_⟩:=hok' b _ z2
            rw [e] at e1; cases e1
            exact e2
  cases hk:K.lookup a with
  | some o =>
    have e:=KX a o hk
    rw [ha] at e
    cases e
    refine core (fun _=>none) (fun _=>.inl rfl) (.inr ⟨_,vs.toArray,_,hk,rfl,rfl,rfl,by rw [List.size_toArray,lenV]; exact hl,by simpa using rv⟩) (fun b u z=>by have z':(none:Option HO)=some u:=z; cases z') (fun b z=>absurd rfl z) fun z=>absurd rfl z
  | none =>
    refine core (fun b=>if b=a then some (.frz { cls:=.type "list", data:=.seq vs.toArray } (.lst (ns.map V.int))) else none) (fun b=>?_) (.inl (.inr ⟨{ cls:=.type "list", data:=.seq vs.toArray },if_pos rfl⟩)) (fun b u z=>?_) (fun b z=>?_) fun _=>hk
    · by_cases hb:b=a
      · exact .inr ⟨_,_,if_pos hb⟩
      · exact .inl (if_neg hb)
    · by_cases hb:b=a
      · have z':=(if_pos hb).symm.trans z
        cases z'
        subst hb
        exact ⟨ha,by rw [List.length_map]; exact hl,vs,_,rv,ha⟩
      · have z':=(if_neg hb).symm.trans z
        cases z'
    · by_cases hb:b=a
      · exact hb
      · exact absurd (if_neg hb) z
end L2
namespace L2
open PySem PySem.Spec PyProof.Rows
abbrev KOf {K:PySem.W.Frag} {h:Heap} (_:K.In h):PySem.W.Frag:=K
theorem l6 {l:PySem.W.OpenLaw} {n k:Nat} {q:Program} {loose:List Str} {XP:(Str→Option Value)→Heap→Prop} {YP:World→Heap→Prop} {d:DefRec} {K:Params→PySem.W.Frag} {CX:World→CXT} {sp:World→Sp} {x:Str}
    (hn:l.most=some n) (hn2:n≤sizeLine) (hdf:d.params.defaults=[]) (hr:qI k callerA)
    (hY:∀ (w:World) (h:Heap),YP w h→(K w.params).In h)
    (F:∀ (w:World) (mg:Str→Option Value) (fa:Addr) (h:Heap),(K w.params).In h→h.Ns mainGlobals mg→mg d.name=some (.ref fa) →
      ∃ fd:FuncData,(∀ (s:Shared) (u:Value),BindsTo s fd ⟨[u],[]⟩ [(x,u)]) ∧
        ∀ base:Heap,(K w.params).In base→base.Ns mainGlobals mg→gI l.prog w (K w.params) mg base (CX w) k fa fd [x] (sp w))
    (hsp:∀ (w:World) (H:Hp) (a:Addr) (ns:List Int),ns.length≤n→xb3 H→SqL (K w.params) H a (ns.map V.int)→sp w [.ref a] H (fun v _=>v=.bl true) fun _ _ _=>False)
    (hCX:∀ (w:World) (H:Hp) (s:Shared) (e:Value) (s':Shared),CX w [] H s (fun _ _ _=>False) e s'→False) :
    PySem.W.WalkO q loose XP YP l.row.toRowW d [] (fun f vs=>PySem.call f vs):=by
  refine Att.aa hn hdf fun w s₀ s₁ mg mb fa o pm cd doc a vs ns G Y ho hd hcd hmg hobj hints hlen hg=>?_
  have KX:=hY w _ Y
  obtain ⟨fd,hb,hF⟩:=F w mg fa _ KX G.T.g hmg
  exact b_ KX G.T.g G.T.b G.T.builtins G.T.nolimit hg hobj hints (Nat.le_trans hlen hn2) hr hF hb (fun H hO hS=>hsp w H a ns hlen hO hS) fun H e s'=>hCX w H s₁ e s'
end L2
namespace L2
open PySem PySem.Spec PyProof.Rows
def zM (s:Stmt):Arguments:=match s with
  | .FunctionDef _ a _ _ _ _ _ _ _ _=>a
  | _=>{ posonlyargs:=[],args:=[],vararg:=none,kwonlyargs:=[],kw_defaults:=[],kwarg:=none,defaults:=[] }
def yF (s:Stmt):List Stmt:=match s with
  | .FunctionDef _ _ b _ _ _ _ _ _ _=>b
  | _=>[]
def xk (s:Stmt):Scope:=match s with
  | .FunctionDef _ _ _ _ _ _ sc _ _ _=>sc
  | _=>{ kind:=.function,names:=[],isGenerator:=false,isCoroutine:=false }
abbrev CX0:CXT:=fun _ _ _ _ _ _=>False
abbrev E0:XK:=fun _ _ _=>False
theorem xbV {X:Cx}:h9 CX0 X E0:=fun _ _ _ _ _ _ _ h=>h.elim
structure Fun (K:PySem.W.Frag) (x qual:Str) (st:Stmt) (f:Addr) (fd:FuncData):Prop where
  ex:∃ (oc:Value) (od:Option Addr) (kV doc pm:Value) (an:Option Addr) (cdv ct:Value) (osl:Array (Option Value)),
    fd=PySem.W.fnOf x qual (zM st) (yF st) (xk st) .none kV doc pm an cdv ct∧K.lookup f=some ⟨oc,od,.func fd,osl⟩∧PySem.W.codeIn K cdv qual=true
  kp:PySem.W.keepIn K (.ref f)=true
section
variable {P:Program} {w:World} {K:PySem.W.Frag} {mg:Str→Option Value} {base:Heap}
theorem Fun.ok {x qual:Str} {st:Stmt} {f:Addr} {fd:FuncData} {N ps:List Str} {k:Nat} {sp:Sp} (F:Fun K x qual st f fd) (S:xI N ps (xk st)) (len:∀ vs H Q E,sp vs H Q E→vs.length=ps.length)
    (hbody:∀ (cdv:Value) (A:Around) (outer:List Env) (s:Shared) (H:Hp) (vs:List V) (Q:VK) (E:XK),qI k (A.deeper (envOfC qual (xk st) s.heap.objs.size f cdv))→sp vs H Q E →
      ∃ t,PSs (kK CX0 P w K mg base N qual (xk st) f cdv A outer s H E).nox (yF st) t∧t { nx:=fun _ H'=>Q .non H',rt:=Q } (start N vs) H):gI P w K mg base CX0 (k+1) f fd ps sp:=by
  obtain ⟨oc,od,kV,doc,pm,an,cdv,ct,osl,rfl,lk,hcd⟩:=F.ex
  refine xbc lk hcd S len fun A outer s H vs Q E hr hsp=>?_
  obtain ⟨t,h,q⟩:=hbody cdv A outer s H vs Q E hr hsp
  exact ⟨t,h.nox,q⟩
theorem Fun.binds {x qual:Str} {st:Stmt} {f:Addr} {fd:FuncData} {ps:List Str} (F:Fun K x qual st f fd)
    (h:∀ (kV doc pm:Value) (an:Option Addr) (cdv ct:Value) (us:List Value),us.length=ps.length→bindArgs (PySem.W.fnOf x qual (zM st) (yF st) (xk st) .none kV doc pm an cdv ct) ⟨us,[]⟩=pure (ps.zip us)):Binds K fd ps []:=by
  obtain ⟨oc,od,kV,doc,pm,an,cdv,ct,osl,rfl,lk,hcd⟩:=F.ex
  exact .all (h kV doc pm an cdv ct)
theorem oG {x qual:Str} {st:Stmt} {f:Addr} {oc:Value} {od an:Option Addr} {osl:Array (Option Value)} {kV doc pm cdv ct:Value} (l:K.lookup f=some ⟨oc,od,.func (PySem.W.fnOf x qual (zM st) (yF st) (xk st) .none kV doc pm an cdv ct),osl⟩)
    (c:PySem.W.codeIn K cdv qual=true) (k:PySem.W.keepIn K (.ref f)=true):Fun K x qual st f (PySem.W.fnOf x qual (zM st) (yF st) (xk st) .none kV doc pm an cdv ct):=⟨⟨oc,od,kV,doc,pm,an,cdv,ct,osl,rfl,l,c⟩,k⟩
end
theorem nI {n:Nat} (h:n≤1000):n < sizeLine:=Nat.lt_of_le_of_lt h (by decide)
section
variable {X:Cx}
theorem pv (i:Nat) {x:Str} {pos:Pos} (hN:X.N[i]? = some x:=by rfl) (hv:Vis X.env.scope x:=by first | exact Or.inl rfl | exact Or.inr (Or.inl rfl) | exact Or.inr (Or.inr rfl)) (hd:(x == ("__debug__" : Str))=false:=by decide)
    (hcd:(x == ("__classdict__" : Str))=false:=by decide):PE X (.Name x pos) (sM i):=xbf hN hv hd hcd
end
theorem aC {A B:Prop} (h:B):if false=true then A else B:=by
  rw [if_neg Bool.false_ne_true]
  exact h
theorem tW {A B:Prop} (h:A):if true=true then A else B:=by
  rw [if_pos rfl]
  exact h
theorem xcP {c A B:Prop} [Decidable c] (h1:c→A) (h2:¬ c→B):if c then A else B:=by
  by_cases h:c
  · rw [if_pos h]
    exact h1 h
  · rw [if_neg h]
    exact h2 h
end L2
namespace L2
open PySem PySem.Spec PyProof.Rows
def j1 (env:Env):List (Str × NameKind)→List (Str × Addr)→List (Str × Addr)
  | [],cs=>cs
  | (n,k)::r,cs=>if k == NameKind.free then (match env.cells.lookup n with | some a=>j1 env r ((n,a)::cs) | none=>j1 env r cs) else j1 env r cs
theorem aq {env:Env}:∀ (l:List (Str × NameKind)) (cs:List (Str × Addr)),(∀ y∈l,y.2=NameKind.free→∃ c,env.cells.lookup y.1=some c) →
    (forIn l cs (fun (x:Str × NameKind) (r:List (Str × Addr))=>(if (x.2 == NameKind.free)=true then (do let a ← cellOf env x.1; pure (ForInStep.yield ((x.1,a)::r))) else pure (ForInStep.yield r):Sem (ForInStep (List (Str × Addr))))))=pure (j1 env l cs)
  | [],cs,_=>rfl
  | (n,k)::r,cs,h=>by
    rw [List.forIn_cons]
    have hr:∀ y∈r,y.2=NameKind.free→∃ c,env.cells.lookup y.1=some c:=fun y hy=>h y (List.mem_cons_of_mem _ hy)
    by_cases hk:k=NameKind.free
    · subst hk
      obtain ⟨c,hc⟩:=h (n,.free) List.mem_cons_self rfl
      have hc':env.cells.lookup n=some c:=hc
      have e1:cellOf env n=pure c:=by unfold cellOf; rw [hc']
      have e2:j1 env ((n,.free)::r) cs=j1 env r ((n,c)::cs):=by
        show (if (NameKind.free == NameKind.free)=true then _ else _)=_
        rw [if_pos (show (NameKind.free == NameKind.free)=true from rfl),hc']
      rw [e2,if_pos (show ((NameKind.free == NameKind.free)=true) from rfl),e1,pure_bind,pure_bind]
      exact aq r _ hr
    · have hb:(k == NameKind.free)=false:=by simpa using hk
      have e2:j1 env ((n,k)::r) cs=j1 env r cs:=by
        show (if (k == NameKind.free)=true then _ else _)=_
        rw [hb]; rfl
      rw [e2,if_neg (by rw [hb]; exact Bool.false_ne_true),pure_bind]
      exact aq r _ hr
theorem nK {sc:Scope} {env:Env} (h:∀ y∈sc.names,y.2=NameKind.free→∃ c,env.cells.lookup y.1=some c):closureFor sc env=pure (j1 env sc.names []):=by
  have q:=aq (env:=env) sc.names [] h
  unfold closureFor
  show (do let r ← forIn sc.names [] (fun (x:Str × NameKind) (r:List (Str × Addr))=>_); pure r)=_
  rw [show (forIn sc.names ([]:List (Str × Addr)) (fun (x:Str × NameKind) (r:List (Str × Addr))=>match x with
      | (name,kind)=>if (kind == NameKind.free)=true then (do let a ← cellOf env name; pure (ForInStep.yield ((name,a)::r))) else pure (ForInStep.yield r)):Sem (List (Str × Addr)))=pure (j1 env sc.names []) from q]
  rfl
theorem wF {env:Env} {x:Str} {c:Addr}:∀ (l:List (Str × NameKind)) (cs:List (Str × Addr)),(j1 env l cs).lookup x=some c→(∀ c,cs.lookup x=some c→env.cells.lookup x=some c)→env.cells.lookup x=some c
  | [],cs,h,hc=>hc c h
  | (n,k)::r,cs,h,hc=>by
    unfold j1 at h
    split at h
    · split at h
      · rename_i a ha
        refine wF r _ h fun c' h'=>?_
        rw [List.lookup_cons] at h'
        by_cases e:x == n
        · rw [e] at h'
          have:x=n:=by simpa using e
          rw [this,ha]; exact h'
        · have e':(x == n)=false:=by simpa using e
          rw [e'] at h'
          exact hc c' h'
      · exact wF r _ h hc
    · exact wF r _ h hc
theorem qA {env:Env} {x:Str} {c:Addr} (he:env.cells.lookup x=some c):∀ (l:List (Str × NameKind)) (cs:List (Str × Addr)),cs.lookup x=some c→(j1 env l cs).lookup x=some c
  | [],cs,h=>h
  | (n,k)::r,cs,h=>by
    unfold j1
    split
    · split
      · rename_i a ha
        refine qA he r _ ?_
        rw [List.lookup_cons]
        by_cases e:x == n
        · rw [e]
          have e':x=n:=by simpa using e
          rw [e',ha] at he
          exact he
        · have e':(x == n)=false:=by simpa using e
          rw [e']
          exact h
      · exact qA he r _ h
    · exact qA he r _ h
theorem qy {env:Env} {x:Str} {c:Addr} (he:env.cells.lookup x=some c):∀ (l:List (Str × NameKind)) (cs:List (Str × Addr)),(x,NameKind.free)∈l→(j1 env l cs).lookup x=some c
  | (n,k)::r,cs,h=>by
    rcases List.mem_cons.mp h with e | e
    · have e1:n=x:=congrArg (·.1) e.symm
      have e2:k=.free:=congrArg (·.2) e.symm
      subst e1 e2
      unfold j1
      rw [if_pos (show (NameKind.free == NameKind.free)=true from rfl),he]
      exact qA he r _ (by rw [List.lookup_cons]; simp)
    · unfold j1
      split
      · split
        · exact qy he r _ e
        · exact qy he r _ e
      · exact qy he r _ e
def yH (X:Cx) (sc:Scope) (N:List Str) (C:Addr) (s:Shared) (H:Hp) (ex:List Addr):Cx :=
  { X with N:=N,s₀:=s,H₀:=H,env:=compEnvC sc (j1 X.env sc.names []) C X.env,outer:=X.stack,stack:=X.stack,ex:=ex,fn:=fun _=>false,pn:=[],xe:=fun _ _=>False }
def nH (XN:List Str) (xs sc:Scope) (N:List Str) (tau:List (Option Nat)):Bool :=
  decide (sc.kind=.function) && sc.names.all (fun y=>decide (y.2≠.cell)) && sc.names.all (fun y=>decide (y.2≠.local) || decide (sc.names.lookup y.1=some .local)) && decide N.Nodup && decide (tau.length=N.length) &&
  (tau.zip N).all (fun p=>match p.1 with | none=>true | some j=>decide (XN[j]? = some p.2) && decide (sc.names.lookup p.2=some .free)) &&
  sc.names.all (fun y=>decide (y.2≠.free) || decide (xs.names.lookup y.1=some .cell) || decide (xs.names.lookup y.1=some .free)) && decide (xs.kind=.function)
structure uT (X:Cx) (sc:Scope) (N:List Str) (tau:List (Option Nat)):Prop where
  kind:sc.kind=.function
  nocell:∀ y∈sc.names,y.2≠.cell
  loc:∀ y∈sc.names,y.2=.local→sc.names.lookup y.1=some .local
  nd:N.Nodup
  len:tau.length=N.length
  out:∀ (i j:Nat) (x:Str),tau[i]? = some (some j)→N[i]? = some x→X.N[j]? = some x∧sc.names.lookup x=some .free
  fr:∀ y∈sc.names,y.2=.free→X.env.scope.names.lookup y.1=some .cell∨X.env.scope.names.lookup y.1=some .free
  okind:X.env.scope.kind=.function
theorem zip_get {α β:Type}:∀ {l:List α} {k:List β} {i:Nat} {a:α} {b:β},l[i]? = some a→k[i]? = some b→(a,b)∈l.zip k
  | [],_,_,_,_,h,_=>by simp at h
  | _::_,[],_,_,_,_,h=>by simp at h
  | x::l,y::k,0,a,b,h1,h2=>by simp at h1 h2; subst h1; subst h2; simp
  | x::l,y::k,i+1,a,b,h1,h2=>by
    have:=zip_get (l:=l) (k:=k) (i:=i) (by simpa using h1) (by simpa using h2)
    rw [List.zip_cons_cons]
    exact List.mem_cons_of_mem _ this
theorem yy {X:Cx} {sc:Scope} {N XN:List Str} {xs:Scope} {tau:List (Option Nat)} (h:nH XN xs sc N tau=true) (h1:X.N=XN) (h2:X.env.scope=xs):uT X sc N tau:=by
  subst h1 h2
  unfold nH at h
  simp only [Bool.and_eq_true,List.all_eq_true,decide_eq_true_eq,Bool.or_eq_true] at h
  obtain ⟨⟨⟨⟨⟨⟨⟨k,c⟩,l⟩,nd⟩,len⟩,out⟩,fr⟩,ok⟩:=h
  refine ⟨k,c,fun y hy e=>(l y hy).resolve_left (fun z=>z e),nd,len,fun i j x e1 e2=>?_,fun y hy e=>?_,ok⟩
  · have:=out _ (zip_get e1 e2)
    simpa using this
  · rcases fr y hy with (z | z) | z
    · exact absurd e z
    · exact .inl z
    · exact .inr z
def dY (tau:List (Option Nat)) (σ:St):St:=tau.map fun o=>match o with | some j=>(σ[j]?).getD none | none=>none
theorem uU {sc:Scope} {env:Env}:∀ {l:List (Str × NameKind)} {x:Str} {k:NameKind},
    (l.map fun (n,k)=>if (k == NameKind.free && env.scope.kind == .function && env.kindOf n == some .cell) then (n,NameKind.cell) else (n,k)).lookup x=some k→((∀ y∈l,y.2≠NameKind.cell)→k≠.local→(x,NameKind.free)∈l∨l.lookup x=some k∧k≠.cell)
  | [],x,k,h=>by simp at h
  | (n,k')::r,x,k,h=>by
    intro nc nl
    have ih:=@uU sc env r x k
    have h:List.lookup x ((if (k' == NameKind.free && env.scope.kind == .function && env.kindOf n == some .cell)=true then (n,NameKind.cell) else (n,k'))::(r.map _))=some k:=h
    by_cases hx:x=n
    · subst hx
      by_cases hc:(k' == NameKind.free && env.scope.kind == .function && env.kindOf x == some .cell)=true
      · left
        have:k'=.free:=by
          simp only [Bool.and_eq_true] at hc
          simpa using hc.1.1
        subst this
        exact List.mem_cons_self
      · rw [if_neg hc,List.lookup_cons] at h
        simp at h
        subst h
        right
        exact ⟨by rw [List.lookup_cons]; simp,nc (x,k') List.mem_cons_self⟩
    · have e:(x == n)=false:=by simpa using hx
      have h':List.lookup x (r.map fun (n,k)=>if (k == NameKind.free && env.scope.kind == .function && env.kindOf n == some .cell) then (n,NameKind.cell) else (n,k))=some k:=by
        split at h
        · rw [List.lookup_cons,e] at h; exact h
        · rw [List.lookup_cons,e] at h; exact h
      rcases ih h' (fun y hy=>nc y (List.mem_cons_of_mem _ hy)) nl with z | ⟨z,w⟩
      · exact .inl (List.mem_cons_of_mem _ z)
      · exact .inr ⟨by rw [List.lookup_cons,e]; exact z,w⟩
section
variable {X:Cx} {sc:Scope} {N:List Str} {tau:List (Option Nat)} {pins:List (Addr × Obj)} {σ:St} {H:Hp} {s:Shared}
theorem uT.cells (k:uT X sc N tau) (ok:X.Ok):∀ y∈sc.names,y.2=NameKind.free→∃ c,X.env.cells.lookup y.1=some c:=fun y hy e=>ok.has y.1 (k.fr y hy e)
theorem uT.vis (k:uT X sc N tau) {x:Str} (h:(relabel sc X.env).names.lookup x=some .cell∨(relabel sc X.env).names.lookup x=some .free):(x,NameKind.free)∈sc.names:=by
  rcases h with h | h
  · rcases uU (sc:=sc) (env:=X.env) (l:=sc.names) h k.nocell (by decide) with z | ⟨_,z⟩
    · exact z
    · exact absurd rfl z
  · rcases uU (sc:=sc) (env:=X.env) (l:=sc.names) h k.nocell (by decide) with z | ⟨z,_⟩
    · exact z
    · exact PySem.mem_of_lookup z
theorem nR (k:uT X sc N tau) (I:Inv X pins σ H s) {fp:List Addr} (hf:∀ b∈fp,tS X pins H b) (hob:∀ b∈fp,∃ o,s.heap.get? b=some o) :
    (yH X sc N (s.heap.objs.size+1) s H fp).Ok where
  mod:=I.ok.mod
  kind:=k.kind
  glob:=I.ok.glob
  blt:=I.ok.blt
  above:=Nat.le_succ _
  inj:=fun x y c h1 h2=>I.ok.inj x y c (wF _ _ h1 fun _ z=>by simp at z) (wF _ _ h2 fun _ z=>by simp at z)
  has:=fun x h=>by
    have m:=k.vis h
    obtain ⟨c,e⟩:=k.cells I.ok _ m rfl
    exact ⟨c,qy e _ _ m⟩
  cab:=fun x c h=>by cases h
  hd:=I.ok.hd
  frames:=I.ok.frames
  stk:=.inl rfl
  exf:=fun b hb=>⟨fun z=>by
    obtain ⟨o,e⟩:=hob b hb
    have l:=Heap.lt_size e
    have z':b=s.heap.objs.size+1:=z
    rw [z'] at l
    exact Nat.lt_irrefl _ (Nat.lt_of_succ_lt l),fun x c h=>(hf b hb).2.2.2.2.1 x c (wF _ _ h fun _ z=>by simp at z)⟩
  bs:=I.bs
  bsz:=Nat.le_trans I.ok.bsz I.sz
  noex:=fun b o e hb=>by
    rcases (hf b hb).2.2.2.1 with z | z
    · exact I.ok.noex b o e z
    · exact absurd (Nat.lt_of_lt_of_le (Heap.lt_size (I.ok.bs b o e).1) z) (Nat.lt_irrefl _)
  exfs:=fun b hb z=>by
    rcases List.mem_cons.mp (I.stkSub b z) with e | e
    · exact (hf b hb).2.1 e
    · exact (hf b hb).2.2.1 e
  funs:=I.stack
  frf:=I.stkFree
theorem rB {i:Nat} {v:V} (h:(dY tau σ)[i]? = some (some v)):∃ j,tau[i]? = some (some j)∧σ[j]? = some (some v):=by
  unfold dY at h
  rw [List.getElem?_map] at h
  cases e:tau[i]? with
  | none=>rw [e] at h; cases h
  | some o =>
    rw [e] at h
    cases o with
    | none=>cases h
    | some j =>
      have h':(σ[j]?).getD none=some v:=by simpa using h
      refine ⟨j,rfl,?_⟩
      cases q:σ[j]? with
      | none=>rw [q] at h'; cases h'
      | some o'=>rw [q] at h'; exact congrArg some h'
theorem cR (k:uT X sc N tau) (I:Inv X pins σ H s) {fp:List Addr} (hf:∀ b∈fp,tS X pins H b) (hob:∀ b∈fp,∃ o,s.heap.get? b=some o) {h1:Heap} {t':Nat}
    (kp:∀ b o,s.heap.get? b=some o→h1.get? b=some o) (hn:h1.Ns (s.heap.objs.size+1) (fun _=>none)) (hD:h1.get? s.heap.objs.size=some { cls:=.type "list", data:=.seq #[] 0 }) :
    Inv (yH X sc N (s.heap.objs.size+1) s H fp) [(s.heap.objs.size,{ cls:=.type "list", data:=.seq #[] 0 })] (dY tau σ) H { s with heap:=h1,toks:=t' } where
  ok:=nR k I hf hob
  os:=rfl
  bare:=I.bare
  base:=Un.kept kp
  loc:=⟨_,hn,fun i x v e1 e2 e3=>by
    obtain ⟨j,t1,t2⟩:=rB e2
    obtain ⟨o1,o2⟩:=k.out i j x t1 e1
    have m:(x,NameKind.free)∈sc.names:=PySem.mem_of_lookup o2
    have hk:=k.fr _ m rfl
    obtain ⟨mm,hn',hl⟩:=I.loc
    obtain ⟨u,r,l⟩:=hl j x v o1 t2 (hk.elim (fun z=>.inr (.inl z)) fun z=>.inr (.inr z))
    refine ⟨u,r,.inr ⟨?_,?_⟩⟩
    · rcases e3 with z | z | z
      · exfalso
        have:∀ {l:List (Str × NameKind)},l.lookup x=some .free→(l.map fun (n,k)=>if (k == NameKind.free && X.env.scope.kind == .function && X.env.kindOf n == some .cell) then (n,NameKind.cell) else (n,k)).lookup x≠some .local:=by
          intro l
          induction l with
          | nil=>intro h; simp at h
          | cons y r ih =>
            obtain ⟨n,k'⟩:=y
            intro h q
            have q:List.lookup x ((if (k' == NameKind.free && X.env.scope.kind == .function && X.env.kindOf n == some .cell)=true then (n,NameKind.cell) else (n,k'))::(r.map _))=some .local:=q
            by_cases hx:x=n
            · subst hx
              rw [List.lookup_cons] at h
              simp at h
              subst h
              split at q
              · rw [List.lookup_cons] at q; simp at q
              · rw [List.lookup_cons] at q; simp at q
            · have e:(x == n)=false:=by simpa using hx
              rw [List.lookup_cons,e] at h
              refine ih h ?_
              split at q
              · rw [List.lookup_cons,e] at q; exact q
              · rw [List.lookup_cons,e] at q; exact q
        exact this o2 z
      · exact .inl z
      · exact .inr z
    · rcases l with ⟨z,_⟩ | ⟨_,c,ec,hc⟩
      · exfalso
        have z:X.env.scope.names.lookup x=some .local:=z
        rcases hk with q | q <;> rw [z] at q <;> cases q
      · obtain ⟨o,ho,hd⟩:=hc
        exact ⟨c,qy ec _ _ m,o,kp c o ho,hd⟩⟩
  cell:=fun x c h=>by
    obtain ⟨v,o,ho,hd⟩:=I.cell x c (wF _ _ h fun _ z=>by simp at z)
    exact ⟨v,o,kp c o ho,hd⟩
  free:=I.hok.fresh (Nat.le_succ _)
  freeC:=fun x c h=>I.freeC x c (wF _ _ h fun _ z=>by simp at z)
  pin:=fun p hp=>by
    have e:p=(s.heap.objs.size,{ cls:=.type "list", data:=.seq #[] 0 }):=by simpa [yH] using hp
    subst e
    refine ⟨hD,I.hok.fresh (Nat.le_refl _),Nat.ne_of_lt (Nat.lt_succ_self _),fun z=>?_,fun v=>by simp⟩
    rcases List.mem_cons.mp (I.stkSub _ z) with e | e
    · exact absurd (e ▸ I.lt) (Nat.lt_irrefl _)
    · exact I.nofs (Nat.le_refl _) e
  hok:=I.hok.kept kp
  len:=by
    show (dY tau σ).length=N.length
    unfold dY
    rw [List.length_map]
    exact k.len
end
end L2
namespace L2
open PySem PySem.Spec PyProof.Rows
theorem fx {prog:Program} {w:World} {A:Around} {R:Result→Shared→Prop} {s:Shared} {elt target iter:Expr} {ifs:List Expr} {scope:Scope} {pos:Pos} {it acc:Value} {env:Env} (I:Nat→Shared→Prop)
    (turn:∀ n s,I n s→wpAny (model prog w) A (pyNext it) (fun r s₁=>match r with
      | none=>R (.ok .next) s₁
      | some v=>wpAny (model prog w) A (letOwnedTupleGo target it v) (fun _ s₀=>wpAny (model prog w) A (assign target env v) (fun _ s₂ =>
          wpAny (model prog w) A (forIn ifs true fun c r=>if r=true then do let ok ← isTrue c env (eval c env); pure (ForInStep.yield ok) else pure (ForInStep.yield r)) (fun ok s₃ =>
            if ok=true then wpAny (model prog w) A (eval elt env) (fun x s₄ =>
              wpAny (model prog w) A (call (.builtin "list.append") [acc,x]) (fun _ s₅=>∃ m,m < n∧I m s₅) (notedBy (model prog w) A env fun e s'=>R (.error e) s') s₄) (notedBy (model prog w) A env fun e s'=>R (.error e) s') s₃
            else ∃ m,m < n∧I m s₃) (notedBy (model prog w) A env fun e s'=>R (.error e) s') s₂) (notedBy (model prog w) A env fun e s'=>R (.error e) s') s₀) (notedBy (model prog w) A env fun e s'=>R (.error e) s') s₁) (notedBy (model prog w) A env fun e s'=>R (.error e) s') s)
    (n:Nat) (h:I n s) :
    codeAny (model prog w) A (.compLoop (.ListComp elt [⟨target,iter,ifs,0⟩] scope pos) 0 it acc env) R s:=by
  refine codeAny_loop rfl I (fun n s hI=>?_) n h
  show wpAny _ A ((compTurn (.ListComp elt [⟨target,iter,ifs,0⟩] scope pos) 0 it acc env).onRaise (fun x=>do noteFrame x env; theTreesLotGoes x)) _ _ s
  refine wpAny_noted ?_
  rw [compTurn_list]
  refine wpAny_bind (wpAny_standAt (wpAny_bind (wpAny_mono (turn n s hI) (fun r s₁ h₁=>?_) fun _ _ h'=>h')))
  cases r with
  | none=>exact wpAny_pure h₁
  | some v =>
    refine wpAny_bind (wpAny_mono h₁ (fun _ s₀ h₀=>?_) fun _ _ h'=>h')
    refine wpAny_bind (wpAny_mono h₀ (fun _ s₂ h₂=>wpAny_bind (wpAny_mono h₂ (fun ok s₃ h₃=>?_) fun _ _ h'=>h')) fun _ _ h'=>h')
    cases ok with
    | false=>exact wpAny_pure ⟨rfl,h₃⟩
    | true =>
      exact wpAny_bind (wpAny_bind (wpAny_mono h₃ (fun x s₄ h₄=>wpAny_bind (wpAny_mono h₄ (fun _ s₅ h₅=>wpAny_pure (wpAny_pure ⟨rfl,h₅⟩)) fun _ _ h'=>h')) fun _ _ h'=>h'))
def PIf (Y:Cx) (ifs:List Expr) (t:TT):Prop :=
  ∀ (pins:List (Addr × Obj)) (s:Shared) (σ:St) (H:Hp) (Q:Bool→Hp→Prop),Inv Y pins σ H s→t σ H Q →
    wpAny (model Y.prog Y.w) Y.A (forIn ifs true fun c r=>if r=true then do let ok ← isTrue c Y.env (eval c Y.env); pure (ForInStep.yield ok) else pure (ForInStep.yield r)) (TP Y pins σ Q) Y.xe s
def xaS:TT:=fun _ H Q=>Q true H
theorem zX {Y:Cx}:PIf Y [] xaS:=fun pins s σ H Q I h=>wpAny_tests_nil ⟨H,I,h⟩
theorem ah {Y:Cx} {c:Expr} {t:TT} (h:PT Y c t):PIf Y [c] t:=fun pins s σ H Q I q=>wpAny_tests_one (@h pins s σ H Q I q)
def Agree (tau:List (Option Nat)) (σ σ2:St):Prop:=∀ i j:Nat,tau[i]? = some (some j)→σ2[i]? = σ[i]?
def GA (tau:List (Option Nat)) (g:TG):Prop:=∀ x σ H Q,g x σ H Q→g x σ H (fun σ2 H2=>Q σ2 H2∧Agree tau σ σ2)
def GAs (tau:List (Option Nat)) (t:TGs):Prop:=∀ xs σ H Q,t xs σ H Q→t xs σ H (fun σ2 H2=>Q σ2 H2∧Agree tau σ σ2)
theorem vj {tau:List (Option Nat)} {i:Nat} (h:tau[i]? = some none):GA tau (gT i):=fun x σ H Q q=>⟨q,fun k j e=>by
  rw [List.getElem?_set_ne]
  rintro rfl
  rw [h] at e; cases e⟩
theorem qg {tau:List (Option Nat)}:GAs tau xbX:=fun xs σ H Q q=>⟨q.1,q.2,fun _ _ _=>rfl⟩
theorem wg {K:PySem.W.Frag} {n:Nat} {t:TGs} {tau:List (Option Nat)} (h:GAs tau t):GA tau (xbI K n t):=fun x σ H Q q=>by
  obtain ⟨a,xs,e,sq,l,r⟩:=q
  exact ⟨a,xs,e,sq,l,h _ _ _ _ r⟩
theorem yG {tau:List (Option Nat)} {i:Nat} {u:TGs} (h:tau[i]? = some none) (hu:GAs tau u):GAs tau (oQ (gT i) u):=fun xs σ H Q q=>by
  obtain ⟨v,r,e,q⟩:=q
  refine ⟨v,r,e,?_⟩
  have q':u r (σ.set i (some v)) H Q:=q
  show u r (σ.set i (some v)) H _
  have:=hu _ _ _ _ q'
  have e2:(fun σ2 H2=>Q σ2 H2∧Agree tau (σ.set i (some v)) σ2)=(fun σ2 H2=>Q σ2 H2∧Agree tau σ σ2):=by
    funext σ2 H2
    have:Agree tau (σ.set i (some v)) σ2↔Agree tau σ σ2:=by
      have key:∀ (k j:Nat),tau[k]? = some (some j)→(σ.set i (some v))[k]? = σ[k]?:=fun k j e=>by
        rw [List.getElem?_set_ne]
        rintro rfl
        rw [h] at e; cases e
      constructor
      · intro z k j e; rw [z k j e,key k j e]
      · intro z k j e; rw [z k j e,key k j e]
    exact propext (and_congr_right fun _=>this)
  rw [← e2]
  exact this
def lO (wi:TI) (tau:List (Option Nat)) (g:TG) (tc:TT) (te:TE):TE:=fun σ H Q=>wi σ H fun J H1 =>
  ∃ W:Nat→Nat→List V→Hp→Prop,(∃ m,W 0 m [] H1)∧∀ i m ys H,W i m ys H →
    (J.stop i H∧∀ p,H p=none→Q (.ref p) (upd H p (.lst ys))) ∨
    (J.go i H∧ys.length < sizeLine∧∀ x H',J.yld i H x H'→g x (dY tau σ) H' fun σ2 H2=>tc σ2 H2 fun b H3=>if b=true then te σ2 H3 fun y H4=>∃ m',m' < m∧W (i+1) m' (ys++[y]) H4 else ∃ m',m' < m∧W (i+1) m' ys H3)
section
variable {X:Cx} {sc:Scope} {N:List Str} {tau:List (Option Nat)} {pins:List (Addr × Obj)} {σ:St} {H:Hp} {s:Shared}
theorem aH (k:uT X sc N tau) (I:Inv X pins σ H s) {fp:List Addr} (hf:∀ b∈fp,tS X pins H b) {σ':St} {H':Hp} {s':Shared} {its:List Value} {n:Nat} {ys:List V}
    (J:Inv (yH X sc N (s.heap.objs.size+1) s H fp) [(s.heap.objs.size,{ cls:=.type "list", data:=.seq its.toArray n })] σ' H' s') (rv:y_ ys its) (hz:ys.length≤sizeLine) :
    Inv X pins σ (upd H' s.heap.objs.size (.lst ys)) s'∧H' s.heap.objs.size=none∧(upd H' s.heap.objs.size (.lst ys)) (s.heap.objs.size+1)=none:=by
  obtain ⟨pD,nD,_,_,_⟩:=J.pin (s.heap.objs.size,{ cls:=.type "list", data:=.seq its.toArray n }) (by simp [yH])
  have nC:H' (s.heap.objs.size+1)=none:=J.free
  have B:Un (frs X.stack) fp H H' s.heap s'.heap:=J.base
  have ltD:∀ b o,s.heap.get? b=some o→b≠s.heap.objs.size:=fun b o e=>Nat.ne_of_lt (Heap.lt_size e)
  refine ⟨I.call' (ch:=fp) J.os ⟨B.keep,B.slot,fun b o e n hx=>?_,B.there,fun b xs e=>?_,fun b o u e=>?_,fun b ps e=>?_⟩ (fun b u e=>?_) J.bare (fun b hb=>?_),nD,?_⟩
  · rw [xY (ltD b o e)]; exact B.free b o e n hx
  · have q:=B.tups b xs e
    rw [xY (xH q nD)]; exact q
  · have q:=B.frzs b o u e
    rw [xY (xH q nD)]; exact q
  · obtain ⟨more,q⟩:=B.tbls b ps e
    exact ⟨more,by rw [xY (xH q nD)]; exact q⟩
  · by_cases hb:b=s.heap.objs.size
    · subst hb
      rw [x_] at e
      cases e
      exact ⟨hz,its,n,rv,pD⟩
    · rw [xY hb] at e
      exact (J.hok b u e).stay (fun c v _ q=>q) (fun c q=>by rw [xY (xH q nD)]; exact q) (fun c xs q=>by rw [xY (xH q nD)]; exact q) fun c o u q=>by rw [xY (xH q nD)]; exact q
  · obtain ⟨_,f1,_,f3,f4,f5⟩:=hf b hb
    exact ⟨f3,f1,f4,f5⟩
  · rw [xY (Nat.ne_of_gt (Nat.lt_succ_self _))]; exact nC
theorem dn (I0:Inv X pins σ H s) {σ':St} {H':Hp} {s':Shared} {h':Heap} (I:Inv X pins σ' H' s') (hC:H' (s.heap.objs.size+1)=none) (hs:Heap.SameBut (s.heap.objs.size+1) s'.heap h') :
    Inv X pins σ' H' { s' with heap:=h' }:=by
  have lt:∀ b o,s.heap.get? b=some o→b≠s.heap.objs.size+1:=fun b o e=>Nat.ne_of_lt (Nat.lt_succ_of_lt (Heap.lt_size e))
  refine I.turned (t':=s'.toks) (it:=s.heap.objs.size+1) (fun b o hb e=>(hs.2 b hb).trans e) hC ?_ (.inr (Nat.le_trans I0.sz (Nat.le_succ _))) (fun x c e=>?_) (fun p hp=>?_)
  · exact Nat.ne_of_gt (Nat.lt_succ_of_lt I0.lt)
  · obtain ⟨v,o,ho,_⟩:=I0.cell x c e
    exact lt c o ho
  · exact lt _ _ (I0.pin p hp).1
theorem hV {elt tg iter:Expr} {ifs:List Expr} {g:TG} {tc:TT} {te:TE} {pos:Pos} (k:uT X sc N tau) (hc:X.calm=true) (I:Inv X pins σ H s) {it:Addr} {fp:List Addr} {tn:Nat→Heap→Prop} {J:It}
    (T:Turn X.prog X.w X.K tg J fp it tn) (st0:tn 0 s.heap) (hf:∀ b∈fp,tS X pins H b) (hga:GA tau g)
    (hg:∀ C s H ex,PG (yH X sc N C s H ex) tg g) (ht:∀ C s H ex,PIf (yH X sc N C s H ex) ifs tc) (he:∀ C s H ex,PE (yH X sc N C s H ex) elt te)
    {W:Nat→Nat→List V→Hp→Prop} {Z:List V→Hp→Prop} (w0:∃ m,W 0 m [] H) (turn:∀ i m ys H,W i m ys H →
      (J.stop i H∧Z ys H) ∨
      (J.go i H∧ys.length < sizeLine∧∀ x H',J.yld i H x H'→g x (dY tau σ) H' fun σ2 H2=>tc σ2 H2 fun b H3=>if b=true then te σ2 H3 fun y H4=>∃ m',m' < m∧W (i+1) m' (ys++[y]) H4 else ∃ m',m' < m∧W (i+1) m' ys H3))
    {E:Value→Shared→Prop} {RR:Value→Addr→Result→Shared→Prop}
    (fin:∀ σ' H' s' ys its n,Inv (yH X sc N (s.heap.objs.size+1) s H fp) [(s.heap.objs.size,{ cls:=.type "list", data:=.seq its.toArray n })] σ' H' s'→y_ ys its→ys.length≤sizeLine→Z ys H'→RR (.ref s.heap.objs.size) (s.heap.objs.size+1) (.ok .next) s') :
    wpAny (model X.prog X.w) X.A (newList []) (fun acc s₃=>wpAny (model X.prog X.w) X.A (newFunctionEnv sc X.env.globals (j1 X.env sc.names []) [] X.env.qual none .none (some X.env)) (fun cenv s₄ =>
      codeAny (model X.prog X.w) X.A (.compStart (.ListComp elt [⟨tg,iter,ifs,0⟩] sc pos) 0 (.ref it) acc { cenv with scope:=relabel sc X.env }) (RR acc cenv.locals) s₄) E s₃) E s:=by
  have hob:∀ b∈fp,∃ o,s.heap.get? b=some o:=fun b hb=>let ⟨o,e,_⟩:=T.obj _ _ st0 b hb; ⟨o,e⟩
  refine wpAny_newObj_type (wpAny_newFunctionEnv k.nocell (by intro y hy; simp at hy) (fun h₁ hns₁ hsb₁=>?_) k.kind)
  dsimp only at hns₁ hsb₁ ⊢
  generalize hH2:s.heap.push { cls:=.type "list", dict:=none,data:=.seq ([]:List Value).toArray }=H2 at hns₁ hsb₁ ⊢
  have hC:H2.objs.size=s.heap.objs.size+1:=by rw [← hH2,Heap.size_push]
  have old:∀ b o,s.heap.get? b=some o→h₁.get? b=some o:=fun b o e=>hsb₁.extBut b o (by rw [hC]; exact Nat.ne_of_lt (Nat.lt_succ_of_lt (Heap.lt_size e))) (Heap.get?_push_of_some _ (hH2 ▸ Heap.get?_push_of_some _ e))
  have hacc:h₁.get? s.heap.objs.size=some { cls:=.type "list", data:=.seq #[] 0 }:=hsb₁.extBut _ _ (by rw [hC]; exact Nat.ne_of_lt (Nat.lt_succ_self _)) (Heap.get?_push_of_some _ (hH2 ▸ Heap.get?_push_size _ rfl))
  rw [hC] at hns₁ ⊢
  have I1:Inv (yH X sc N (s.heap.objs.size+1) s H fp) [(s.heap.objs.size,{ cls:=.type "list", data:=.seq #[] 0 })] (dY tau σ) H { s with heap:=h₁,toks:=s.toks+([]:List (Str × Value)).length } :=
    cR k I hf hob old hns₁ hacc
  have st1:tn 0 h₁:=T.keep _ _ _ st0 fun b _ o e=>old b o e
  have ltD:∀ b∈fp,b≠s.heap.objs.size:=fun b hb=>by
    obtain ⟨o,e⟩:=hob b hb
    exact Nat.ne_of_lt (Heap.lt_size e)
  have ltC:∀ b∈fp,b≠s.heap.objs.size+1:=fun b hb=>by
    obtain ⟨o,e⟩:=hob b hb
    exact Nat.ne_of_lt (Nat.lt_succ_of_lt (Heap.lt_size e))
  have stat:∀ {H':Hp} {its:List Value} {n:Nat},(∀ b∈fp,H' b=none)→∀ b∈fp,tS (yH X sc N (s.heap.objs.size+1) s H fp) [(s.heap.objs.size,{ cls:=.type "list", data:=.seq its.toArray n })] H' b:=fun {H' its n} hn b hb=>by
    have cx:=nR (N:=N) k I hf hob
    refine ⟨hn b hb,ltC b hb,cx.exfs b hb,.inl hb,(cx.exf b hb).2,fun p hp=>?_⟩
    have e:p=(s.heap.objs.size,{ cls:=.type "list", data:=.seq its.toArray n }):=by simpa [yH] using hp
    subst e
    exact Ne.symm (ltD b hb)
  obtain ⟨m0,w0⟩:=w0
  have loop:codeAny (model X.prog X.w) X.A (.compLoop (.ListComp elt [⟨tg,iter,ifs,0⟩] sc pos) 0 (.ref it) (.ref s.heap.objs.size) (compEnvC sc (j1 X.env sc.names []) (s.heap.objs.size+1) X.env)) (RR (.ref s.heap.objs.size) (s.heap.objs.size+1)) { s with heap:=h₁,toks:=s.toks+([]:List (Str × Value)).length }:=by
    refine fx (fun m s'=>∃ i ys H' its n,Inv (yH X sc N (s.heap.objs.size+1) s H fp) [(s.heap.objs.size,{ cls:=.type "list", data:=.seq its.toArray n })] (dY tau σ) H' s'∧y_ ys its∧ys.length≤sizeLine∧tn i s'.heap∧(∀ b∈fp,H' b=none)∧W i m ys H') ?_ m0
      ⟨0,[],H,[],0,I1,.nil,Nat.zero_le _,st1,fun b hb=>(hf b hb).1,w0⟩
    rintro m s3 ⟨i,ys,H3,its,n,I3,rv,hz,st3,fr3,w3⟩
    rcases turn i m ys H3 w3 with ⟨stop,z⟩ | ⟨go,hlt,step⟩
    · refine wpAny_mono (T.done (yH X sc N (s.heap.objs.size+1) s H fp) rfl rfl rfl hc i _ s3 _ H3 (fun _ _=>False) I3 (stat fr3) st3 stop) (fun r s4 ⟨hr,I4⟩=>?_) fun _ _ f=>f.elim
      subst hr
      exact fin _ _ _ _ _ _ I4 rv hz z
    · refine wpAny_mono (T.item (yH X sc N (s.heap.objs.size+1) s H fp) rfl rfl rfl hc i _ s3 _ H3 (fun _ _=>False) I3 (stat fr3) st3 go) (fun r s4 ⟨u,hr,h4⟩=>?_) fun _ _ f=>f.elim
      subst hr
      refine wpAny_mono h4 (fun _ s5 ⟨x,H5,I5,r5,y5,st5,fr5⟩=>?_) fun _ _ f=>f.elim
      have I5':=I5.pinned (stat fr5) (T.obj _ _ st5)
      refine wpAny_mono (hg _ _ _ _ _ s5 _ H5 x u _ I5' r5 (hga _ _ _ _ (step x H5 y5))) (fun _ s6 ⟨σ6,H6,I6,q6,ag⟩=>?_) fun _ _ f=>f.elim
      refine wpAny_mono (ht _ _ _ _ _ s6 σ6 H6 _ I6 q6) (fun b s7 ⟨H7,I7,q7⟩=>?_) fun _ _ f=>f.elim
      have back:∀ {H8:Hp} {s8:Shared},Inv (yH X sc N (s.heap.objs.size+1) s H fp) ([(s.heap.objs.size,{ cls:=.type "list", data:=.seq its.toArray n })]++dW fp s5.heap) σ6 H8 s8 →
          Inv (yH X sc N (s.heap.objs.size+1) s H fp) [(s.heap.objs.size,{ cls:=.type "list", data:=.seq its.toArray n })] (dY tau σ) H8 s8∧tn (i+1) s8.heap∧∀ b∈fp,H8 b=none:=fun {H8 s8} I8=>by
        refine ⟨I8.unpinned.weak (I1.len.trans I8.len.symm) fun j v e=>?_,T.keep _ _ _ st5 fun b hb o e=>(I8.pin (b,o) (List.mem_append_right _ (List.mem_append_right _ (vp hb e)))).1,fun b hb=>?_⟩
        · obtain ⟨j',t1,_⟩:=rB e
          rw [ag j j' t1]; exact e
        · obtain ⟨o,e,d⟩:=T.obj _ _ st5 b hb
          exact (I8.pin (b,o) (List.mem_append_right _ (List.mem_append_right _ (vp hb e)))).2.1
      cases b with
      | false =>
        obtain ⟨m',hm,w7⟩:=q7
        obtain ⟨I8,st8,fr8⟩:=back I7
        rw [if_neg Bool.false_ne_true]
        exact ⟨m',hm,i+1,ys,H7,its,n,I8,rv,hz,st8,fr8,w7⟩
      | true =>
        rw [if_pos rfl]
        refine wpAny_mono (he _ _ _ _ s7 σ6 H7 _ I7 q7) (fun y s8 ⟨yv,H8,I8,r8,m',hm,w8⟩=>?_) fun _ _ f=>f.elim
        obtain ⟨I9,st9,fr9⟩:=back I8
        obtain ⟨pD,nD,dL,dF,dC⟩:=I9.pin (s.heap.objs.size,{ cls:=.type "list", data:=.seq its.toArray n }) (by simp [yH])
        refine call_meets F.slot_list_append ⟨_,pD,rfl⟩ F.entry_list_append (F.args_list_append_2 _ _) (PySem.list_append s.heap.objs.size its.toArray n y (by rw [List.size_toArray,← rv.length]; exact hz)) ⟨pD,?_⟩
        have q:=PySem.IsL.update pD (fun x=>x.push y)
        obtain ⟨n',q'⟩:∃ n',(s8.heap.update s.heap.objs.size (Obj.mapSeq fun x=>x.push y)).get? s.heap.objs.size=some { cls:=.type "list", data:=.seq (its++[y]).toArray n' }:=⟨_,by
          rw [show (its++[y]).toArray=its.toArray.push y by simp]; exact q⟩
        have kp:∀ b o,b≠s.heap.objs.size→s8.heap.get? b=some o→(s8.heap.update s.heap.objs.size (Obj.mapSeq fun x=>x.push y)).get? b=some o:=fun b o hb e=>(Heap.get?_update_other s8.heap _ (Ne.symm hb)).trans e
        have I10:Inv (yH X sc N (s.heap.objs.size+1) s H fp) [] (dY tau σ) H8 s8:=I9.pins_of fun p hp=>absurd hp (by simp)
        have I11:Inv (yH X sc N (s.heap.objs.size+1) s H fp) [] (dY tau σ) H8 { s8 with heap:=s8.heap.update s.heap.objs.size (Obj.mapSeq fun x=>x.push y),toks:=s8.toks } :=
          I10.turned (it:=s.heap.objs.size) (t':=s8.toks) kp nD dL (.inr (Nat.le_refl _)) (fun x c e z=>by
            obtain ⟨v,o,ho,hd⟩:=I10.cell x c e
            rw [z,pD] at ho
            cases ho
            cases hd) (fun p hp=>absurd hp (by simp [yH]))
        refine ⟨m',hm,i+1,ys++[yv],H8,its++[y],n',I11.pins_of fun p hp=>?_,rv.append (.cons r8 .nil),?_,T.keep _ _ _ st9 fun b hb o e=>kp b o (ltD b hb) e,fr9,w8⟩
        · have e:p=(s.heap.objs.size,{ cls:=.type "list", data:=.seq (its++[y]).toArray n' }):=by simpa using hp
          subst e
          exact ⟨q',nD,dL,dF,fun v=>by simp⟩
        · rw [List.length_append,List.length_singleton]; exact hlt
  exact codeAny_compStart_list loop (T.self _ 0 _ _ _ st1 loop)
theorem wy {elt tg iter:Expr} {ifs:List Expr} {wi:TI} {g:TG} {tc:TT} {te:TE} {pos:Pos} (k:uT X sc N tau) (hc:X.calm=true) (hga:GA tau g) (hi:PI X tg iter wi)
    (hg:∀ C s H ex,PG (yH X sc N C s H ex) tg g) (ht:∀ C s H ex,PIf (yH X sc N C s H ex) ifs tc) (he:∀ C s H ex,PE (yH X sc N C s H ex) elt te)
    (hs:∀ x,foldedSetIterable iter X.env x=pure x:=by intro _; rfl):PE X (.ListComp elt [⟨tg,iter,ifs,0⟩] sc pos) (lO wi tau g tc te):=by
  intro pins s σ H Q I h
  rw [eval_ListComp]
  refine wpAny_comprehension_free (use:=none) rfl hs (nK (k.cells I.ok)) k.kind k.loc ?_
  refine thn (@hi pins s σ H _ I h) fun v s1 h1=>thn h1 fun itv s2 h2=>?_
  obtain ⟨it,fp,tn,J,H2,e,I2,T,st2,f2,W,w0,turn⟩:=h2
  subst e
  refine hV (RR:=fun acc C=>compPost (model X.prog X.w) X.A X.xe none (EP X pins σ Q) acc C) (W:=W) (Z:=fun ys H'=>∀ p,H' p=none→Q (.ref p) (upd H' p (.lst ys))) k hc I2 T st2 f2 hga hg ht he w0 turn ?_
  intro σ' H' s' ys its n J' rv hz z
  obtain ⟨I',hD,hC⟩:=aH k I2 f2 J' rv hz
  obtain ⟨m,hn,_⟩:=J'.loc
  exact ⟨m,hn,fun h' hs'=>⟨.ref _,_,dn I2 I' hC hs',rfl,z _ hD⟩⟩
theorem vx {elt tg iter:Expr} {ifs:List Expr} {wi:TI} {g:TG} {tc:TT} {te:TE} {pos spos py:Pos} {i:Nat} {x:Str} (hN:X.N.Nodup) (hi':X.N[i]? = some x) (hx:Loc X.env.scope x) (k:uT X sc N tau) (hc:X.calm=true) (hga:GA tau g) (hi:PI X tg iter wi)
    (hg:∀ C s H ex,PG (yH X sc N C s H ex) tg g) (ht:∀ C s H ex,PIf (yH X sc N C s H ex) ifs tc) (he:∀ C s H ex,PE (yH X sc N C s H ex) elt te)
    (hsw:swapsWith (.ListComp elt [⟨tg,iter,ifs,0⟩] sc pos) (some (.Name x py)) spos.line X.env=pure true:=by rfl)
    (hs:∀ x,foldedSetIterable iter X.env x=pure x:=by intro _; rfl) (hf:X.fn x=true∨X.env.scope.names.lookup x=some .local:=by first | exact .inl rfl | exact .inr rfl | assumption) :
    PS X (.Assign [.Name x py] (.ListComp elt [⟨tg,iter,ifs,0⟩] sc pos) spos) (lD (lO wi tau g tc te) (gT i)):=by
  intro pins s σ H D I h
  rw [exec_Assign_Name_used _ _ _ _ hsw]
  refine wpAny_bind (wpAny_standAt (wpAny_bind ?_))
  show wpAny _ X.A (do let _ ← comprehension (.ListComp elt [⟨tg,iter,ifs,0⟩] sc pos) sc X.env _ (newList []) false (eval iter X.env) (some (assign (.Name x py) X.env))) _ _ s
  refine wpAny_bind (wpAny_mono (wpAny_comprehension_free (use:=some (assign (.Name x py) X.env)) (Q:=fun _ s'=>SP X pins D .next s') rfl hs (nK (k.cells I.ok)) k.kind k.loc ?_) (fun _ s' q=>wpAny_pure (wpAny_pure q)) fun _ _ e=>e)
  refine thn (@hi pins s σ H _ I h) fun v s1 h1=>thn h1 fun itv s2 h2=>?_
  obtain ⟨it,fp,tn,J,H2,e,I2,T,st2,f2,W,w0,turn⟩:=h2
  subst e
  refine hV (RR:=fun acc C=>compPost (model X.prog X.w) X.A X.xe (some (assign (.Name x py) X.env)) (fun _ s'=>SP X pins D .next s') acc C) (W:=W) (Z:=fun ys H'=>∀ p,H' p=none→D.nx (σ.set i (some (.ref p))) (upd H' p (.lst ys))) k hc I2 T st2 f2 hga hg ht he w0 turn ?_
  intro σ' H' s' ys its n J' rv hz z
  obtain ⟨I',hD,hC⟩:=aH k I2 f2 J' rv hz
  obtain ⟨m,hn,_⟩:=J'.loc
  have hn:s'.heap.Ns (s2.heap.objs.size+1) m:=hn
  refine wpAny_assign_Name (df (v:=.ref s2.heap.objs.size) I' hN hi' hx rfl (fun s'' I'' ⟨a,sb,ha⟩=>?_) hf)
  refine ⟨m,hn.sameBut sb ?_,fun h' hs'=>⟨_,_,dn I2 I'' hC hs',z _ hD⟩⟩
  rcases ha with ha | ha
  · rw [ha]; exact Nat.ne_of_gt (Nat.lt_succ_of_lt I2.lt)
  · obtain ⟨v,o,ho,_⟩:=I2.cell x a ha
    exact Nat.ne_of_gt (Nat.lt_succ_of_lt (Heap.lt_size ho))
end
end L2
namespace L2
open PySem PySem.Spec PyProof.Rows
structure Own (P:Program) (w:World) (K:PySem.W.Frag) (mg:Str→Option Value) (base:Heap) (k:Nat) (x:Str) (ps:List Str) (sp:Sp):Prop where
  ex:∃ (f:Addr) (fd:FuncData),gI P w K mg base CX0 k f fd ps sp∧Binds K fd ps []∧PySem.W.keepIn K (.ref f)=true∧mg x=some (.ref f)
theorem Own.mono {P:Program} {w:World} {K:PySem.W.Frag} {mg:Str→Option Value} {base:Heap} {j k:Nat} {x:Str} {ps:List Str} {sp:Sp} (h:Own P w K mg base j x ps sp) (hjk:j≤k):Own P w K mg base k x ps sp:=by
  obtain ⟨f,fd,F,b,kp,m⟩:=h.ex
  exact ⟨f,fd,F.mono hjk,b,kp,m⟩
theorem Own.imp {P:Program} {w:World} {K:PySem.W.Frag} {mg:Str→Option Value} {base:Heap} {k:Nat} {x:Str} {ps:List Str} {sp sp':Sp} (h:Own P w K mg base k x ps sp) (q:∀ vs H Q E,sp' vs H Q E→sp vs H Q E):Own P w K mg base k x ps sp':=by
  obtain ⟨f,fd,F,b,kp,m⟩:=h.ex
  exact ⟨f,fd,F.imp q,b,kp,m⟩
def xah (sp:Sp) (t:TA):TE:=fun σ H Q=>t σ H fun vs H1=>sp vs H1 Q E0
theorem xt {X:Cx} {k j:Nat} {x:Str} {ps:List Str} {sp:Sp} {p pos:Pos} {e:Expr} {es:List Expr} {t:TA} (h:Own X.prog X.w X.K X.mg X.base j x ps sp) (hr:qI k X.A) (ha:PA X (e::es) t) (hjk:j≤k:=by decide) (hg:Gl X x:=by rfl)
    (hdb:(x == ("__debug__" : Str))=false:=by decide) (he:starEach (e::es) X.env=(false,eval e X.env)::starEach es X.env:=by rfl) (hpl:(backTo pos (starEach es X.env)).any (·.1)=false:=by rfl) :
    PE X (.Call (.Name x p) (e::es) [] pos) (xah sp t):=by
  obtain ⟨f,fd,F,b,kp,m⟩:=(h.mono hjk).ex
  intro pins s σ H Q I q
  refine mK (E:=E0) F hr hg m kp b .nil xbV ha hdb he hpl s σ H Q I ?_
  have e:(fun (vs:List V) (H1:Hp)=>sp (vs++[]) H1 Q E0)=fun vs H1=>sp vs H1 Q E0:=by
    funext vs H1; rw [List.append_nil]
  show t σ H fun vs H1=>sp (vs++[]) H1 Q E0
  rw [e]; exact q
theorem hG {P:Program} {w:World} {K:PySem.W.Frag} {mg:Str→Option Value} {base:Heap} {k:Nat} {x qual:Str} {st:Stmt} {f:Addr} {fd:FuncData} {N ps:List Str} {sp:Sp} (F:Fun K x qual st f fd) (S:xI N ps (xk st)) (mgx:mg x=some (.ref f)) (b:Binds K fd ps [])
    (len:∀ vs H Q E,sp vs H Q E→vs.length=ps.length)
    (body:∀ (cdv:Value) (A:Around) (outer:List Env) (s:Shared) (H:Hp) (vs:List V) (Q:VK) (E:XK),qI k (A.deeper (envOfC qual (xk st) s.heap.objs.size f cdv))→sp vs H Q E →
      ∃ t,PSs (kK CX0 P w K mg base N qual (xk st) f cdv A outer s H E).nox (yF st) t∧t { nx:=fun _ H'=>Q .non H',rt:=Q } (start N vs) H):Own P w K mg base (k+1) x ps sp :=
  ⟨f,fd,F.ok S len body,b,F.kp,mgx⟩
section
variable {X:Cx}
def xa2 (i j:Int):Prop:=0 < j∧j.natAbs.log2 < 9000
theorem rQ:OpR X (binaryOp .FloorDiv) (rI xa2 fun i j=>.int (i / j)):=opI fun i j _ _ _ _ _ hc q=>by
  refine floordiv_int (by have:=hc.1; omega) ?_ (.inl (PyProof.noPylong_of_log2 hc.2))
  rw [Int.fdiv_eq_ediv_of_nonneg i (by have:=hc.1; omega)]
  exact q
theorem jD {i j:Int} (h0:0 < j) (h:j < 2 ^ 128):xa2 i j:=by
  refine ⟨h0,?_⟩
  have:j.natAbs < 2 ^ 128:=by omega
  have:=Nat.log2_lt (n:=j.natAbs) (k:=128) (by omega)
  have h':j.natAbs.log2 < 128:=this.mpr (by omega)
  omega
def oY (n c:String):Bool:=n == c || (n == "bool" && c == "int")
def sY:List String:=["NoneType", "bool", "int", "str", "list", "tuple", "dict"]
def ki:List String:=["bool", "int", "str", "list", "tuple", "dict"]
theorem bF {K:PySem.W.Frag} {n c:String} (hn:n∈sY) (hc:c∈ki):PySem.W.kitOne K (.type n) (.type c)=some (oY n c):=by
  simp only [sY,ki,List.mem_cons,List.not_mem_nil,or_false] at hn hc
  rcases hn with rfl | rfl | rfl | rfl | rfl | rfl | rfl <;> rcases hc with rfl | rfl | rfl | rfl | rfl | rfl <;> kernel_rfl
def tyN (H:Hp):V→Option String
  | .non=>some "NoneType"
  | .bl _=>some "bool"
  | .int _=>some "int"
  | .str _=>some "str"
  | .ref a=>match H a with
    | some (.lst _)=>some "list"
    | some (.frz _ (.lst _))=>some "list"
    | some (.tup _)=>some "tuple"
    | some (.dK _)=>some "dict"
    | _=>none
  | _=>none
theorem xa5 {K:PySem.W.Frag} {H:Hp} {x:V} {n:String} (h:tyN H x=some n):tj K H x (.type n)∧n∈sY:=by
  cases x with
  | non=>cases h; exact ⟨.non,by decide⟩
  | bl b=>cases h; exact ⟨.bl b,by decide⟩
  | int i=>cases h; exact ⟨.int i,by decide⟩
  | str y=>cases h; exact ⟨.str y,by decide⟩
  | ref a =>
    have h:(match H a with
      | some (.lst _)=>some "list"
      | some (.frz _ (.lst _))=>some "list"
      | some (.tup _)=>some "tuple"
      | some (.dK _)=>some "dict"
      | _=>none)=some n:=h
    split at h
    · rename_i xs e; cases h; exact ⟨.lst e,by decide⟩
    · rename_i o xs e; cases h; exact ⟨.frz e,by decide⟩
    · rename_i xs e; cases h; exact ⟨.tup e,by decide⟩
    · rename_i xs e; cases h; exact ⟨.dK e,by decide⟩
    · cases h
  | _=>cases h
def xcz (xs:List V) (H:Hp) (Q:VK):Prop:=∃ x c n,xs=[x,.ty c]∧tyN H x=some n∧c∈ki∧Q (.bl (oY n c)) H
theorem yC:qs X (.builtin "isinstance") xcz:=by
  intro pins s σ H xs us Q I r h
  obtain ⟨x,c,n,rfl,ty,hc,q⟩:=h
  obtain ⟨u,w',rfl,rx,ry⟩:=vals2 r
  cases ry
  obtain ⟨t1,t2⟩:=xa5 (K:=X.K) ty
  exact mV I rx t1 (bF t2 hc) fun tk=>⟨.bl _,H,I.tok tk,rfl,q⟩
theorem j7:∀ {bs:List Bool} {us:List Value},y_ (bs.map V.bl) us→us=bs.map Value.bool
  | [],_,.nil=>rfl
  | c::cs,_,.cons r t=>by
    cases r
    rw [j7 t]; rfl
def lI (K:PySem.W.Frag) (xs:List V) (H:Hp) (Q:VK):Prop:=∃ (p:Addr) (bs:List Bool),xs=[.ref p]∧SqL K H p (bs.map V.bl)∧Q (.bl (bs.all id)) H
theorem fb {bs:List Bool}:(List.range bs.length).all (fun i=>(bs[i]?).getD false)=bs.all id:=by
  rw [Bool.eq_iff_iff]
  simp only [List.all_eq_true,List.mem_range,id]
  constructor
  · intro h b hb
    obtain ⟨i,hi,rfl⟩:=List.mem_iff_getElem.mp hb
    have:=h i hi
    rw [List.getElem?_eq_getElem hi] at this
    exact this
  · intro h i hi
    rw [List.getElem?_eq_getElem hi]
    exact h _ (List.getElem_mem hi)
theorem nq (hc:X.calm=true):qs X (.builtin "all") (lI X.K):=by
  intro pins s σ H xs us Q I r h
  obtain ⟨p,bs,rfl,hl,q⟩:=h
  obtain ⟨u,rfl,ru⟩:=vals1 r
  cases ru
  obtain ⟨its,rv,pl,hz⟩:=I.list hl
  have e:=j7 rv
  subst e
  have hl':=pl.isList
  refine call_all_walk (wpAny_pyIter_list hl' ?_)
  have hlt:p < s.heap.objs.size:=by obtain ⟨o,ho,_⟩:=id hl'; exact Heap.lt_size ho
  have hne:p≠s.heap.objs.size:=Nat.ne_of_lt hlt
  refine ⟨_,_,_,_,_,_,fun i=>(bs[i]?).getD false,rfl,Walks.list (A:=X.A.in1) (I.ok.hd hc) _ p hne (bs.map Value.bool).toArray,⟨⟨_,Heap.get?_push_size _ rfl,rfl,rfl⟩,hl'.at fun o e=>Heap.get?_push_of_some _ e⟩,?_,fun h' tk hk=>?_⟩
  · intro i v s' Q' E' hP hq
    have hP':(bs.map Value.bool)[i]? = some v:=by simpa using hP
    rw [List.getElem?_map] at hP'
    cases eb:bs[i]? with
    | none=>rw [eb] at hP'; cases hP'
    | some b =>
      rw [eb] at hP'
      cases hP'
      simp only [eb,Option.getD_some] at hq
      exact wpAny_truthy_bool hq
  · have hk':=old_kept (l:=p) hk
    refine ⟨.bl (bs.all id),H,I.kept hk',?_,q⟩
    show Value.bool _=Value.bool _
    have:(bs.map Value.bool).toArray.size=bs.length:=by simp
    rw [this,fb]
end
end L2
namespace L2
open PySem PySem.Spec PyProof.Rows
structure Blt (mg:Str→Option Value) (ns:List Str):Prop where
  all:∀ x∈ns,mg x=none
theorem Blt.get {mg:Str→Option Value} {ns:List Str} (B:Blt mg ns) (x:Str) (h:x∈ns:=by decide +kernel):mg x=none:=B.all x h
theorem zd:bootBuiltins "len" = some (.builtin "len"):=by decide +kernel
theorem oB:bootBuiltins "max" = some (.builtin "max"):=by decide +kernel
theorem xbk:bootBuiltins "min" = some (.builtin "min"):=by decide +kernel
theorem vJ:bootBuiltins "abs" = some (.builtin "abs"):=by decide +kernel
theorem fG:bootBuiltins "all" = some (.builtin "all"):=by decide +kernel
theorem xW:bootBuiltins "isinstance" = some (.builtin "isinstance"):=by decide +kernel
theorem yE:bootBuiltins "tuple" = some (.type "tuple"):=by decide +kernel
theorem bj:bootBuiltins "list" = some (.type "list"):=by decide +kernel
theorem oI:bootBuiltins "int" = some (.type "int"):=by decide +kernel
theorem sC:bootBuiltins "bool" = some (.type "bool"):=by decide +kernel
theorem xbx:bootBuiltins "zip" = some (.type "zip"):=by decide +kernel
def xb2 (n:Int) (b:Bool):Prop:=0≤n∧(b=false→n < 2147483647)
def sT (p:Addr) (H:Hp):Prop:=∃ (n:Int) (b:Bool),H p=some (.lst [.int n,.bl b])∧xb2 n b
structure SB (p:Addr) (H H':Hp):Prop where
  keep:∀ (b:Addr) (o:HO),b≠p→H b=some o→H' b=some o
  st:sT p H'
def pQ (K:PySem.W.Frag):Sp:=fun vs H Q _=>∃ (a:Addr) (ns:List Int) (k:Int),vs=[.ref a,.int k]∧SqL K H a (ns.map V.int)∧ns.length≤63∧0≤k∧∀ n:Int,Q (.int n) H
def s9 (K:PySem.W.Frag):Sp:=fun vs H Q _=>∃ (a:Addr) (ns:List Int) (k:Int),vs=[.ref a,.int k]∧SqL K H a (ns.map V.int)∧ns.length≤63∧0≤k ∧
  ∀ (p:Addr) (n:Int) (b:Bool),H p=none→xb2 n b→Q (.ref p) (upd H p (.lst [.int n,.bl b]))
def og:Sp:=fun vs H Q _=>∃ (p:Addr) (many:Int),vs=[.ref p,.int many]∧sT p H∧0 < many∧many < 2 ^ 128∧∀ (r:Int) (H':Hp),0≤r→r < many→SB p H H'→Q (.int r) H'
theorem bX {ns:List Int} {k:Int} (h0:0≤k) (h:k < (ns.length:Int)):∃ v:Int,atI (ns.map V.int) k=some (.int v):=by
  have hk:k.toNat < ns.length:=by omega
  have ek:k=((k.toNat:Nat):Int):=by omega
  have q:atI (ns.map V.int) ((k.toNat:Nat):Int)=some (.int ns[k.toNat]):=ls (by rw [List.getElem?_map,List.getElem?_eq_getElem hk] <;> rfl)
  rw [← ek] at q
  exact ⟨_,q⟩
end L2
namespace L2
open PySem PySem.Spec PyProof.Rows
section
variable {X:Cx}
theorem wI (K:PySem.W.Frag) (e:X.K=K:=by rfl):IxR X (xcm K):=e ▸ t_
theorem kO (K:PySem.W.Frag) (e:X.K=K:=by rfl):SlR X (xay K):=e ▸ bG
theorem w_ (K:PySem.W.Frag) (hc:X.calm=true) (e:X.K=K:=by rfl):qs X (.builtin "all") (lI K):=e ▸ nq hc
def lF (K:PySem.W.Frag) (xs:List V) (H:Hp) (Q:VK):Prop:=∃ p ys,xs=[.ref p]∧(SqL K H p ys∨SqT K H p ys)∧Q (.int ys.length) H
theorem yf (K:PySem.W.Frag) (e:X.K=K:=by rfl):qs X (.builtin "len") (lF K):=e ▸ dX
def oN (K:PySem.W.Frag) (xs:List V) (H:Hp) (Q:VK):Prop:=∃ p ys,xs=[.ref p]∧((SqL K H p ys∧∀ l,H l=none→Q (.ref l) (upd H l (.tup ys)))∨(SqT K H p ys∧Q (.ref p) H))
theorem wB (K:PySem.W.Frag) (e:X.K=K:=by rfl):qs X (.type "tuple") (oN K):=e ▸ fi
def xaq (K:PySem.W.Frag) (xs:List V) (H:Hp) (Q:VK):Prop:=∃ p ys,xs=[.ref p]∧(SqL K H p ys∨SqT K H p ys)∧∀ l,H l=none→Q (.ref l) (upd H l (.lst ys))
theorem jZ (K:PySem.W.Frag) (e:X.K=K:=by rfl):qs X (.type "list") (xaq K):=e ▸ dO
theorem yr (K:PySem.W.Frag) {pos:Pos} {es:List Expr} {k:Nat} {t:TGs} {n:Nat} (hc:X.calm=true) (h:PGs X es t)
    (hn:(assignEach es X.env).length=n:=by rfl) (hst:(assignEach es X.env).findIdx? (·.1)=none:=by rfl) (e:X.K=K:=by rfl):PG X (.Tuple es k pos) (xbI K n t):=by
  subst e
  exact xaI hc h hn hst
end
theorem j2 {α β:Type} {F:α→β→Prop}:∀ {l:List α} {k:List β} {i:Nat} {b:β},Paired F l k→k[i]? = some b→∃ a,l[i]? = some a∧F a b
  | _,_,_,_,.nil,h=>by simp at h
  | _,_,0,_,.cons r _,h=>by simp at h; subst h; exact ⟨_,rfl,r⟩
  | _,_,i+1,b,.cons _ t,h=>by
    obtain ⟨a,e,f⟩:=j2 (i:=i) t (by simpa using h)
    exact ⟨a,by simpa using e,f⟩
theorem rZ {α β:Type} {F:α→β→Prop} {l:List α} {k:List β} (h:Paired F l k):l.length=k.length:=Paired.length h
theorem jB {α β:Type} {F:α→β→Prop} {a:α} {b:β} {l:List α} {k:List β} (h:Paired F l k) (r:F a b):Paired F (l++[a]) (k++[b]):=Paired.snoc h r
theorem hW {α β:Type} {F:α→β→Prop}:∀ {l l':List α} {k k':List β},Paired F l k→Paired F l' k'→Paired F (l++l') (k++k')
  | _,_,_,_,.nil,s=>s
  | _,_,_,_,.cons r t,s=>.cons r (hW t s)
theorem jc {α β:Type} {F:α→β→Prop}:∀ (n:Nat) {l:List α} {k:List β},Paired F l k→Paired F (l.drop n) (k.drop n)
  | 0,_,_,h=>h
  | _+1,_,_,.nil=>.nil
  | n+1,_,_,.cons _ t=>jc n t
theorem ji {α β:Type} {F:α→β→Prop}:∀ (n:Nat) {l:List α} {k:List β},Paired F l k→Paired F (l.take n) (k.take n)
  | 0,_,_,_=>.nil
  | _+1,_,_,.nil=>.nil
  | n+1,_,_,.cons r t=>.cons r (ji n t)
theorem take_succ {α:Type} {l:List α} {i:Nat} {a:α} (h:l[i]? = some a):l.take (i+1)=l.take i++[a]:=by
  rw [List.take_succ,h]; rfl
theorem sz {n:Nat} (h:n≤1000):n≤sizeLine:=Nat.le_of_lt (nI h)
end L2
namespace L2
open PySem PySem.Spec PyProof.Rows
open Builtin.SmallTypes (nextOf)
structure Drw (it a:Addr) (vs:List Value) (tn:Nat→Heap→Prop) (src:Heap→Prop):Prop where
  mv:∀ i h h',tn i h→(∀ o,h.get? it=some o→h'.get? it=some o)→tn i h'
  smv:∀ h h',src h→(∀ o,h.get? a=some o→h'.get? a=some o)→src h'
  ob:∀ i h,tn i h→∃ o,h.get? it=some o∧∀ v,o.data≠.cell v
  item:∀ (prog:Program) (w:World) (A:Around) (E:Value→Shared→Prop) (i:Nat) (x:Value) (s:Shared) (Q:Value→Shared→Prop),tn i s.heap→src s.heap→vs[i]? = some x →
    (∀ h',tn (i+1) h'→Heap.SameBut it s.heap h'→Q x { s with heap:=h' })→wpAny (model prog w) A (nextOf (.ref it)) Q E s
  fin:∀ (prog:Program) (w:World) (A:Around) (E:Value→Shared→Prop) (i:Nat) (s:Shared) (Q:Value→Shared→Prop),A.handled=none→tn i s.heap→src s.heap→vs[i]? = none →
    (∀ h' e,Heap.ExtBut it s.heap h'→(∃ o,h'.get? e=some o∧o.cls=.type "StopIteration")→E (.ref e) { s with heap:=h' })→wpAny (model prog w) A (nextOf (.ref it)) Q E s
theorem pE (it a:Addr) (vs:List Value):Drw it a vs (fun i h=>h.IsListIter it a i) (fun h=>h.IsList a vs.toArray) where
  mv:=fun i h h' t k=>t.at k
  smv:=fun h h' t k=>t.at k
  ob:=fun i h t=>let ⟨o,e,_,d⟩:=t; ⟨o,e,fun v z=>by rw [d] at z; cases z⟩
  item:=fun prog w A E i x s Q t l e h=>wpAny_nextOf_list_item t l (by simpa using e) h
  fin:=fun prog w A E i s Q hh t l e h=>wpAny_nextOf_list_end hh t l (by simpa using e) h
section
variable {prog:Program} {w:World} {A:Around} {E:Value→Shared→Prop} {s:Shared}
theorem dS {it a:Addr} {i:Nat} {vs:List Value} {x:Value} {Q:Value→Shared→Prop} (T:s.heap.IsTupleIter it a i) (S:s.heap.IsTuple a vs.toArray) (e:vs[i]? = some x)
    (h:∀ h',h'.IsTupleIter it a (i+1)→Heap.SameBut it s.heap h'→Q x { s with heap:=h' }):wpAny (model prog w) A (nextOf (.ref it)) Q E s:=by
  obtain ⟨ob,hob,hcl,hdt⟩:=id T
  obtain ⟨os,hos,_,nn,hsq⟩:=id S
  have e':vs.toArray[i]? = some x:=by simpa using e
  unfold nextOf
  refine wpAny_bind (wpAny_callSpecial?_slot (name:=Str.ofString "__next__") T.typeIs F.slot_tuple_iterator_next (wpAny_call_entry F.slot_tuple_iterator_next T.typeIs F.entry_tuple_iterator_next (wpAny_bind (m:=field (.ref it) 0) (wpAny_field hob hdt (x:=.ref a) rfl ?_)) (F.args_tuple_iterator_next_1 _)))
  refine wpAny_bind (m:=field (.ref it) 1) (wpAny_field hob hdt (x:=.int i 0) rfl (wpAny_bind (m:=seqItems? (.ref a)) (wpAny_seqItems hos hsq ?_)))
  simp only [Int.toNat_natCast,e']
  refine wpAny_bind (wpAny_setField hob hdt (by simp) (wpAny_pure ⟨x,rfl,wpAny_pure (h _ ⟨_,Heap.get?_update_self _ hob (Obj.isFreed_of_fields (Obj.data_mapFields hdt _)),(Obj.cls_mapFields ..).trans hcl,?_⟩ (Heap.SameBut.update ..))⟩))
  rw [Obj.data_mapFields hdt]
  simp [rawInt]
theorem sD {it a:Addr} {i:Nat} {vs:List Value} {Q:Value→Shared→Prop} (hn:A.handled=none) (T:s.heap.IsTupleIter it a i) (S:s.heap.IsTuple a vs.toArray) (e:vs[i]? = none)
    (h:∀ h' x,Heap.ExtBut it s.heap h'→(∃ o,h'.get? x=some o∧o.cls=.type "StopIteration")→E (.ref x) { s with heap:=h' }):wpAny (model prog w) A (nextOf (.ref it)) Q E s:=by
  obtain ⟨ob,hob,hcl,hdt⟩:=id T
  obtain ⟨os,hos,_,nn,hsq⟩:=id S
  have e':vs.toArray[i]? = none:=by simpa using e
  unfold nextOf
  refine wpAny_bind (wpAny_callSpecial?_slot (name:=Str.ofString "__next__") T.typeIs F.slot_tuple_iterator_next (wpAny_call_entry F.slot_tuple_iterator_next T.typeIs F.entry_tuple_iterator_next (wpAny_bind (m:=field (.ref it) 0) (wpAny_field hob hdt (x:=.ref a) rfl ?_)) (F.args_tuple_iterator_next_1 _)))
  refine wpAny_bind (m:=field (.ref it) 1) (wpAny_field hob hdt (x:=.int i 0) rfl (wpAny_bind (m:=seqItems? (.ref a)) (wpAny_seqItems hos hsq ?_)))
  simp only [Int.toNat_natCast,e']
  refine wpAny_bind (wpAny_rule (wpAny_bind (wpAny_setField hob hdt (by simp) (wpAny_bind ?_))))
  simp only [newExc,newTuple]
  refine wpAny_bind (wpAny_newObj_type (wpAny_bind (m:=firstArgMember _ _) (wpAny_of_eq (a:=Value.none) (by first | rfl | (simp only [firstArgMember]; rfl)) (wpAny_newObj_type ?_ (by size_fits)))) (by size_fits))
  simp only [raiseNew]
  refine wpAny_bind (wpAny_handled ?_)
  first | rw [show A.in1.handled=none from hn] | rw [hn]
  exact wpAny_bind (wpAny_pure (wpAny_throw (h _ _ (((Heap.SameBut.update ..).extBut.push _).push _) ⟨_,Heap.get?_push_size _ rfl,rfl⟩)))
end
theorem o9 (it a:Addr) (vs:List Value):Drw it a vs (fun i h=>h.IsTupleIter it a i) (fun h=>h.IsTuple a vs.toArray) where
  mv:=fun i h h' t k=>t.at k
  smv:=fun h h' t k=>let ⟨o,e,r⟩:=t; ⟨o,k o e,r⟩
  ob:=fun i h t=>let ⟨o,e,_,d⟩:=t; ⟨o,e,fun v z=>by rw [d] at z; cases z⟩
  item:=fun prog w A E i x s Q t l e h=>dS t l e h
  fin:=fun prog w A E i s Q hh t l e h=>sD hh t l e h
structure ZA (z ti to i1 i2 a1 a2:Addr):Prop where
  a:ti≠z∧to≠z∧i1≠z∧i2≠z∧ti≠to∧ti≠i1∧ti≠i2∧to≠i1∧to≠i2∧i1≠i2
  b:a1≠z∧a1≠to∧a1≠i1∧a1≠i2∧a2≠z∧a2≠to∧a2≠i1∧a2≠i2
section
variable {prog:Program} {w:World} {A:Around} {E:Value→Shared→Prop} {s:Shared} {z ti to i1 i2 a1 a2:Addr} {vs us:List Value} {t1 t2:Nat→Heap→Prop} {s1 s2:Heap→Prop}
theorem mZ {k:Nat} {x y p q:Value} {Q:Value→Shared→Prop} (D:ZA z ti to i1 i2 a1 a2) (W1:Drw i1 a1 vs t1 s1) (W2:Drw i2 a2 us t2 s2) (Z:IsZip s.heap z ti to .none) (TI:IsPair s.heap ti (.ref i1) (.ref i2)) (TO:IsPair s.heap to p q)
    (b1:t1 k s.heap) (b2:t2 k s.heap) (c1:s1 s.heap) (c2:s2 s.heap) (ex:vs[k]? = some x) (ey:us[k]? = some y)
    (h:∀ h',IsZip h' z ti to (rawInt s.heap.objs.size)→IsPair h' to x y→t1 (k+1) h'→t2 (k+1) h'→IsPair h' s.heap.objs.size x y →
      (∀ c o,c≠z→c≠to→c≠i1→c≠i2→s.heap.get? c=some o→h'.get? c=some o)→Q (.ref s.heap.objs.size) { s with heap:=h' }) :
    wpAny (model prog w) A (Builtin.«zip.__next__» ⟨[.ref z],[]⟩) (fun fin s'=>∃ v,fin=.done (.ret v)∧Q v s') E s:=by
  obtain ⟨⟨d1,d2,d3,d4,d5,d6,d7,d8,d9,d10⟩,e1,e2,e3,e4,e5,e6,e7,e8⟩:=D
  refine wpAny_bind (m:=field (.ref z) 2) (wpAny_field Z rfl (x:=.bool false) rfl (wpAny_bind (m:=field (.ref z) 3) (wpAny_field Z rfl (x:=.ref ti) rfl (wpAny_bind (wpAny_seqItems TI rfl ?_)))))
  refine wpAny_bind (m:=Builtin.SmallTypes.ownedTupleIsFree (.ref z)) ?_
  unfold Builtin.SmallTypes.ownedTupleIsFree
  refine wpAny_bind (wpAny_field Z rfl (x:=.none) rfl (wpAny_pure ?_))
  simp only [if_true]
  refine wpAny_bind (wpAny_rule (wpAny_bind (wpAny_field Z rfl (x:=.ref to) rfl (wpAny_bind (wpAny_setField_rec Z (by simp) fun g1 Z1 S1=>wpAny_bind ?_)))))
  replace Z1:IsZip g1 z ti to .ellipsis:=Z1
  simp only [List.zipIdx_cons,List.zipIdx_nil,List.forIn_cons,List.forIn_nil]
  refine wpAny_bind (wpAny_bind (wpAny_onRaise (wpAny_bind (m:=nextOf (.ref i1)) ?_)))
  refine W1.item _ _ _ _ k x _ _ (W1.mv _ _ _ b1 fun o=>S1.extBut _ o d3) (W1.smv _ _ c1 fun o=>S1.extBut _ o e1) ex fun g2 b12 S2=>wpAny_pure ?_
  have TO2:IsPair g2 to p q:=S2.extBut _ _ d8 (S1.extBut _ _ d2 TO)
  refine wpAny_bind (wpAny_seqItems TO2 rfl (wpAny_bind (wpAny_updateSeq_pair TO2 fun g3 TO3 S3=>wpAny_bind (wpAny_letGo (wpAny_pure ?_)))))
  replace TO3:IsPair g3 to x q:=TO3
  refine wpAny_bind (wpAny_bind (wpAny_onRaise (wpAny_bind (m:=nextOf (.ref i2)) ?_)))
  have k3:∀ c o,c≠z→c≠to→c≠i1→s.heap.get? c=some o→g3.get? c=some o:=fun c o n1 n2 n3 g=>S3.extBut _ _ n2 (S2.extBut _ _ n3 (S1.extBut _ _ n1 g))
  refine W2.item _ _ _ _ k y _ _ (W2.mv _ _ _ b2 fun o=>k3 _ o d4 (Ne.symm d9) (Ne.symm d10)) (W2.smv _ _ c2 fun o=>k3 _ o e5 e6 e7) ey fun g4 b24 S4=>wpAny_pure ?_
  have TO4:IsPair g4 to x q:=S4.extBut _ _ d9 TO3
  refine wpAny_bind (wpAny_seqItems TO4 rfl (wpAny_bind (wpAny_updateSeq_pair TO4 fun g5 TO5 S5=>wpAny_bind (wpAny_letGo (wpAny_pure (wpAny_pure ?_))))))
  replace TO5:IsPair g5 to x y:=TO5
  refine wpAny_bind (wpAny_seqItems TO5 rfl (wpAny_bind (wpAny_newTuple (wpAny_bind (m:=Builtin.SmallTypes.ownedTupleHandOut (.ref z) (.ref g5.objs.size)) ?_))))
  have sz5:g5.objs.size=s.heap.objs.size:=by rw [S5.1,S4.1,S3.1,S2.1,S1.1]
  have k5:∀ c o,c≠to→c≠i2→g3.get? c=some o→g5.get? c=some o:=fun c o n1 n2 g=>S5.extBut _ _ n1 (S4.extBut _ _ n2 g)
  have Z5:IsZip g5 z ti to .ellipsis:=k5 _ _ (Ne.symm d2) (Ne.symm d4) (S3.extBut _ _ (Ne.symm d2) (S2.extBut _ _ (Ne.symm d3) Z1))
  have b15:t1 (k+1) g5:=W1.mv _ _ _ b12 fun o g=>k5 _ o (Ne.symm d8) d10 (S3.extBut _ o (Ne.symm d8) g)
  have b25:t2 (k+1) g5:=W2.mv _ _ _ b24 fun o g=>S5.extBut _ o (Ne.symm d9) g
  have zlt:z < g5.objs.size:=Heap.lt_size Z5
  unfold Builtin.SmallTypes.ownedTupleHandOut
  refine wpAny_bind (wpAny_setField_rec (show IsZip (g5.push { cls:=.type "tuple", data:=.seq #[x,y] }) z ti to .ellipsis from Heap.get?_push_of_some _ Z5) (by simp) fun g7 Z7 S7=>wpAny_setField_rec (show IsZip g7 z ti to (rawInt g5.objs.size) from Z7) (by simp) fun g8 Z8 S8=>?_)
  replace Z8:IsZip g8 z ti to (rawInt g5.objs.size):=Z8
  have up8:∀ c o,c≠z→g5.get? c=some o→g8.get? c=some o:=fun c o n g=>S8.extBut _ _ n (S7.extBut _ _ n (Heap.get?_push_of_some _ g))
  have T8:IsPair g8 g5.objs.size x y:=S8.extBut _ _ (Nat.ne_of_gt zlt) (S7.extBut _ _ (Nat.ne_of_gt zlt) (Heap.get?_push_size _ rfl))
  refine wpAny_pure ⟨_,rfl,?_⟩
  show Q (.ref g5.objs.size) _
  rw [sz5] at Z8 T8 ⊢
  exact h g8 Z8 (up8 _ _ d2 TO5) (W1.mv _ _ _ b15 fun o g=>up8 _ o d3 g) (W2.mv _ _ _ b25 fun o g=>up8 _ o d4 g) T8 fun c o n1 n2 n3 n4 g=>up8 c o n1 (k5 c o n2 n4 (k3 c o n1 n2 n3 g))
theorem cV {k:Nat} {p q:Value} {Q:Fin→Shared→Prop} (hn:A.handled=none) (D:ZA z ti to i1 i2 a1 a2) (W1:Drw i1 a1 vs t1 s1) (W2:Drw i2 a2 us t2 s2) (Z:IsZip s.heap z ti to .none) (TI:IsPair s.heap ti (.ref i1) (.ref i2)) (TO:IsPair s.heap to p q)
    (b1:t1 k s.heap) (b2:t2 k s.heap) (c1:s1 s.heap) (c2:s2 s.heap) (end':vs[k]? = none∨us[k]? = none)
    (h:∀ h' e,(∀ c o,c≠z→c≠to→c≠i1→c≠i2→s.heap.get? c=some o→h'.get? c=some o)→(∃ o,h'.get? e=some o∧o.cls=.type "StopIteration")→E (.ref e) { s with heap:=h' }) :
    wpAny (model prog w) A (Builtin.«zip.__next__» ⟨[.ref z],[]⟩) Q E s:=by
  obtain ⟨⟨d1,d2,d3,d4,d5,d6,d7,d8,d9,d10⟩,e1,e2,e3,e4,e5,e6,e7,e8⟩:=D
  refine wpAny_bind (m:=field (.ref z) 2) (wpAny_field Z rfl (x:=.bool false) rfl (wpAny_bind (m:=field (.ref z) 3) (wpAny_field Z rfl (x:=.ref ti) rfl (wpAny_bind (wpAny_seqItems TI rfl ?_)))))
  refine wpAny_bind (m:=Builtin.SmallTypes.ownedTupleIsFree (.ref z)) ?_
  unfold Builtin.SmallTypes.ownedTupleIsFree
  refine wpAny_bind (wpAny_field Z rfl (x:=.none) rfl (wpAny_pure ?_))
  simp only [if_true]
  refine wpAny_bind (wpAny_rule (wpAny_bind (wpAny_field Z rfl (x:=.ref to) rfl (wpAny_bind (wpAny_setField_rec Z (by simp) fun g1 Z1 S1=>wpAny_bind ?_)))))
  replace Z1:IsZip g1 z ti to .ellipsis:=Z1
  simp only [List.zipIdx_cons,List.zipIdx_nil,List.forIn_cons,List.forIn_nil]
  refine wpAny_bind (wpAny_bind (wpAny_onRaise (wpAny_bind (m:=nextOf (.ref i1)) ?_)))
  have b1':=W1.mv _ _ _ b1 fun o=>S1.extBut _ o d3
  have c1':=W1.smv _ _ c1 fun o=>S1.extBut _ o e1
  cases ex:vs[k]? with
  | none =>
    refine W1.fin _ _ _ _ k _ _ hn b1' c1' ex fun g2 e S2 he=>?_
    obtain ⟨oe,hoe,hce⟩:=he
    have Z2:IsZip g2 z ti to .ellipsis:=S2 _ _ (Ne.symm d3) Z1
    have ne:e≠z:=fun y=>by subst y; rw [Z2] at hoe; cases hoe; simp at hce
    exact wpAny_setField_rec Z2 (by simp) fun g3 _ S3=>h g3 e (fun c o n1 _ n3 _ g=>S3.extBut _ _ n1 (S2 _ _ n3 (S1.extBut _ _ n1 g))) ⟨oe,S3.extBut _ _ ne hoe,hce⟩
  | some x =>
    have ey:us[k]? = none:=end'.resolve_left (by rw [ex]; exact fun z=>nomatch z)
    refine W1.item _ _ _ _ k x _ _ b1' c1' ex fun g2 b12 S2=>wpAny_pure ?_
    have TO2:IsPair g2 to p q:=S2.extBut _ _ d8 (S1.extBut _ _ d2 TO)
    refine wpAny_bind (wpAny_seqItems TO2 rfl (wpAny_bind (wpAny_updateSeq_pair TO2 fun g3 TO3 S3=>wpAny_bind (wpAny_letGo (wpAny_pure ?_)))))
    refine wpAny_bind (wpAny_bind (wpAny_onRaise (wpAny_bind (m:=nextOf (.ref i2)) ?_)))
    have k3:∀ c o,c≠z→c≠to→c≠i1→s.heap.get? c=some o→g3.get? c=some o:=fun c o n1 n2 n3 g=>S3.extBut _ _ n2 (S2.extBut _ _ n3 (S1.extBut _ _ n1 g))
    refine W2.fin _ _ _ _ k _ _ hn (W2.mv _ _ _ b2 fun o=>k3 _ o d4 (Ne.symm d9) (Ne.symm d10)) (W2.smv _ _ c2 fun o=>k3 _ o e5 e6 e7) ey fun g4 e S4 he=>?_
    obtain ⟨oe,hoe,hce⟩:=he
    have Z4:IsZip g4 z ti to .ellipsis:=S4 _ _ (Ne.symm d4) (S3.extBut _ _ (Ne.symm d2) (S2.extBut _ _ (Ne.symm d3) Z1))
    have ne:e≠z:=fun y=>by subst y; rw [Z4] at hoe; cases hoe; simp at hce
    exact wpAny_setField_rec Z4 (by simp) fun g5 _ S5=>h g5 e (fun c o n1 n2 n3 n4 g=>S5.extBut _ _ n1 (S4 _ _ n4 (k3 c o n1 n2 n3 g))) ⟨oe,S5.extBut _ _ ne hoe,hce⟩
end
end L2
namespace L2
open PySem PySem.Spec PyProof.Rows
section
variable {prog:Program} {w:World} {A:Around} {E:Value→Shared→Prop} {s:Shared}
end
theorem xaC {n a1 a2:Addr} (h1:a1 < n) (h2:a2 < n):ZA (n+4) (n+2) (n+3) n (n+1) a1 a2:=by
  have up:∀ (x k:Nat),x < n→x≠n+k:=fun x k h=>Nat.ne_of_lt (Nat.lt_of_lt_of_le h (Nat.le_add_right n k))
  have ad:∀ j k:Nat,j≠k→n+j≠n+k:=fun j k h e=>h (Nat.add_left_cancel e)
  have a0:∀ k:Nat,0≠k→n≠n+k:=fun k h e=>h (Nat.add_left_cancel (n:=n) (by simpa using e))
  exact ⟨⟨ad _ _ (by decide),ad _ _ (by decide),a0 _ (by decide),ad _ _ (by decide),ad _ _ (by decide),fun e=>a0 2 (by decide) e.symm,ad _ _ (by decide),fun e=>a0 3 (by decide) e.symm,ad _ _ (by decide),a0 _ (by decide)⟩,
    up _ _ h1,up _ _ h1,Nat.ne_of_lt h1,up _ _ h1,up _ _ h2,up _ _ h2,Nat.ne_of_lt h2,up _ _ h2⟩
def Sq2 (K:PySem.W.Frag) (b:Bool) (H:Hp) (a:Addr) (xs:List V):Prop:=if b=true then SqT K H a xs else SqL K H a xs
def tT (b:Bool) (a:Addr) (vs:List Value) (h:Heap):Prop:=if b=true then h.IsTuple a vs.toArray else h.IsList a vs.toArray
def Tn2 (b:Bool) (it a:Addr) (i:Nat) (h:Heap):Prop:=if b=true then h.IsTupleIter it a i else h.IsListIter it a i
theorem gK (b:Bool) (it a:Addr) (vs:List Value):Drw it a vs (Tn2 b it a) (tT b a vs):=by
  cases b with
  | true=>exact o9 it a vs
  | false=>exact pE it a vs
theorem Inv.sq2 {X:Cx} {pins:List (Addr × Obj)} {σ:St} {H:Hp} {s:Shared} {b:Bool} {a:Addr} {xs:List V} (I:Inv X pins σ H s) (h:Sq2 X.K b H a xs):∃ vs:List Value,y_ xs vs∧tT b a vs s.heap:=by
  cases b with
  | true=>obtain ⟨vs,r,p,_⟩:=I.tuple (show SqT X.K H a xs from h); exact ⟨vs,r,p⟩
  | false=>obtain ⟨vs,r,p,_⟩:=I.list (show SqL X.K H a xs from h); exact ⟨vs,r,p.isList⟩
section
variable {P:Program} {w:World} {K:PySem.W.Frag} {z ti to i1 i2 a1 a2:Addr} {b:Bool} {xs ys:List V}
end
section
variable {X:Cx}
end
end L2
namespace L2
open PySem PySem.Spec PyProof.Rows
theorem Inv.room {X:Cx} {pins:List (Addr × Obj)} {σ:St} {H:Hp} {s:Shared} (I:Inv X pins σ H s):sysModules < s.heap.objs.size:=by
  have h:mainGlobals < s.heap.objs.size:=(I.mod.glob.keeps I.bk).lt
  exact Nat.lt_trans (by decide) h
theorem mq {P:Program} {w:World} {H:Hp} (h:Heap) (hb:sysModules < h.objs.size):wC P w H (h.push { cls:=.type "dict", data:=.dict #[] }) h.objs.size (.dK []) :=
  ⟨Nat.zero_le _,beq_eq_false_iff_ne.mpr (Ne.symm (Nat.ne_of_lt hb)),[],.nil,Heap.DictOf.new h⟩
def xbq:TE:=fun _ H Q=>∀ p,H p=none→Q (.ref p) (upd H p (.dK []))
theorem lT {X:Cx} {pos:Pos}:PE X (.Dict [] [] pos) xbq:=fun pins s σ H Q I h =>
  wpAny_Dict_empty ⟨.ref s.heap.objs.size,_,I.laid (a:=s.heap.objs.size) (o:=.dK []) (t':=s.toks) (fun _ _ q=>Heap.get?_push_of_some _ q) (Nat.le_refl _) (mq s.heap I.room),rfl,h _ (I.hok.fresh (Nat.le_refl _))⟩
end L2
namespace L2
open PySem PySem.Spec PyProof.Rows
inductive Tr where
  | non | bl (b:Bool) | int (i:Int) | str (x:Str) | emp | tup (xs:List Tr) | lst (xs:List Tr)
mutual
def Rep (F:Addr→Prop) (H:Hp):Tr→V→Prop
  | .non,v=>v=.non
  | .bl b,v=>v=.bl b
  | .int i,v=>v=.int i
  | .str x,v=>v=.str x
  | .emp,v=>∃ a,v=.ref a∧¬ F a∧H a=some (.dK [])
  | .tup ts,v=>∃ a ws,v=.ref a∧¬ F a∧H a=some (.tup ws)∧zm F H ts ws
  | .lst ts,v=>∃ a ws,v=.ref a∧¬ F a∧H a=some (.lst ws)∧zm F H ts ws
def zm (F:Addr→Prop) (H:Hp):List Tr→List V→Prop
  | [],ws=>ws=[]
  | t::ts,ws=>∃ w r,ws=w::r∧Rep F H t w∧zm F H ts r
end
theorem z_ {F:Addr→Prop} {H:Hp}:∀ {ts:List Tr} {ws:List V},zm F H ts ws↔Paired (Rep F H) ts ws
  | [],ws=>by
    constructor
    · intro h; cases (show ws=[] from h); exact .nil
    · intro h; cases h; rfl
  | t::ts,ws=>by
    constructor
    · rintro ⟨w,r,rfl,h1,h2⟩; exact .cons h1 (z_.mp h2)
    · intro h
      cases h with
      | cons h1 h2=>exact ⟨_,_,rfl,h1,z_.mpr h2⟩
theorem zm.len {F:Addr→Prop} {H:Hp} {ts:List Tr} {ws:List V} (h:zm F H ts ws):ts.length=ws.length:=rZ (z_.mp h)
theorem zm.app {F:Addr→Prop} {H:Hp} {ts ts':List Tr} {ws ws':List V} (h:zm F H ts ws) (h':zm F H ts' ws'):zm F H (ts++ts') (ws++ws'):=z_.mpr (hW (z_.mp h) (z_.mp h'))
theorem zm.get {F:Addr→Prop} {H:Hp} {ts:List Tr} {ws:List V} {i:Nat} {w:V} (h:zm F H ts ws) (e:ws[i]? = some w):∃ t,ts[i]? = some t∧Rep F H t w:=j2 (z_.mp h) e
theorem zm.getT {F:Addr→Prop} {H:Hp}:∀ {ts:List Tr} {ws:List V} {i:Nat} {t:Tr},zm F H ts ws→ts[i]? = some t→∃ w,ws[i]? = some w∧Rep F H t w:=fun {ts ws i t} h e=>by
  have hl:=h.len
  have hi:i < ws.length:=by have:=(List.getElem?_eq_some_iff.mp e).1; omega
  obtain ⟨t',e',r⟩:=h.get (List.getElem?_eq_getElem hi)
  rw [e] at e'; cases e'
  exact ⟨_,List.getElem?_eq_getElem hi,r⟩
mutual
theorem yz {F F':Addr→Prop} {H H':Hp} (m:∀ a o,H a=some o→¬ F a→H' a=some o∧¬ F' a):∀ (t:Tr) (v:V),Rep F H t v→Rep F' H' t v
  | .non,v,h=>h
  | .bl b,v,h=>h
  | .int i,v,h=>h
  | .str x,v,h=>h
  | .emp,v,h=>by
    obtain ⟨a,e,n,k⟩:=h
    exact ⟨a,e,(m a _ k n).2,(m a _ k n).1⟩
  | .tup ts,v,h=>by
    obtain ⟨a,ws,e,n,k,r⟩:=h
    exact ⟨a,ws,e,(m a _ k n).2,(m a _ k n).1,yn m ts ws r⟩
  | .lst ts,v,h=>by
    obtain ⟨a,ws,e,n,k,r⟩:=h
    exact ⟨a,ws,e,(m a _ k n).2,(m a _ k n).1,yn m ts ws r⟩
theorem yn {F F':Addr→Prop} {H H':Hp} (m:∀ a o,H a=some o→¬ F a→H' a=some o∧¬ F' a):∀ (ts:List Tr) (ws:List V),zm F H ts ws→zm F' H' ts ws
  | [],ws,h=>h
  | t::ts,ws,h=>by
    obtain ⟨w,r,e,h1,h2⟩:=h
    exact ⟨w,r,e,yz m t w h1,yn m ts r h2⟩
end
def rT:Tr→Option V
  | .non=>some .non | .bl b=>some (.bl b) | .int i=>some (.int i) | .str x=>some (.str x) | _=>none
theorem uw {F:Addr→Prop} {H:Hp} {t:Tr} {v:V} (h:rT t=some v):Rep F H t v:=by
  cases t with
  | non=>cases h; rfl
  | bl b=>cases h; rfl
  | int i=>cases h; rfl
  | str x=>cases h; rfl
  | _=>cases h
inductive TV where
  | un | fz (t:Tr) | ow (ts:List Tr) | st | sc (ns:List Int) | ob (a:Addr)
abbrev TSt:=List TV
def nth:TSt→Nat→TV
  | [],_=>.un
  | x::_,0=>x
  | _::r,n+1=>nth r n
theorem qk:∀ {τ:TSt} {i:Nat} (h:i < τ.length),nth τ i=τ[i]
  | [],_,h=>absurd h (by simp)
  | _::_,0,_=>rfl
  | _::r,i+1,h=>qk (τ:=r) (by simpa using h)
theorem wo:∀ {τ:TSt} {i:Nat} (h:τ.length≤i),nth τ i=.un
  | [],_,_=>rfl
  | _::_,0,h=>absurd h (by simp)
  | _::r,i+1,h=>wo (τ:=r) (by simpa using h)
theorem zi:∀ {τ:TSt} {i:Nat} {x:TV} (h:i < τ.length),nth (τ.set i x) i=x
  | [],_,_,h=>absurd h (by simp)
  | _::_,0,_,_=>rfl
  | _::r,i+1,x,h=>zi (τ:=r) (by simpa using h)
theorem yQ:∀ {τ:TSt} {i j:Nat} {x:TV} (h:j≠i),nth (τ.set i x) j=nth τ j
  | [],_,_,_,_=>rfl
  | _::_,0,0,_,h=>absurd rfl h
  | _::_,0,_+1,_,_=>rfl
  | _::_,_+1,0,_,_=>rfl
  | _::r,i+1,j+1,x,h=>yQ (τ:=r) (fun e=>h (by rw [e]))
structure FB where
  F0:Addr→Prop
  S0:Addr→Prop
  H0:Hp
  G0:List (Tr × V)
abbrev Phi:=Nat→Option Addr
def Av (B:FB) (φ:Phi) (a:Addr):Prop:=B.F0 a∨∃ i,φ i=some a
def SA (B:FB) (φ:Phi) (τ:TSt) (a:Addr):Prop:=B.S0 a∨∃ i,φ i=some a∧nth τ i=.st
def Wk (B:FB) (φ:Phi) (τ:TSt) (a:Addr):Prop:=B.F0 a∨SA B φ τ a
def AvB:Bool→FB→Phi→TSt→Addr→Prop
  | true,B,φ,_=>Av B φ
  | false,B,φ,τ=>Wk B φ τ
def xce (K:PySem.W.Frag):Option (Addr × Str):=match K.lookup 4 with
  | none=>none
  | some _=>match PySem.W.nsIn K mainGlobals "law" with
    | some (some (.ref f))=>(match K.lookup f with
      | some ⟨_,_,.func fd,_⟩=>(match fd.code with
        | .ref c=>(match K.lookup c with
          | some ⟨_,_,.fields vs,_⟩=>(match vs.toList.getD 11 Value.none with
            | Value.ref P=>some (P, "law.<locals>.<lambda>")
            | _=>none)
          | _=>none)
        | _=>none)
      | _=>none)
    | _=>none
def pJ (K:PySem.W.Frag) (H:Hp):Prop:=∀ P q,xce K=some (P,q)→H P=some (.tb q)
theorem pJ.none {K:PySem.W.Frag} {H:Hp} (h:xce K=Option.none):pJ K H:=fun P q e=>by rw [h] at e; cases e
def cW (K:PySem.W.Frag) (H:Hp) (a:Addr) (ns:List Int):Prop:=((∃ o,H a=some (.frz o (.lst (ns.map V.int))))∨∀ H',SqL K H' a (ns.map V.int))∧pJ K H
def Ent (K:PySem.W.Frag) (B:FB) (φ:Phi) (H:Hp) (i:Nat) (o:Option (Option V)):TV→Prop
  | .un=>True
  | .fz t=>∃ v,o=some (some v)∧Rep (Av B φ) H t v
  | .ow ts=>∃ a ws,o=some (some (.ref a))∧φ i=some a∧B.H0 a=none∧H a=some (.lst ws)∧zm (Av B φ) H ts ws
  | .st=>∃ p,o=some (some (.ref p))∧φ i=some p∧(B.S0 p∨B.H0 p=none)
  | .sc ns=>∃ a,o=some (some (.ref a))∧ns.length≤63∧cW K H a ns
  | .ob a=>o=some (some (.ref a))
structure RS (K:PySem.W.Frag) (B:FB) (φ:Phi) (σ:St) (τ:TSt) (H:Hp):Prop where
  f0:∀ a,B.F0 a→B.H0 a≠none
  s0:∀ a,B.S0 a→B.F0 a
  ext:∀ a o,B.H0 a=some o→¬ B.S0 a→H a=some o
  sst:∀ a,SA B φ τ a→sT a H
  inj:∀ i j a ts,nth τ i=.ow ts→φ i=some a→φ j=some a→i=j
  ow:∀ i a,φ i=some a→H a≠none
  len:σ.length=τ.length
  ent:∀ i,Ent K B φ H i (σ[i]?) (nth τ i)
  gh:∀ p∈B.G0,Rep (Av B φ) H p.1 p.2
structure HX (B:FB) (φ:Phi) (τ:TSt) (H H':Hp):Prop where
  keep:∀ a o,H a=some o→¬ SA B φ τ a→H' a=some o
  st:∀ a,SA B φ τ a→sT a H'
section
variable {K:PySem.W.Frag} {B:FB} {φ:Phi} {σ:St} {τ:TSt} {H H' H'':Hp}
theorem sT.ne_none {p:Addr} (h:sT p H):H p≠none:=by
  obtain ⟨n,b,e,_⟩:=h
  rw [e]; exact fun z=>nomatch z
theorem RS.sAv (R:RS K B φ σ τ H) {a:Addr} (h:SA B φ τ a):Av B φ a:=by
  rcases h with h | ⟨i,h,_⟩
  · exact .inl (R.s0 a h)
  · exact .inr ⟨i,h⟩
theorem RS.wAv (R:RS K B φ σ τ H) {a:Addr} (h:Wk B φ τ a):Av B φ a:=by
  rcases h with h | h
  · exact .inl h
  · exact R.sAv h
theorem RS.sB (R:RS K B φ σ τ H) {b:Bool} {a:Addr} (h:SA B φ τ a):AvB b B φ τ a:=by
  cases b with
  | true=>exact R.sAv h
  | false=>exact .inr h
theorem RS.dom (R:RS K B φ σ τ H) {a:Addr} (h:Av B φ a):H a≠none:=by
  rcases h with h | ⟨i,h⟩
  · by_cases s:B.S0 a
    · exact (R.sst a (.inl s)).ne_none
    · cases e:B.H0 a with
      | none=>exact absurd e (R.f0 a h)
      | some o=>rw [R.ext a o e s]; exact fun z=>nomatch z
  · exact R.ow i a h
theorem RS.domB (R:RS K B φ σ τ H) {b:Bool} {a:Addr} (h:AvB b B φ τ a):H a≠none:=by
  cases b with
  | true=>exact R.dom h
  | false=>exact R.dom (R.wAv h)
theorem HX.refl (R:RS K B φ σ τ H):HX B φ τ H H:=⟨fun _ _ h _=>h,R.sst⟩
theorem HX.trans (h:HX B φ τ H H') (h':HX B φ τ H' H''):HX B φ τ H H'':=⟨fun a o e n=>h'.keep a o (h.keep a o e n) n,h'.st⟩
theorem HX.none (h:HX B φ τ H H') {a:Addr} (e:H' a=none):H a=none:=by
  cases q:H a with
  | none=>rfl
  | some o =>
    by_cases s:SA B φ τ a
    · exact absurd e (h.st a s).ne_none
    · rw [h.keep a o q s] at e; cases e
theorem HX.new (R:RS K B φ σ τ H) {p:Addr} (hp:H p=Option.none) (o:HO):HX B φ τ H (upd H p o) :=
  ⟨fun a u e _=>by rw [xY (xH e hp)]; exact e,fun a s=>by
    obtain ⟨n,b,e,z⟩:=R.sst a s
    exact ⟨n,b,by rw [xY (xH e hp)]; exact e,z⟩⟩
theorem HX.rep (h:HX B φ τ H H') {F:Addr→Prop} (hF:∀ a,SA B φ τ a→F a) {t:Tr} {v:V} (r:Rep F H t v):Rep F H' t v:=yz (fun a o e n=>⟨h.keep a o e (fun s=>n (hF a s)),n⟩) t v r
theorem HX.repL (h:HX B φ τ H H') {F:Addr→Prop} (hF:∀ a,SA B φ τ a→F a) {t:List Tr} {v:List V} (r:zm F H t v):zm F H' t v:=yn (fun a o e n=>⟨h.keep a o e (fun s=>n (hF a s)),n⟩) t v r
theorem gM (R:RS K B φ σ τ H) {a:Addr} {o:Obj} {u:HO} (e:H a=some (.frz o u)):¬ SA B φ τ a:=fun s=>by
  obtain ⟨n,b,q,_⟩:=R.sst a s
  rw [e] at q; cases q
theorem lb (R:RS K B φ σ τ H) {a:Addr} {q:Str} (e:H a=some (.tb q)):¬ SA B φ τ a:=fun s=>by
  obtain ⟨n,b,y,_⟩:=R.sst a s
  rw [e] at y; cases y
theorem pJ.hx (t:pJ K H) (R:RS K B φ σ τ H) (h:HX B φ τ H H'):pJ K H':=fun P q e=>h.keep P _ (t P q e) (lb R (t P q e))
theorem RS.hx (R:RS K B φ σ τ H) (h:HX B φ τ H H'):RS K B φ σ τ H' where
  f0:=R.f0
  s0:=R.s0
  ext:=fun a o e n=>by
    by_cases s:SA B φ τ a
    · have q:=R.ext a o e n
      rcases s with s | ⟨i,s,hi⟩
      · exact absurd s n
      · have en:=R.ent i
        rw [hi] at en
        obtain ⟨p,_,e2,e3⟩:=en
        rw [s] at e2; cases e2
        rcases e3 with z | z
        · exact absurd z n
        · rw [z] at e; cases e
    · exact h.keep a o (R.ext a o e n) s
  sst:=h.st
  inj:=R.inj
  ow:=fun i a e z=>R.ow i a e (h.none z)
  len:=R.len
  ent:=fun i=>by
    have en:=R.ent i
    revert en
    cases hi:nth τ i with
    | un=>exact fun _=>trivial
    | fz t=>exact fun ⟨v,e,r⟩=>⟨v,e,h.rep (fun a s=>R.sAv s) r⟩
    | ow ts =>
      intro ⟨a,ws,e1,e2,e3,e4,r⟩
      refine ⟨a,ws,e1,e2,e3,?_,h.repL (fun a s=>R.sAv s) r⟩
      by_cases s:SA B φ τ a
      · rcases s with s | ⟨j,s,hj⟩
        · exact absurd e3 (R.f0 a (R.s0 a s))
        · have:=R.inj i j a ts hi e2 s
          subst this
          rw [hi] at hj; cases hj
      · exact h.keep a _ e4 s
    | st=>exact fun z=>z
    | ob a=>exact fun z=>z
    | sc ns =>
      intro ⟨a,e,l,q,tb⟩
      refine ⟨a,e,l,?_,tb.hx R h⟩
      rcases q with ⟨o,q⟩ | q
      · exact .inl ⟨o,h.keep a _ q (gM R q)⟩
      · exact .inr q
  gh:=fun p hp=>h.rep (fun a s=>R.sAv s) (R.gh p hp)
end
end L2
namespace L2
open PySem PySem.Spec PyProof.Rows
abbrev DE:=TSt→(Tr→Prop)→Prop
abbrev DT:=TSt→(Bool→Prop)→Prop
abbrev DA:=TSt→(List Tr→Prop)→Prop
structure k_ where
  nx:TSt→Prop
  rt:Tr→Prop
  bk:TSt→Prop:=fun _=>False
  ct:TSt→Prop:=fun _=>False
abbrev DS:=k_→TSt→Prop
abbrev DG:=Tr→TSt→(TSt→Prop)→Prop
abbrev DGs:=List Tr→TSt→(TSt→Prop)→Prop
def OkE (K:PySem.W.Frag) (b:Bool) (te:TE) (d:DE):Prop:=∀ (B:FB) (φ:Phi) (σ:St) (τ:TSt) (H:Hp) (Q:VK) (KK:Tr→Prop),RS K B φ σ τ H→d τ KK →
  (∀ t v H',HX B φ τ H H'→KK t→Rep (AvB b B φ τ) H' t v→Q v H')→te σ H Q
def OkF (K:PySem.W.Frag) (te:TE) (d:DE):Prop:=∀ (B:FB) (φ:Phi) (σ:St) (τ:TSt) (H:Hp) (Q:VK) (KK:Tr→Prop),RS K B φ σ τ H→d τ KK →
  (∀ ts a ws H',HX B φ τ H H'→KK (.lst ts)→H a=none→H' a=some (.lst ws)→zm (fun c=>Av B φ c∨c=a) H' ts ws→Q (.ref a) H')→te σ H Q
def OkT (K:PySem.W.Frag) (t:TT) (d:DT):Prop:=∀ (B:FB) (φ:Phi) (σ:St) (τ:TSt) (H:Hp) (Q:Bool→Hp→Prop) (KK:Bool→Prop),RS K B φ σ τ H→d τ KK →
  (∀ b H',HX B φ τ H H'→KK b→Q b H')→t σ H Q
def OkA (K:PySem.W.Frag) (b:Bool) (n:Nat) (ta:TA) (d:DA):Prop:=∀ (B:FB) (φ:Phi) (σ:St) (τ:TSt) (H:Hp) (Q:List V→Hp→Prop) (KK:List Tr→Prop),RS K B φ σ τ H→d τ KK →
  (∀ ts vs H',HX B φ τ H H'→KK ts→ts.length=n→zm (AvB b B φ τ) H' ts vs→Q vs H')→ta σ H Q
def HXA (B:FB) (φ:Phi) (H H':Hp):Prop:=∀ a o,H a=some o→¬ Av B φ a→H' a=some o
def OkG (K:PySem.W.Frag) (g:TG) (d:DG):Prop:=∀ (B:FB) (φ:Phi) (σ:St) (τ:TSt) (H:Hp) (t:Tr) (v:V) (Q:St→Hp→Prop) (KK:TSt→Prop),RS K B φ σ τ H→Rep (Av B φ) H t v→d t τ KK →
  (∀ φ' σ' τ' H',RS K B φ' σ' τ' H'→(∀ a,Av B φ' a→Av B φ a)→HXA B φ H H'→KK τ'→Q σ' H')→g v σ H Q
def FrL (F:Addr→Prop) (H H':Hp) (t:Tr) (v:V):Prop:=∃ a ts ws,v=.ref a∧t=.lst ts∧H a=none∧H' a=some (.lst ws)∧zm (fun c=>F c∨c=a) H' ts ws
structure pP (B:FB) (H:Hp):Prop where
  ext:∀ a o,B.H0 a=some o→¬ B.S0 a→H a=some o
  st:∀ a,B.S0 a→sT a H
structure EOk (K:PySem.W.Frag) (B:FB) (fr:Bool) (E:Ends) (G:k_):Prop where
  nx:∀ φ σ τ H,RS K B φ σ τ H→G.nx τ→E.nx σ H
  bk:∀ φ σ τ H,RS K B φ σ τ H→G.bk τ→E.bk σ H
  ct:∀ φ σ τ H,RS K B φ σ τ H→G.ct τ→E.ct σ H
  rt:∀ t v H,Rep B.F0 H t v→pP B H→G.rt t→(fr=true→FrL B.F0 B.H0 H t v)→E.rt v H
def OkS (K:PySem.W.Frag) (fr:Bool) (T:TS) (D:DS):Prop:=∀ (B:FB) (φ:Phi) (σ:St) (τ:TSt) (H:Hp) (E:Ends) (G:k_),RS K B φ σ τ H→D G τ→EOk K B fr E G→T E σ H
section
variable {K:PySem.W.Frag} {B:FB} {φ:Phi} {σ:St} {τ:TSt} {H H' H'':Hp}
theorem RS.extB (R:RS K B φ σ τ H):pP B H:=⟨R.ext,fun a s=>R.sst a (.inl s)⟩
theorem xcF {b:Bool} {t:Tr} {v:V} (R:RS K B φ σ τ H) (h:Rep (AvB b B φ τ) H' t v):Rep (Wk B φ τ) H' t v:=by
  cases b with
  | true=>exact yz (fun a o e n=>⟨e,fun w=>n (R.wAv w)⟩) t v h
  | false=>exact h
theorem xcn {b:Bool} {t:List Tr} {v:List V} (R:RS K B φ σ τ H) (h:zm (AvB b B φ τ) H' t v):zm (Wk B φ τ) H' t v:=by
  cases b with
  | true=>exact yn (fun a o e n=>⟨e,fun w=>n (R.wAv w)⟩) t v h
  | false=>exact h
theorem OkF.e {te:TE} {d:DE} (h:OkF K te d):OkE K true te d:=fun B φ σ τ H Q KK R hd q=>h B φ σ τ H Q KK R hd fun ts a ws H' x k e e' r=>q _ _ H' x k ⟨a,ws,rfl,fun z=>R.dom z e,e',yn (fun c o e n=>⟨e,fun z=>n (.inl z)⟩) _ _ r⟩
def xbl (i:Nat):DE:=fun τ KK=>match nth τ i with | .fz t=>KK t | _=>False
def xbi (i:Nat):DE:=fun τ KK=>match nth τ i with | .fz t=>KK t | .ow ts=>KK (.lst ts) | _=>False
def dC (t:Tr):DE:=fun _ KK=>KK t
theorem xf {i:Nat}:OkE K true (sM i) (xbl i):=fun B φ σ τ H Q KK R hd q=>by
  have en:=R.ent i
  unfold xbl at hd
  revert en hd
  cases nth τ i with
  | fz t=>exact fun k ⟨v,e,r⟩=>⟨v,e,q t v H (HX.refl R) k r⟩
  | _=>exact fun z _=>z.elim
theorem ax (R:RS K B φ σ τ H) {i:Nat} {a:Addr} {ts:List Tr} (hi:nth τ i=.ow ts) (e2:φ i=some a) (e3:B.H0 a=none):¬ Wk B φ τ a:=fun z=>by
  rcases z with z | z | ⟨j,z,hj⟩
  · exact R.f0 a z e3
  · exact R.f0 a (R.s0 a z) e3
  · have:=R.inj i j a ts hi e2 z
    subst this
    rw [hi] at hj; cases hj
theorem md {i:Nat}:OkE K false (sM i) (xbi i):=fun B φ σ τ H Q KK R hd q=>by
  have en:=R.ent i
  unfold xbi at hd
  revert en hd
  cases hi:nth τ i with
  | fz t=>exact fun k ⟨v,e,r⟩=>⟨v,e,q t v H (HX.refl R) k (xcF (b:=true) R r)⟩
  | ow ts =>
    intro k ⟨a,ws,e1,e2,e3,e4,r⟩
    exact ⟨_,e1,q _ _ H (HX.refl R) k ⟨a,ws,rfl,ax R hi e2 e3,e4,xcn (b:=true) R r⟩⟩
  | _=>exact fun z _=>z.elim
theorem xB {t:Tr} {v:V} (h:rT t=some v:=by rfl):OkE K true (tC v) (dC t):=fun B φ σ τ H Q KK R hd q=>q t v H (HX.refl R) hd (uw h)
def d2 (f:Tr→Tr→(Tr→Prop)→Prop) (da db:DE):DE:=fun τ KK=>da τ fun x=>db τ fun y=>f x y KK
def OpS (r:R2) (f:Tr→Tr→(Tr→Prop)→Prop):Prop:=∀ (F G:Addr→Prop) (H:Hp) (x y:V) (t u:Tr) (KK:Tr→Prop) (Q:VK),Rep F H t x→Rep G H u y→f t u KK→(∀ w v,rT w=some v→KK w→Q v H)→r x y H Q
theorem xm {b c:Bool} {r:R2} {f:Tr→Tr→(Tr→Prop)→Prop} {ta tb:TE} {da db:DE} (hr:OpS r f) (ha:OkE K b ta da) (hb:OkE K c tb db):OkE K true (tOp r ta tb) (d2 f da db):=fun B φ σ τ H Q KK R hd q =>
  ha B φ σ τ H _ _ R hd fun t v H1 x1 k1 r1=>hb B φ σ τ H1 _ _ (R.hx x1) k1 fun u w H2 x2 k2 r2 =>
    hr _ _ H2 v w t u KK Q (x2.rep (fun a s=>R.sB s) r1) r2 k2 fun z v' e k=>q z v' H2 (x1.trans x2) k (uw e)
def fI (C:Int→Int→Prop) (g:Int→Int→Tr) (x y:Tr) (KK:Tr→Prop):Prop:=match x,y with | .int i,.int j=>C i j∧KK (g i j) | _,_=>False
def fI0 (g:Int→Int→Tr) (x y:Tr) (KK:Tr→Prop):Prop:=match x,y with | .int i,.int j=>KK (g i j) | _,_=>False
theorem oU {C:Int→Int→Prop} {g:Int→Int→V} {g':Int→Int→Tr} (h:∀ i j,rT (g' i j)=some (g i j)):OpS (rI C g) (fI C g'):=by
  intro F G H x y t u KK Q r1 r2 hf q
  unfold fI at hf
  split at hf
  · rename_i i j
    cases (show x=.int i from r1); cases (show y=.int j from r2)
    exact ⟨i,j,rfl,rfl,hf.1,q _ _ (h i j) hf.2⟩
  · exact hf.elim
theorem dU {g:Int→Int→V} {g':Int→Int→Tr} (h:∀ i j,rT (g' i j)=some (g i j)):OpS (rI0 g) (fI0 g'):=by
  intro F G H x y t u KK Q r1 r2 hf q
  unfold fI0 at hf
  split at hf
  · rename_i i j
    cases (show x=.int i from r1); cases (show y=.int j from r2)
    exact ⟨i,j,rfl,rfl,q _ _ (h i j) hf⟩
  · exact hf.elim
abbrev xdj:=fI0 fun i j=>.int (i+j)
abbrev xdt:=fI0 fun i j=>.int (i-j)
abbrev fLe:=fI0 fun i j=>.bl (decide (i≤j))
abbrev fGt:=fI0 fun i j=>.bl (decide (j < i))
abbrev fGe:=fI0 fun i j=>.bl (decide (j≤i))
theorem wK:OpS (rI0 fun i j=>.int (i+j)) xdj:=dU fun _ _=>rfl
theorem zK:OpS (rI0 fun i j=>.int (i-j)) xdt:=dU fun _ _=>rfl
theorem sL:OpS (rI0 fun i j=>.bl (decide (i≤j))) fLe:=dU fun _ _=>rfl
theorem c9:OpS (rI0 fun i j=>.bl (decide (j < i))) fGt:=dU fun _ _=>rfl
theorem xa8:OpS (rI0 fun i j=>.bl (decide (j≤i))) fGe:=dU fun _ _=>rfl
def Bd (i:Int):Prop:=i.natAbs < 2 ^ 2000
theorem lW {i:Int} (h1:-(10 ^ 100)≤i) (h2:i≤10 ^ 100):Bd i:=by
  have:i.natAbs≤10 ^ 100:=by omega
  exact Nat.lt_of_le_of_lt this (by decide +kernel)
theorem log2_lt_of {n k:Nat} (h:n < 2 ^ k) (hk:0 < k):n.log2 < k:=by
  by_cases h0:n=0
  · subst h0; simpa using hk
  · exact (Nat.log2_lt h0).mpr h
theorem Bd.bits {i:Int} (h:Bd i):Builtin.Int.intBits i≤2000:=by
  unfold Builtin.Int.intBits
  split
  · exact Nat.zero_le _
  · have:=log2_lt_of h (by decide)
    omega
def CM (i j:Int):Prop:=Bd i∧Bd j
theorem CM.ok {i j:Int} (h:CM i j):IntMulOk i j:=PyProof.Rows.mulOk_of_bits h.1.bits h.2.bits (by decide)
section
variable {X:Cx}
theorem ya:OpR X (binaryOp .Mult) (rI CM fun i j=>.int (i*j)):=opI fun _ _ _ _ _ _ _ hc q=>mul_int q hc.ok
def CDv (_i j:Int):Prop:=j≠0∧Bd j
theorem wq:OpR X (binaryOp .FloorDiv) (rI CDv fun i j=>.int (i.fdiv j)):=opI fun i j _ _ _ _ _ hc q =>
  floordiv_int hc.1 q (.inl (PyProof.noPylong_of_log2 (Nat.lt_trans (log2_lt_of hc.2 (by decide)) (by decide))))
end
abbrev xdx:=fI CM fun i j=>.int (i*j)
abbrev xdl:=fI CDv fun i j=>.int (i.fdiv j)
abbrev xds:=fI (fun _ j=>j≠0) fun i j=>.int (i.fmod j)
theorem yl:OpS (rI CM fun i j=>.int (i*j)) xdx:=oU fun _ _=>rfl
theorem uP:OpS (rI CDv fun i j=>.int (i.fdiv j)) xdl:=oU fun _ _=>rfl
theorem oC:OpS (rI (fun _ j=>j≠0) fun i j=>.int (i.fmod j)) xds:=oU fun _ _=>rfl
def d1 (f:Tr→(Tr→Prop)→Prop) (da:DE):DE:=fun τ KK=>da τ fun x=>f x KK
def xdn (x:Tr) (KK:Tr→Prop):Prop:=match x with | .int i=>KK (.int (-i)) | _=>False
theorem zG {b:Bool} {ta:TE} {da:DE} (ha:OkE K b ta da):OkE K true (tUn (rU fun i=>.int (-i)) ta) (d1 xdn da):=fun B φ σ τ H Q KK R hd q =>
  ha B φ σ τ H _ _ R hd fun t v H1 x1 k1 r1=>by
    cases t with
    | int i=>cases (show v=.int i from r1); exact ⟨i,rfl,q _ _ H1 x1 k1 rfl⟩
    | _=>exact k1.elim
def xaB:Tr→Bool
  | .non=>true
  | _=>false
theorem nL {F:Addr→Prop} {t:Tr} {v:V} (r:Rep F H t v):decide (v=.non)=xaB t:=by
  cases t with
  | non=>cases (show v=.non from r); rfl
  | bl b=>cases (show v=.bl b from r); rfl
  | int b=>cases (show v=.int b from r); rfl
  | str b=>cases (show v=.str b from r); rfl
  | emp=>obtain ⟨a,e,_⟩:=r; subst e; rfl
  | tup ts=>obtain ⟨a,ws,e,_⟩:=r; subst e; rfl
  | lst ts=>obtain ⟨a,ws,e,_⟩:=r; subst e; rfl
theorem mI {b:Bool} {ta:TE} {da:DE} (ha:OkE K b ta da):OkE K true (xcH ta) (d1 (fun x KK=>KK (.bl (xaB x))) da):=fun B φ σ τ H Q KK R hd q =>
  ha B φ σ τ H _ _ R hd fun t v H1 x1 k1 r1=>by
    show Q (.bl (decide (v=.non))) H1
    rw [nL r1]; exact q _ _ H1 x1 k1 rfl
def fB (x:Tr) (KK:Bool→Prop):Prop:=match x with | .bl b=>KK b | _=>False
def xcM (d:DE):DT:=fun τ KK=>d τ fun x=>fB x KK
theorem yw {b:Bool} {ta:TE} {da:DE} (ha:OkE K b ta da):OkT K (tB ta) (xcM da):=fun B φ σ τ H Q KK R hd q =>
  ha B φ σ τ H _ _ R hd fun t v H1 x1 k1 r1=>by
    cases t with
    | bl i=>cases (show v=.bl i from r1); exact ⟨i,rfl,q _ H1 x1 k1⟩
    | _=>exact k1.elim
theorem xE {b:Bool} {ta:TE} {da:DE} (ha:OkE K b ta da):OkT K (lg ta) (xcM da):=yw ha
def xdo (a b:DT):DT:=fun τ KK=>a τ fun c=>if c=true then b τ KK else KK false
def dOr (a b:DT):DT:=fun τ KK=>a τ fun c=>if c=true then KK true else b τ KK
def xdd (a:DT):DT:=fun τ KK=>a τ fun c=>KK (!c)
theorem qQ {ta tb:TT} {da db:DT} (ha:OkT K ta da) (hb:OkT K tb db):OkT K (xcD ta tb) (xdo da db):=fun B φ σ τ H Q KK R hd q =>
  ha B φ σ τ H _ _ R hd fun c H1 x1 k1=>by
    cases c with
    | true=>exact tW (hb B φ σ τ H1 _ _ (R.hx x1) k1 fun d H2 x2 k2=>q d H2 (x1.trans x2) k2)
    | false=>exact aC (q false H1 x1 k1)
theorem yx {ta tb:TT} {da db:DT} (ha:OkT K ta da) (hb:OkT K tb db):OkT K (tOr ta tb) (dOr da db):=fun B φ σ τ H Q KK R hd q =>
  ha B φ σ τ H _ _ R hd fun c H1 x1 k1=>by
    cases c with
    | false=>exact aC (hb B φ σ τ H1 _ _ (R.hx x1) k1 fun d H2 x2 k2=>q d H2 (x1.trans x2) k2)
    | true=>exact tW (q true H1 x1 k1)
theorem yi {ta:TT} {da:DT} (ha:OkT K ta da):OkT K (xcB ta) (xdd da):=fun B φ σ τ H Q KK R hd q =>
  ha B φ σ τ H _ _ R hd fun c H1 x1 k1=>q (!c) H1 x1 k1
def xbL (a b:DE):DE:=fun τ KK=>a τ fun x=>fB x fun c=>if c=true then b τ KK else KK (.bl false)
def xdr (a b:DE):DE:=fun τ KK=>a τ fun x=>fB x fun c=>if c=true then KK (.bl true) else b τ KK
def xb8 (a:DE):DE:=fun τ KK=>a τ fun x=>fB x fun c=>KK (.bl (!c))
theorem ug {b c:Bool} {ta tb:TE} {da db:DE} (ha:OkE K b ta da) (hb:OkE K c tb db):OkE K c (xan ta tb) (xbL da db):=fun B φ σ τ H Q KK R hd q =>
  ha B φ σ τ H _ _ R hd fun t v H1 x1 k1 r1=>by
    cases t with
    | bl i =>
      cases (show v=.bl i from r1)
      refine ⟨i,rfl,?_⟩
      cases i with
      | true=>exact tW (hb B φ σ τ H1 _ _ (R.hx x1) k1 fun d w H2 x2 k2 r2=>q d w H2 (x1.trans x2) k2 r2)
      | false=>exact aC (q _ _ H1 x1 k1 (uw rfl))
    | _=>exact k1.elim
theorem om {b c:Bool} {ta tb:TE} {da db:DE} (ha:OkE K b ta da) (hb:OkE K c tb db):OkE K c (xc0 ta tb) (xdr da db):=fun B φ σ τ H Q KK R hd q =>
  ha B φ σ τ H _ _ R hd fun t v H1 x1 k1 r1=>by
    cases t with
    | bl i =>
      cases (show v=.bl i from r1)
      refine ⟨i,rfl,?_⟩
      cases i with
      | false=>exact aC (hb B φ σ τ H1 _ _ (R.hx x1) k1 fun d w H2 x2 k2 r2=>q d w H2 (x1.trans x2) k2 r2)
      | true=>exact tW (q _ _ H1 x1 k1 (uw rfl))
    | _=>exact k1.elim
theorem nN {b:Bool} {ta:TE} {da:DE} (ha:OkE K b ta da):OkE K true (xbp ta) (xb8 da):=fun B φ σ τ H Q KK R hd q =>
  ha B φ σ τ H _ _ R hd fun t v H1 x1 k1 r1=>by
    cases t with
    | bl i=>cases (show v=.bl i from r1); exact ⟨i,rfl,q _ _ H1 x1 k1 rfl⟩
    | _=>exact k1.elim
def xbn (f f':Tr→Tr→(Tr→Prop)→Prop) (da db dc:DE):DE:=fun τ KK=>da τ fun x=>db τ fun y=>f x y fun z=>fB z fun k=>if k=true then dc τ fun w=>f' y w KK else KK (.bl false)
theorem cT {b1 b2 b3:Bool} {r r':R2} {f f':Tr→Tr→(Tr→Prop)→Prop} {ta tb tc:TE} {da db dc:DE} (hr:OpS r f) (hr':OpS r' f') (ha:OkE K b1 ta da) (hb:OkE K b2 tb db) (hc:OkE K b3 tc dc) :
    OkE K true (oz r r' ta tb tc) (xbn f f' da db dc):=fun B φ σ τ H Q KK R hd q =>
  ha B φ σ τ H _ _ R hd fun t v H1 x1 k1 r1=>hb B φ σ τ H1 _ _ (R.hx x1) k1 fun u w H2 x2 k2 r2 =>
    hr _ _ H2 v w t u _ _ (x2.rep (fun a s=>R.sB s) r1) r2 k2 fun z v' e k=>by
      cases z with
      | bl i =>
        cases e
        refine ⟨i,rfl,?_⟩
        cases i with
        | true=>exact tW (hc B φ σ τ H2 _ _ (R.hx (x1.trans x2)) k fun w3 v3 H3 x3 k3 r3=>hr' _ _ H3 w v3 u w3 KK Q (x3.rep (fun a s=>R.sB s) r2) r3 k3 fun z' v'' e' k'=>q z' v'' H3 ((x1.trans x2).trans x3) k' (uw e'))
        | false=>exact aC (q _ _ H2 (x1.trans x2) k (uw rfl))
      | _=>exact k.elim
def xas:DA:=fun _ KK=>KK []
def bW (a:DE) (r:DA):DA:=fun τ KK=>a τ fun x=>r τ fun xs=>KK (x::xs)
theorem xg {b:Bool}:OkA K b 0 lX xas:=fun B φ σ τ H Q KK R hd q=>q [] [] H (HX.refl R) hd rfl rfl
theorem xa {b:Bool} {n:Nat} {te:TE} {ta:TA} {de:DE} {da:DA} (he:OkE K b te de) (ha:OkA K b n ta da):OkA K b (n+1) (jh te ta) (bW de da):=fun B φ σ τ H Q KK R hd q =>
  he B φ σ τ H _ _ R hd fun t v H1 x1 k1 r1=>ha B φ σ τ H1 _ _ (R.hx x1) k1 fun ts vs H2 x2 k2 l2 r2=>q (t::ts) (v::vs) H2 (x1.trans x2) k2 (by rw [List.length_cons,l2]) ⟨v,vs,rfl,x2.rep (fun a s=>R.sB s) r1,r2⟩
def xdk (a:DA):DE:=fun τ KK=>a τ fun xs=>KK (.tup xs)
def xbF (a:DA):DE:=fun τ KK=>a τ fun xs=>KK (.lst xs)
theorem fq {F:Addr→Prop} {p:Addr} {o:HO} {t:Tr} {v:V} (hp:H p=none) (r:Rep F H t v):Rep F (upd H p o) t v:=yz (fun a u e n=>⟨by rw [xY (xH e hp)]; exact e,n⟩) t v r
theorem zJ {F:Addr→Prop} {p:Addr} {o:HO} {t:List Tr} {v:List V} (hp:H p=none) (r:zm F H t v):zm F (upd H p o) t v:=yn (fun a u e n=>⟨by rw [xY (xH e hp)]; exact e,n⟩) t v r
theorem uj {F:Addr→Prop} {p:Addr} {o:HO} {t:List Tr} {v:List V} (hp:H p=none) (r:zm F H t v):zm (fun c=>F c∨c=p) (upd H p o) t v:=yn (fun a u e n=>⟨by rw [xY (xH e hp)]; exact e,fun z=>z.elim n (xH e hp)⟩) t v r
theorem xM {b:Bool} {n:Nat} {ta:TA} {da:DA} (ha:OkA K b n ta da) (hn:n≤sizeLine:=by decide):OkE K b (xcY ta) (xdk da):=fun B φ σ τ H Q KK R hd q =>
  ha B φ σ τ H _ _ R hd fun ts vs H1 x1 k1 l1 r1=>⟨by rw [← r1.len,l1]; exact hn,fun p hp =>
    q _ _ _ (x1.trans (HX.new (R.hx x1) hp _)) k1 ⟨p,vs,rfl,fun z=>(R.hx x1).domB z hp,x_,zJ hp r1⟩⟩
theorem gk {n:Nat} {ta:TA} {da:DA} (ha:OkA K true n ta da) (hn:n≤sizeLine:=by decide):OkF K (xbU ta) (xbF da):=fun B φ σ τ H Q KK R hd q =>
  ha B φ σ τ H _ _ R hd fun ts vs H1 x1 k1 l1 r1=>⟨by rw [← r1.len,l1]; exact hn,fun p hp =>
    q ts p vs _ (x1.trans (HX.new (R.hx x1) hp _)) k1 (x1.none hp) x_ (uj hp r1)⟩
theorem zR {b:Bool} {n:Nat} {ta:TA} {da:DA} (ha:OkA K b n ta da) (hn:n≤sizeLine:=by decide):OkE K b (xbU ta) (xbF da):=fun B φ σ τ H Q KK R hd q =>
  ha B φ σ τ H _ _ R hd fun ts vs H1 x1 k1 l1 r1=>⟨by rw [← r1.len,l1]; exact hn,fun p hp =>
    q _ _ _ (x1.trans (HX.new (R.hx x1) hp _)) k1 ⟨p,vs,rfl,fun z=>(R.hx x1).domB z hp,x_,zJ hp r1⟩⟩
end
end L2
namespace L2
open PySem PySem.Spec PyProof.Rows
def getT {α:Type}:List α→Nat→Option α
  | [],_=>none
  | x::_,0=>some x
  | _::r,n+1=>getT r n
theorem ft {α:Type}:∀ (l:List α) (n:Nat),getT l n=l[n]?
  | [],_=>by simp [getT]
  | _::_,0=>by simp [getT]
  | _::r,n+1=>by simp [getT,ft r n]
def atT {α:Type} (ts:List α):Int→Option α
  | .ofNat n=>getT ts n
  | .negSucc n=>if n < ts.length then getT ts (ts.length-1-n) else none
theorem pN {α:Type} (ts:List α) (i:Int):atT ts i=atI ts i:=by
  unfold atI ixN
  cases i with
  | ofNat n =>
    show getT ts n=_
    rw [ft]
    have h0:(0:Int)≤Int.ofNat n:=Int.natCast_nonneg n
    rw [if_pos h0]
    by_cases h:(Int.ofNat n) < (ts.length:Int)
    · rw [if_pos h]; rfl
    · rw [if_neg h]
      have:ts.length≤n:=by
        have h':¬ ((n:Int) < (ts.length:Int)):=h
        omega
      rw [List.getElem?_eq_none this]; rfl
  | negSucc n =>
    show (if n < ts.length then getT ts (ts.length-1-n) else none)=_
    have h0:¬ (0:Int)≤Int.negSucc n:=by omega
    rw [if_neg h0]
    by_cases h:n < ts.length
    · rw [if_pos h,ft,if_pos (by omega)]
      show ts[ts.length-1-n]? = ts[(Int.negSucc n+(ts.length:Int)).toNat]?
      congr 1
      omega
    · rw [if_neg h,if_neg (by omega)]; rfl
section
variable {K:PySem.W.Frag} {B:FB} {φ:Phi} {σ:St} {τ:TSt} {H H' H'':Hp}
theorem zm.at {F:Addr→Prop} {ts:List Tr} {ws:List V} {i:Int} {t:Tr} (r:zm F H ts ws) (h:atT ts i=some t):∃ w,atI ws i=some w∧Rep F H t w:=by
  rw [pN] at h
  unfold atI at h ⊢
  rw [← r.len]
  cases e:ixN ts.length i with
  | none=>rw [e] at h; cases h
  | some j =>
    rw [e] at h
    exact r.getT h
def aj (o:Option Tr) (KK:Tr→Prop):Prop:=match o with | some t=>KK t | none=>False
def fIx (x y:Tr) (KK:Tr→Prop):Prop:=match x,y with | .tup ts,.int i=>aj (atT ts i) KK | .lst ts,.int i=>aj (atT ts i) KK | _,_=>False
theorem xU {b c:Bool} {ta tb:TE} {da db:DE} (ha:OkE K b ta da) (hb:OkE K c tb db):OkE K b (tOp (rIx K) ta tb) (d2 fIx da db):=fun B φ σ τ H Q KK R hd q =>
  ha B φ σ τ H _ _ R hd fun t v H1 x1 k1 r1=>hb B φ σ τ H1 _ _ (R.hx x1) k1 fun u w H2 x2 k2 r2=>by
    have r1':=x2.rep (fun a s=>R.sB s) r1
    unfold fIx at k2
    split at k2
    · rename_i ts i
      obtain ⟨a,ws,e,n,ha',rl⟩:=r1'
      cases (show w=.int i from r2)
      subst e
      cases e:atT ts i with
      | none=>rw [e] at k2; exact k2.elim
      | some z =>
        rw [e] at k2
        obtain ⟨y,e1,e2⟩:=rl.at e
        exact .inr (.inl ⟨a,ws,i,y,rfl,rfl,SqT.of ha',e1,q z y H2 (x1.trans x2) k2 e2⟩)
    · rename_i ts i
      obtain ⟨a,ws,e,n,ha',rl⟩:=r1'
      cases (show w=.int i from r2)
      subst e
      cases e:atT ts i with
      | none=>rw [e] at k2; exact k2.elim
      | some z =>
        rw [e] at k2
        obtain ⟨y,e1,e2⟩:=rl.at e
        exact .inl ⟨a,ws,i,y,rfl,rfl,SqL.of ha',e1,q z y H2 (x1.trans x2) k2 e2⟩
    · exact k2.elim
def xdh (ts:List Tr) (y:Tr) (KK:Tr→Prop):Prop:=match y with | .int k=>aj (atT ts k) KK | _=>False
def xcC (i:Nat) (db:DE):DE:=fun τ KK=>match nth τ i with | .ow ts=>db τ fun y=>xdh ts y KK | _=>False
theorem kU {i:Nat} {a:Addr} {ts:List Tr} (R:RS K B φ σ τ H) (x:HX B φ τ H H') (hi:nth τ i=.ow ts) (e1:σ[i]? = some (some (.ref a))):∃ ws,H' a=some (.lst ws)∧zm (Av B φ) H' ts ws∧φ i=some a∧B.H0 a=none:=by
  have en2:=(R.hx x).ent i
  rw [hi] at en2
  obtain ⟨a',ws',e1',e2,e3,e4',r'⟩:=en2
  rw [e1] at e1'; cases e1'
  exact ⟨ws',e4',r',e2,e3⟩
theorem az {c:Bool} {i:Nat} {tb:TE} {db:DE} (hb:OkE K c tb db):OkE K true (tOp (rIx K) (sM i) tb) (xcC i db):=fun B φ σ τ H Q KK R hd q=>by
  have en:=R.ent i
  unfold xcC at hd
  revert en hd
  cases hi:nth τ i with
  | ow ts =>
    intro hd ⟨a,ws,e1,e2,e3,e4,r⟩
    refine ⟨_,e1,hb B φ σ τ H _ _ R hd fun u w H2 x2 k2 r2=>?_⟩
    obtain ⟨ws',e4',r',_⟩:=kU R x2 hi e1
    cases u with
    | int k =>
      cases (show w=.int k from r2)
      have k2:aj (atT ts k) KK:=k2
      cases e:atT ts k with
      | none=>rw [e] at k2; exact k2.elim
      | some z =>
        rw [e] at k2
        obtain ⟨y,f1,f2⟩:=r'.at e
        exact .inl ⟨a,ws',k,y,rfl,rfl,SqL.of e4',f1,q z y H2 x2 k2 f2⟩
    | _=>exact k2.elim
  | _=>exact fun z _=>z.elim
abbrev DO:=TSt→(Option Int→Prop)→Prop
def OkO (K:PySem.W.Frag) (t:TO) (d:DO):Prop:=∀ (B:FB) (φ:Phi) (σ:St) (τ:TSt) (H:Hp) (Q:Option Int→Hp→Prop) (KK:Option Int→Prop),RS K B φ σ τ H→d τ KK→(∀ o H',HX B φ τ H H'→KK o→Q o H')→t σ H Q
def oZ:DO:=fun _ KK=>KK none
def xbS (d:DE):DO:=fun τ KK=>d τ fun x=>match x with | .int i=>KK (some i) | _=>False
theorem uL:OkO K ng oZ:=fun B φ σ τ H Q KK R hd q=>q none H (HX.refl R) hd
theorem uy {b:Bool} {te:TE} {d:DE} (h:OkE K b te d):OkO K (xax te) (xbS d):=fun B φ σ τ H Q KK R hd q =>
  h B φ σ τ H _ _ R hd fun t v H1 x1 k1 r1=>by
    cases t with
    | int i=>cases (show v=.int i from r1); exact ⟨i,rfl,q _ H1 x1 k1⟩
    | _=>exact k1.elim
def qp {α:Type} (xs:List α) (lo hi:Option Int):List α:=(xs.drop (HT.sIx xs.length 0 lo)).take (HT.sIx xs.length xs.length hi-HT.sIx xs.length 0 lo)
theorem zm.cut {F:Addr→Prop} {ts:List Tr} {ws:List V} (r:zm F H ts ws) (lo hi:Option Int):zm F H (qp ts lo hi) (tO ws lo hi):=by
  unfold qp tO
  rw [← r.len]
  exact z_.mpr (ji _ (jc _ (z_.mp r)))
def dSl (d:DE) (dl dh:DO):DE:=fun τ KK=>d τ fun x=>dl τ fun lo=>dh τ fun hi=>match x with | .tup ts=>KK (.tup (qp ts lo hi)) | .lst ts=>KK (.lst (qp ts lo hi)) | _=>False
def xdb (d:DE) (dl dh:DO):DE:=fun τ KK=>d τ fun x=>dl τ fun lo=>dh τ fun hi=>match x with | .lst ts=>KK (.lst (qp ts lo hi)) | _=>False
theorem pK {b:Bool} {te:TE} {tl th:TO} {d:DE} {dl dh:DO} (h:OkE K b te d) (hl:OkO K tl dl) (hh:OkO K th dh):OkE K b (tSl (xay K) te tl th) (xdb d dl dh):=fun B φ σ τ H Q KK R hd q =>
  h B φ σ τ H _ _ R hd fun t v H1 x1 k1 r1=>hl B φ σ τ H1 _ _ (R.hx x1) k1 fun lo H2 x2 k2=>hh B φ σ τ H2 _ _ (R.hx (x1.trans x2)) k2 fun hi H3 x3 k3=>by
    have r3:=(x2.trans x3).rep (fun a s=>R.sB s) r1
    have x:=(x1.trans x2).trans x3
    cases t with
    | lst ts =>
      obtain ⟨a,ws,e,n,ha,rl⟩:=r3
      exact ⟨a,ws,e,SqL.of ha,fun p hp=>q _ _ _ (x.trans (HX.new (R.hx x) hp _)) k3 ⟨p,_,rfl,fun z=>(R.hx x).domB z hp,x_,zJ hp (rl.cut lo hi)⟩⟩
    | _=>exact k3.elim
def xcS (i:Nat) (dl dh:DO):DE:=fun τ KK=>match nth τ i with | .ow ts=>dl τ fun lo=>dh τ fun hi=>KK (.lst (qp ts lo hi)) | _=>False
theorem nE {i:Nat} {tl th:TO} {dl dh:DO} (hl:OkO K tl dl) (hh:OkO K th dh):OkF K (tSl (xay K) (sM i) tl th) (xcS i dl dh):=fun B φ σ τ H Q KK R hd q=>by
  have en:=R.ent i
  unfold xcS at hd
  revert en hd
  cases hi:nth τ i with
  | ow ts =>
    intro hd ⟨a,ws,e1,e2,e3,e4,r⟩
    refine ⟨_,e1,hl B φ σ τ H _ _ R hd fun lo H2 x2 k2=>hh B φ σ τ H2 _ _ (R.hx x2) k2 fun hi' H3 x3 k3=>?_⟩
    have x:=x2.trans x3
    obtain ⟨ws',e4',r',_⟩:=kU R x hi e1
    exact ⟨a,ws',rfl,SqL.of e4',fun p hp=>q _ _ _ _ (x.trans (HX.new (R.hx x) hp _)) k3 (x.none hp) x_ (uj hp (r'.cut lo hi'))⟩
  | _=>exact fun z _=>z.elim
def xc8 (x y:Tr) (KK:Tr→Prop):Prop:=match x,y with | .lst ts,.lst us=>ts.length+us.length≤sizeLine∧KK (.lst (ts++us)) | _,_=>False
theorem qW {ta tb:TE} {da db:DE} (ha:OkE K true ta da) (hb:OkE K true tb db):OkF K (tOp xcl ta tb) (d2 xc8 da db):=fun B φ σ τ H Q KK R hd q =>
  ha B φ σ τ H _ _ R hd fun t v H1 x1 k1 r1=>hb B φ σ τ H1 _ _ (R.hx x1) k1 fun u w H2 x2 k2 r2=>by
    have r1':=x2.rep (F:=Av B φ) (fun a s=>R.sAv s) r1
    have x:=x1.trans x2
    unfold xc8 at k2
    split at k2
    · rename_i ts us
      obtain ⟨a,ws,e,n,ha',rl⟩:=r1'
      obtain ⟨a2,ws2,e2,n2,ha2,rl2⟩:=r2
      exact ⟨a,a2,ws,ws2,e,e2,ha',ha2,by rw [← rl.len,← rl2.len]; exact k2.1,fun p hp=>q _ _ _ _ (x.trans (HX.new (R.hx x) hp _)) k2.2 (x.none hp) x_ (uj hp (rl.app rl2))⟩
    · exact k2.elim
def xcN (x y:Tr) (KK:Tr→Prop):Prop:=match x,y with | .lst ts,.int k=>(0≤k∧k < 2 ^ 63)∧ts.length*k.toNat≤sizeLine∧KK (.lst (List.replicate k.toNat ts).flatten) | _,_=>False
theorem qi {F:Addr→Prop} {ts:List Tr} {ws:List V} (r:zm F H ts ws):∀ n:Nat,zm F H (List.replicate n ts).flatten (List.replicate n ws).flatten
  | 0=>rfl
  | n+1=>by
    rw [List.replicate_succ,List.replicate_succ,List.flatten_cons,List.flatten_cons]
    exact r.app (qi r n)
theorem lr {c:Bool} {ta tb:TE} {da db:DE} (ha:OkE K true ta da) (hb:OkE K c tb db):OkF K (tOp xb_ ta tb) (d2 xcN da db):=fun B φ σ τ H Q KK R hd q =>
  ha B φ σ τ H _ _ R hd fun t v H1 x1 k1 r1=>hb B φ σ τ H1 _ _ (R.hx x1) k1 fun u w H2 x2 k2 r2=>by
    have r1':=x2.rep (F:=Av B φ) (fun a s=>R.sAv s) r1
    have x:=x1.trans x2
    unfold xcN at k2
    split at k2
    · rename_i ts k
      obtain ⟨a,ws,e,n,ha',rl⟩:=r1'
      exact ⟨a,k,ws,e,r2,ha',by have:=k2.1.1; omega,k2.1.2,by rw [← rl.len]; exact k2.2.1,fun p hp=>q _ _ _ _ (x.trans (HX.new (R.hx x) hp _)) k2.2.2 (x.none hp) x_ (uj hp (qi rl _))⟩
    · exact k2.elim
def dCB (f:List Tr→(Tr→Prop)→Prop) (da:DA):DE:=fun τ KK=>da τ fun xs=>f xs KK
def CbS (r:List V→Hp→VK→Prop) (f:List Tr→(Tr→Prop)→Prop):Prop:=∀ (F:Addr→Prop) (H:Hp) (vs:List V) (ts:List Tr) (KK:Tr→Prop) (Q:VK),zm F H ts vs→f ts KK→(∀ w v,rT w=some v→KK w→Q v H)→r vs H Q
theorem ym {b:Bool} {n:Nat} {r:List V→Hp→VK→Prop} {f:List Tr→(Tr→Prop)→Prop} {ta:TA} {da:DA} (hr:CbS r f) (ha:OkA K b n ta da):OkE K true (tCB r ta) (dCB f da):=fun B φ σ τ H Q KK R hd q =>
  ha B φ σ τ H _ _ R hd fun ts vs H1 x1 k1 l1 r1=>hr _ H1 vs ts KK Q r1 k1 fun w v e k=>q w v H1 x1 k (uw e)
theorem qP {F:Addr→Prop} {t:Tr} {vs:List V} (h:zm F H [t] vs):∃ v,vs=[v]∧Rep F H t v:=by
  obtain ⟨w,r,e,h1,h2⟩:=h
  cases (show r=[] from h2)
  exact ⟨w,e,h1⟩
theorem bV {F:Addr→Prop} {t u:Tr} {vs:List V} (h:zm F H [t,u] vs):∃ v w,vs=[v,w]∧Rep F H t v∧Rep F H u w:=by
  obtain ⟨w,r,e,h1,h2⟩:=h
  obtain ⟨w',e',h3⟩:=qP h2
  subst e'
  exact ⟨w,w',e,h1,h3⟩
def xcV (xs:List Tr) (KK:Tr→Prop):Prop:=match xs with | [.tup ts]=>KK (.int ts.length) | [.lst ts]=>KK (.int ts.length) | _=>False
theorem zz:CbS (lF K) xcV:=by
  intro F H vs ts KK Q r hf q
  unfold xcV at hf
  split at hf
  · rename_i ts
    obtain ⟨v,rfl,a,ws,e,n,ha,rl⟩:=qP r
    exact ⟨a,ws,by rw [e],.inr (SqT.of ha),by rw [← rl.len]; exact q _ _ rfl hf⟩
  · rename_i ts
    obtain ⟨v,rfl,a,ws,e,n,ha,rl⟩:=qP r
    exact ⟨a,ws,by rw [e],.inl (SqL.of ha),by rw [← rl.len]; exact q _ _ rfl hf⟩
  · exact hf.elim
def xcQ (xs:List Tr) (KK:Tr→Prop):Prop:=match xs with | [.int i]=>KK (.int (if i < 0 then -i else i)) | _=>False
theorem vL:CbS (fun xs H Q=>∃ i,xs=[.int i]∧Q (.int (if i < 0 then -i else i)) H) xcQ:=by
  intro F H vs ts KK Q r hf q
  unfold xcQ at hf
  split at hf
  · rename_i i
    obtain ⟨v,rfl,e⟩:=qP r
    cases (show v=.int i from e)
    exact ⟨i,rfl,q _ _ rfl hf⟩
  · exact hf.elim
def xaY (xs:List Tr) (KK:Tr→Prop):Prop:=match xs with | [.int i,.int j]=>KK (.int (if j > i then j else i)) | _=>False
theorem mT:CbS (fun xs H Q=>∃ i j,xs=[.int i,.int j]∧Q (.int (if j > i then j else i)) H) xaY:=by
  intro F H vs ts KK Q r hf q
  unfold xaY at hf
  split at hf
  · rename_i i j
    obtain ⟨v,w,rfl,e,e'⟩:=bV r
    cases (show v=.int i from e); cases (show w=.int j from e')
    exact ⟨i,j,rfl,q _ _ rfl hf⟩
  · exact hf.elim
def xaw (xs:List Tr) (KK:Tr→Prop):Prop:=match xs with | [.int i,.int j]=>KK (.int (if j < i then j else i)) | _=>False
theorem oX:CbS (fun xs H Q=>∃ i j,xs=[.int i,.int j]∧Q (.int (if j < i then j else i)) H) xaw:=by
  intro F H vs ts KK Q r hf q
  unfold xaw at hf
  split at hf
  · rename_i i j
    obtain ⟨v,w,rfl,e,e'⟩:=bV r
    cases (show v=.int i from e); cases (show w=.int j from e')
    exact ⟨i,j,rfl,q _ _ rfl hf⟩
  · exact hf.elim
theorem je {F:Addr→Prop}:∀ {ns:List Int} {ws:List V},zm F H (ns.map Tr.int) ws→ws=ns.map V.int
  | [],_,h=>h
  | n::ns,_,⟨w,r,e,h1,h2⟩=>by
    cases (show w=.int n from h1)
    rw [e,je h2]; rfl
theorem rK {F:Addr→Prop}:∀ {ns:List Bool} {ws:List V},zm F H (ns.map Tr.bl) ws→ws=ns.map V.bl
  | [],_,h=>h
  | n::ns,_,⟨w,r,e,h1,h2⟩=>by
    cases (show w=.bl n from h1)
    rw [e,rK h2]; rfl
def xct (xs:List Tr) (KK:Tr→Prop):Prop:=∃ bs:List Bool,xs=[.lst (bs.map Tr.bl)]∧KK (.bl (bs.all id))
theorem kY:CbS (lI K) xct:=by
  intro F H vs ts KK Q r hf q
  obtain ⟨ns,rfl,h1⟩:=hf
  obtain ⟨v,rfl,a,ws,e,n,ha,rl⟩:=qP r
  rw [rK rl] at ha
  exact ⟨a,ns,by rw [e],SqL.of ha,q _ _ rfl h1⟩
def tyT:Tr→String
  | .non => "NoneType" | .bl _ => "bool" | .int _ => "int" | .str _ => "str" | .emp => "dict" | .tup _ => "tuple" | .lst _ => "list"
theorem xav {F:Addr→Prop} {t:Tr} {v:V} (r:Rep F H t v):tyN H v=some (tyT t):=by
  cases t with
  | non=>cases (show v=.non from r); rfl
  | bl b=>cases (show v=.bl b from r); rfl
  | int b=>cases (show v=.int b from r); rfl
  | str b=>cases (show v=.str b from r); rfl
  | emp=>obtain ⟨a,e,_,h⟩:=r; subst e; simp only [tyN,h,tyT]
  | tup ts=>obtain ⟨a,ws,e,_,h,_⟩:=r; subst e; simp only [tyN,h,tyT]
  | lst ts=>obtain ⟨a,ws,e,_,h,_⟩:=r; subst e; simp only [tyN,h,tyT]
def xcU (c:String) (t:Tr):Bool:=match c,t with
  | "int", .int _=>true | "int", .bl _=>true | "bool", .bl _=>true | "str", .str _=>true | "tuple", .tup _=>true | "list", .lst _=>true | "dict", .emp=>true | _,_=>false
theorem lQ {c:String} (h:c∈ki) (t:Tr):oY (tyT t) c=xcU c t:=by
  simp only [ki,List.mem_cons,List.not_mem_nil,or_false] at h
  rcases h with rfl | rfl | rfl | rfl | rfl | rfl <;> cases t <;> rfl
def xdw (c:String) (d:DE):DE:=fun τ KK=>d τ fun x=>KK (.bl (xcU c x))
theorem zV {b:Bool} {c:String} {te:TE} {d:DE} (h:OkE K b te d) (hc:c∈ki:=by decide):OkE K true (tCB xcz (jh te (jh (tC (.ty c)) lX))) (xdw c d):=fun B φ σ τ H Q KK R hd q =>
  h B φ σ τ H _ _ R hd fun t v H1 x1 k1 r1=>⟨v,c,tyT t,rfl,xav r1,hc,by rw [lQ hc]; exact q _ _ H1 x1 k1 rfl⟩
def ot (xs:List Tr) (KK:Tr→Prop):Prop:=match xs with | [.tup ts]=>KK (.tup ts) | [.lst ts]=>KK (.tup ts) | _=>False
theorem ff {b:Bool} {n:Nat} {ta:TA} {da:DA} (ha:OkA K b n ta da):OkE K b (tCB (oN K) ta) (dCB ot da):=fun B φ σ τ H Q KK R hd q =>
  ha B φ σ τ H _ _ R hd fun ts vs H1 x1 k1 l1 r1=>by
    unfold ot at k1
    split at k1
    · rename_i ts
      obtain ⟨v,rfl,r⟩:=qP r1
      obtain ⟨a,ws,e,n,ha,rl⟩:=id r
      exact ⟨a,ws,by rw [e],.inr ⟨SqT.of ha,by rw [← e]; exact q _ _ H1 x1 k1 r⟩⟩
    · rename_i ts
      obtain ⟨v,rfl,a,ws,e,n,ha,rl⟩:=qP r1
      exact ⟨a,ws,by rw [e],.inl ⟨SqL.of ha,fun p hp=>q _ _ _ (x1.trans (HX.new (R.hx x1) hp _)) k1 ⟨p,_,rfl,fun z=>(R.hx x1).domB z hp,x_,zJ hp rl⟩⟩⟩
    · exact k1.elim
def xbg (i:Nat):DE:=fun τ KK=>match nth τ i with | .ow ts=>KK (.tup ts) | _=>False
theorem nA {i:Nat}:OkE K true (tCB (oN K) (jh (sM i) lX)) (xbg i):=fun B φ σ τ H Q KK R hd q=>by
  have en:=R.ent i
  unfold xbg at hd
  revert en hd
  cases hi:nth τ i with
  | ow ts =>
    intro hd ⟨a,ws,e1,e2,e3,e4,r⟩
    exact ⟨_,e1,a,ws,rfl,.inl ⟨SqL.of e4,fun p hp=>q _ _ _ (HX.new R hp _) hd ⟨p,_,rfl,fun z=>R.dom z hp,x_,zJ hp r⟩⟩⟩
  | _=>exact fun z _=>z.elim
def xaL (xs:List Tr) (KK:Tr→Prop):Prop:=match xs with | [.tup ts]=>KK (.lst ts) | [.lst ts]=>KK (.lst ts) | _=>False
theorem aE {n:Nat} {ta:TA} {da:DA} (ha:OkA K true n ta da):OkF K (tCB (xaq K) ta) (dCB xaL da):=fun B φ σ τ H Q KK R hd q =>
  ha B φ σ τ H _ _ R hd fun ts vs H1 x1 k1 l1 r1=>by
    unfold xaL at k1
    split at k1
    · rename_i ts
      obtain ⟨v,rfl,a,ws,e,n,ha,rl⟩:=qP r1
      exact ⟨a,ws,by rw [e],.inr (SqT.of ha),fun p hp=>q _ _ _ _ (x1.trans (HX.new (R.hx x1) hp _)) k1 (x1.none hp) x_ (uj hp rl)⟩
    · rename_i ts
      obtain ⟨v,rfl,a,ws,e,n,ha,rl⟩:=qP r1
      exact ⟨a,ws,by rw [e],.inl (SqL.of ha),fun p hp=>q _ _ _ _ (x1.trans (HX.new (R.hx x1) hp _)) k1 (x1.none hp) x_ (uj hp rl)⟩
    · exact k1.elim
def pU (i:Nat):DE:=fun τ KK=>match nth τ i with | .sc ns=>ns.length≤63→KK (.int ns.length) | _=>False
theorem c7 {i:Nat}:OkE K true (tCB (lF K) (jh (sM i) lX)) (pU i):=fun B φ σ τ H Q KK R hd q=>by
  have en:=R.ent i
  unfold pU at hd
  revert en hd
  cases hi:nth τ i with
  | sc ns =>
    intro hd ⟨a,e,l,so,_⟩
    have sq:SqL K H a (ns.map V.int):=by
      rcases so with ⟨o,h⟩ | h
      · exact .inl (.inr ⟨o,h⟩)
      · exact h H
    refine ⟨_,e,a,_,rfl,.inl sq,?_⟩
    rw [List.length_map]
    exact q _ _ H (HX.refl R) (hd l) rfl
  | _=>exact fun z _=>z.elim
def xbK:DE:=fun _ KK=>KK .emp
theorem lC:OkE K true xbq xbK:=fun B φ σ τ H Q KK R hd q=>fun p hp=>q _ _ _ (HX.new R hp _) hd ⟨p,rfl,fun z=>R.dom z hp,x_⟩
end
end L2
namespace L2
open PySem PySem.Spec PyProof.Rows
abbrev TSp:=List Tr→(Tr→Prop)→Prop
def spT (n:Nat) (st fr:Bool) (sp:TSp):Sp:=fun vs H Q _=>∃ (F S:Addr→Prop) (ts:List Tr) (KK:Tr→Prop) (us:List V),
  (match st with | true=>∃ p,vs=.ref p::us∧S p | false=>vs=us)∧(∀ a,F a→H a≠none)∧(∀ a,S a→F a)∧(∀ a,S a→sT a H)∧zm F H ts us∧ts.length=n∧sp ts KK ∧
  ∀ t v H',KK t→(∀ a o,H a=some o→¬ S a→H' a=some o)→(∀ a,S a→sT a H')→Rep F H' t v→(fr=true→FrL F H H' t v)→Q v H'
def l5 (sp:TSp) (da:DA):DE:=fun τ KK=>da τ fun ts=>sp ts KK
def oD (i:Nat) (sp:TSp) (da:DA):DE:=fun τ KK=>match nth τ i with | .st=>da τ fun ts=>sp ts KK | _=>False
section
variable {K:PySem.W.Frag} {B:FB} {φ:Phi} {σ:St} {τ:TSt} {H H' H'':Hp}
theorem xK {b fr:Bool} {n:Nat} {sp:TSp} {ta:TA} {da:DA} (ha:OkA K b n ta da):OkE K b (xah (spT n false fr sp) ta) (l5 sp da):=fun B φ σ τ H Q KK R hd q =>
  ha B φ σ τ H _ _ R hd fun ts vs H1 x1 k1 l1 r1=>⟨AvB b B φ τ,SA B φ τ,ts,KK,vs,rfl,fun a z=>(R.hx x1).domB z,fun a z=>R.sB z,x1.st,r1,l1,k1,fun t v H' k e s r _=>q t v H' (x1.trans ⟨e,s⟩) k r⟩
theorem oP {n:Nat} {sp:TSp} {ta:TA} {da:DA} (ha:OkA K true n ta da):OkF K (xah (spT n false true sp) ta) (l5 sp da):=fun B φ σ τ H Q KK R hd q =>
  ha B φ σ τ H _ _ R hd fun ts vs H1 x1 k1 l1 r1=>⟨Av B φ,SA B φ τ,ts,KK,vs,rfl,fun a z=>(R.hx x1).dom z,fun a z=>R.sAv z,x1.st,r1,l1,k1,fun t v H' k e s r f=>by
    obtain ⟨a,ts',ws,rfl,rfl,h1,h2,h3⟩:=f rfl
    exact q ts' a ws H' (x1.trans ⟨e,s⟩) k (x1.none h1) h2 h3⟩
theorem yd {b fr:Bool} {n i:Nat} {sp:TSp} {ta:TA} {da:DA} (ha:OkA K b n ta da):OkE K b (xah (spT n true fr sp) (jh (sM i) ta)) (oD i sp da):=fun B φ σ τ H Q KK R hd q=>by
  have en:=R.ent i
  unfold oD at hd
  revert en hd
  cases hi:nth τ i with
  | st =>
    intro hd ⟨p,e1,e2,e3⟩
    exact ⟨_,e1,ha B φ σ τ H _ _ R hd fun ts vs H1 x1 k1 l1 r1=>⟨AvB b B φ τ,SA B φ τ,ts,KK,vs,⟨p,rfl,.inr ⟨i,e2,hi⟩⟩,fun a z=>(R.hx x1).domB z,fun a z=>R.sB z,x1.st,r1,l1,k1,fun t v H' k e s r _=>q t v H' (x1.trans ⟨e,s⟩) k r⟩⟩
  | _=>exact fun z _=>z.elim
def Phi.del (φ:Phi) (i:Nat):Phi:=fun j=>if j=i then none else φ j
def Phi.put (φ:Phi) (i:Nat) (a:Addr):Phi:=fun j=>if j=i then some a else φ j
theorem qB {i j:Nat} {a:Addr} (h:φ.del i j=some a):j≠i∧φ j=some a:=by
  unfold Phi.del at h
  by_cases e:j=i
  · rw [if_pos e] at h; cases h
  · rw [if_neg e] at h; exact ⟨e,h⟩
theorem xbb {i j:Nat} (h:j≠i):φ.del i j=φ j:=if_neg h
theorem uE {i j:Nat} {a c:Addr} (h:φ.put i a j=some c):(j=i∧c=a)∨(j≠i∧φ j=some c):=by
  unfold Phi.put at h
  by_cases e:j=i
  · rw [if_pos e] at h; cases h; exact .inl ⟨e,rfl⟩
  · rw [if_neg e] at h; exact .inr ⟨e,h⟩
theorem aW {i:Nat} {a:Addr}:φ.put i a i=some a:=if_pos rfl
theorem xao {i j:Nat} {a:Addr} (h:j≠i):φ.put i a j=φ j:=if_neg h
theorem dG {i:Nat} {a:Addr} (h:Av B (φ.del i) a):Av B φ a:=by
  rcases h with h | ⟨j,h⟩
  · exact .inl h
  · exact .inr ⟨j,(qB h).2⟩
theorem gG {φ':Phi} {i:Nat} {o:Option (Option V)} {x:TV} (h:Ent K B φ H i o x) (hφ:φ' i=φ i) (hr:∀ t v,Rep (Av B φ) H t v→Rep (Av B φ') H' t v) (hrl:∀ t v,zm (Av B φ) H t v→zm (Av B φ') H' t v)
    (hl:∀ a ws ts,x=.ow ts→φ i=some a→H a=some (.lst ws)→H' a=some (.lst ws)) (hs:∀ a ns,cW K H a ns→cW K H' a ns):Ent K B φ' H' i o x:=by
  cases x with
  | un=>trivial
  | fz t=>obtain ⟨v,e,r⟩:=h; exact ⟨v,e,hr t v r⟩
  | ow ts=>obtain ⟨a,ws,e1,e2,e3,e4,r⟩:=h; exact ⟨a,ws,e1,hφ.trans e2,e3,hl a ws ts rfl e2 e4,hrl _ _ r⟩
  | st=>obtain ⟨p,e1,e2,e3⟩:=h; exact ⟨p,e1,hφ.trans e2,e3⟩
  | sc ns=>obtain ⟨a,e,l,q⟩:=h; exact ⟨a,e,l,hs a ns q⟩
  | ob a=>exact h
theorem RS.setFz {i:Nat} {t:Tr} {v:V} (R:RS K B φ σ τ H) (r:Rep (Av B φ) H t v):RS K B (φ.del i) (σ.set i (some v)) (τ.set i (.fz t)) H where
  f0:=R.f0
  s0:=R.s0
  ext:=R.ext
  sst:=fun a s=>by
    rcases s with s | ⟨j,s,hj⟩
    · exact R.sst a (.inl s)
    · obtain ⟨hne,s'⟩:=qB s
      rw [yQ hne] at hj
      exact R.sst a (.inr ⟨j,s',hj⟩)
  inj:=fun j k a ts hj e1 e2=>by
    obtain ⟨hne,e1⟩:=qB e1
    rw [yQ hne] at hj
    exact R.inj j k a ts hj e1 (qB e2).2
  ow:=fun j a e=>R.ow j a (qB e).2
  len:=by rw [List.length_set,List.length_set]; exact R.len
  ent:=fun j=>by
    have mono:∀ t v,Rep (Av B φ) H t v→Rep (Av B (φ.del i)) H t v:=fun t v=>yz (fun a o e n=>⟨e,fun z=>n (dG z)⟩) t v
    by_cases e:j=i
    · subst e
      by_cases hl:j < τ.length
      · rw [zi hl]
        exact ⟨v,by rw [List.getElem?_set_self (by rw [R.len]; exact hl)],mono _ _ r⟩
      · rw [wo (by rw [List.length_set]; omega)]; trivial
    · rw [yQ e,List.getElem?_set_ne (Ne.symm e)]
      exact gG (R.ent j) (xbb e) mono (fun t v=>yn (fun a o e n=>⟨e,fun z=>n (dG z)⟩) t v) (fun _ _ _ _ _ z=>z) fun _ _ z=>z
  gh:=fun p hp=>yz (fun a o e n=>⟨e,fun z=>n (dG z)⟩) _ _ (R.gh p hp)
theorem RS.setNew {i:Nat} {x:TV} {a:Addr} (R:RS K B φ σ τ H) (hx:HX B φ τ H H') (ha:H a=none) (ha':H' a≠none) (hst:x=.st→sT a H')
    (hen:Ent K B (φ.put i a) H' i (some (some (.ref a))) x):RS K B (φ.put i a) (σ.set i (some (.ref a))) (τ.set i x) H':=by
  have R':=R.hx hx
  have nav:∀ c,c≠a→Av B (φ.put i a) c→Av B φ c:=fun c hc z=>by
    rcases z with z | ⟨j,z⟩
    · exact .inl z
    · rcases uE z with ⟨_,e⟩ | ⟨_,e⟩
      · exact absurd e hc
      · exact .inr ⟨j,e⟩
  have mv:∀ c o,H c=some o→¬ Av B φ c→H' c=some o∧¬ Av B (φ.put i a) c:=fun c o e n=>⟨hx.keep c o e fun s=>n (R.sAv s),fun z=>n (nav c (xH e ha) z)⟩
  refine ⟨R.f0,R.s0,R'.ext,fun c s=>?_,fun j k c ts hj e1 e2=>?_,fun j c e=>?_,?_,fun j=>?_,fun p hp=>yz mv _ _ (R.gh p hp)⟩
  · rcases s with s | ⟨j,s,hj⟩
    · exact R'.sst c (.inl s)
    · rcases uE s with ⟨rfl,rfl⟩ | ⟨hne,s'⟩
      · by_cases hl:j < τ.length
        · rw [zi hl] at hj
          exact hst hj
        · rw [wo (by rw [List.length_set]; omega)] at hj; cases hj
      · rw [yQ hne] at hj
        exact R'.sst c (.inr ⟨j,s',hj⟩)
  · have key:∀ j:Nat,φ j=some a→False:=fun j e=>R.ow j a e ha
    rcases uE e1 with ⟨z1,z2⟩ | ⟨n1,f1⟩
    · rcases uE e2 with ⟨z3,_⟩ | ⟨n2,f2⟩
      · rw [z1,z3]
      · exact (key k (by rw [← z2]; exact f2)).elim
    · rcases uE e2 with ⟨z3,z4⟩ | ⟨n2,f2⟩
      · exact (key j (by rw [← z4]; exact f1)).elim
      · rw [yQ n1] at hj
        exact R.inj j k c ts hj f1 f2
  · rcases uE e with ⟨_,rfl⟩ | ⟨_,e⟩
    · exact ha'
    · exact R'.ow j c e
  · rw [List.length_set,List.length_set]; exact R.len
  · by_cases e:j=i
    · subst e
      by_cases hl:j < τ.length
      · rw [zi hl,List.getElem?_set_self (by rw [R.len]; exact hl)]
        exact hen
      · rw [wo (by rw [List.length_set]; omega)]; trivial
    · rw [yQ e,List.getElem?_set_ne (Ne.symm e)]
      refine gG (R.ent j) (xao e) (fun t v=>yz mv t v) (fun t v=>yn mv t v) (fun c ws ts hj e1 e2=>?_) fun c ns z=>?_
      · refine hx.keep c _ e2 fun s=>?_
        rcases s with s | ⟨k,s,hk⟩
        · have en:=R.ent j
          rw [hj] at en
          obtain ⟨a',ws',_,q2,q3,_⟩:=en
          rw [e1] at q2; cases q2
          exact R.f0 c (R.s0 c s) q3
        · have:=R.inj j k c ts hj e1 s
          subst this
          rw [hj] at hk; cases hk
      · refine ⟨?_,z.2.hx R hx⟩
        rcases z.1 with ⟨o,z⟩ | z
        · exact .inl ⟨o,hx.keep c _ z (gM R z)⟩
        · exact .inr z
theorem RS.wrOw {i:Nat} {ts ts':List Tr} {a:Addr} {ws':List V} (R:RS K B φ σ τ H) (hi:nth τ i=.ow ts) (e1:σ[i]? = some (some (.ref a))) (r:zm (Av B φ) H ts' ws'):RS K B φ σ (τ.set i (.ow ts')) (upd H a (.lst ws')):=by
  have en:=R.ent i
  rw [hi] at en
  obtain ⟨a',ws,e1',e2,e3,e4,_⟩:=en
  rw [e1] at e1'; cases e1'
  have hl:i < τ.length:=by
    by_cases h:i < τ.length
    · exact h
    · rw [wo (by omega)] at hi; cases hi
  have mv:∀ c o,H c=some o→¬ Av B φ c→(upd H a (.lst ws')) c=some o∧¬ Av B φ c:=fun c o e n=>⟨by rw [xY (fun z=>n (by rw [z]; exact .inr ⟨i,e2⟩))]; exact e,n⟩
  have nsa:∀ c,SA B φ (τ.set i (.ow ts')) c→SA B φ τ c∧c≠a:=fun c s=>by
    rcases s with s | ⟨j,s,hj⟩
    · exact ⟨.inl s,fun z=>R.f0 a (R.s0 a (z ▸ s)) e3⟩
    · by_cases e:j=i
      · subst e
        rw [zi hl] at hj; cases hj
      · rw [yQ e] at hj
        exact ⟨.inr ⟨j,s,hj⟩,fun z=>e (R.inj i j a ts hi e2 (z ▸ s)).symm⟩
  refine ⟨R.f0,R.s0,fun c o e n=>?_,fun c s=>?_,fun j k c us hj f1 f2=>?_,fun j c e=>?_,by rw [List.length_set]; exact R.len,fun j=>?_,fun p hp=>yz mv _ _ (R.gh p hp)⟩
  · rw [xY (xH e e3)]; exact R.ext c o e n
  · obtain ⟨s',hne⟩:=nsa c s
    obtain ⟨n,b,q,z⟩:=R.sst c s'
    exact ⟨n,b,by rw [xY hne]; exact q,z⟩
  · by_cases e:j=i
    · subst e; exact R.inj j k c ts hi f1 f2
    · rw [yQ e] at hj
      exact R.inj j k c us hj f1 f2
  · by_cases z:c=a
    · rw [z,x_]; exact fun z=>nomatch z
    · rw [xY z]; exact R.ow j c e
  · by_cases e:j=i
    · subst e
      rw [zi hl]
      exact ⟨a,ws',e1,e2,e3,x_,yn mv _ _ r⟩
    · rw [yQ e]
      refine gG (R.ent j) rfl (fun t v=>yz mv t v) (fun t v=>yn mv t v) (fun c us vs hj f1 f2=>?_) fun c ns z=>?_
      · rw [xY (fun (z:c=a)=>e (R.inj i j a ts hi e2 (by rw [← z]; exact f1)).symm)]; exact f2
      · refine ⟨?_,fun P q h=>by rw [xY (xbt (z.2 P q h) e4 (fun q=>nomatch q))]; exact z.2 P q h⟩
        rcases z.1 with ⟨o,z⟩ | z
        · exact .inl ⟨o,by rw [xY (xbt z e4 (fun q=>nomatch q))]; exact z⟩
        · exact .inr z
def OkN (K:PySem.W.Frag) (g:TG) (d:DG):Prop:=∀ (B:FB) (φ:Phi) (σ:St) (τ:TSt) (H:Hp) (F:Addr→Prop) (t:Tr) (v:V) (Q:St→Hp→Prop) (KK:TSt→Prop),RS K B φ σ τ H→(∀ a,Av B φ a→F a)→Rep F H t v→d t τ KK →
  (∀ φ' σ' τ',RS K B φ' σ' τ' H→(∀ a,Av B φ' a→Av B φ a)→KK τ'→Q σ' H)→g v σ H Q
def xaN (K:PySem.W.Frag) (g:TGs) (d:DGs):Prop:=∀ (B:FB) (φ:Phi) (σ:St) (τ:TSt) (H:Hp) (F:Addr→Prop) (t:List Tr) (v:List V) (Q:St→Hp→Prop) (KK:TSt→Prop),RS K B φ σ τ H→(∀ a,Av B φ a→F a)→zm F H t v→d t τ KK →
  (∀ φ' σ' τ',RS K B φ' σ' τ' H→(∀ a,Av B φ' a→Av B φ a)→KK τ'→Q σ' H)→g v σ H Q
def eName (i:Nat):DG:=fun t τ KK=>KK (τ.set i (.fz t))
def xbz:DGs:=fun ts τ KK=>match ts with | []=>KK τ | _=>False
def cE (d:DG) (r:DGs):DGs:=fun ts τ KK=>match ts with | t::us=>d t τ fun τ'=>r us τ' KK | []=>False
def xdi (n:Nat) (d:DGs):DG:=fun t τ KK=>match t with | .tup ts=>ts.length=n∧d ts τ KK | _=>False
theorem xo {i:Nat}:OkN K (gT i) (eName i):=fun B φ σ τ H F t v Q KK R hF r hd q =>
  q (φ.del i) _ _ (R.setFz (yz (fun a o e n=>⟨e,fun z=>n (hF a z)⟩) _ _ r)) (fun a z=>dG z) hd
theorem ye:xaN K xbX xbz:=fun B φ σ τ H F t v Q KK R hF r hd q=>by
  cases t with
  | nil=>exact ⟨r,q φ σ τ R (fun _ z=>z) hd⟩
  | cons _ _=>exact hd.elim
theorem xr {g:TG} {gs:TGs} {d:DG} {ds:DGs} (h:OkN K g d) (hs:xaN K gs ds):xaN K (oQ g gs) (cE d ds):=fun B φ σ τ H F t v Q KK R hF r hd q=>by
  cases t with
  | nil=>exact hd.elim
  | cons t ts =>
    obtain ⟨w,r',e,h1,h2⟩:=r
    exact ⟨w,r',e,h B φ σ τ H F t w _ _ R hF h1 hd fun φ' σ' τ' R' ha k=>hs B φ' σ' τ' H F ts r' Q KK R' (fun a z=>hF a (ha a z)) h2 k fun φ2 σ2 τ2 R2 ha2 k2=>q φ2 σ2 τ2 R2 (fun a z=>ha a (ha2 a z)) k2⟩
theorem yt {n:Nat} {gs:TGs} {ds:DGs} (h:xaN K gs ds):OkN K (xbI K n gs) (xdi n ds):=fun B φ σ τ H F t v Q KK R hF r hd q=>by
  cases t with
  | tup ts =>
    obtain ⟨a,ws,e,n,ha,rl⟩:=r
    exact ⟨a,ws,e,SqT.of ha,by rw [← rl.len]; exact hd.1,h B φ σ τ H F ts ws Q KK R hF rl hd.2 q⟩
  | _=>exact hd.elim
theorem OkN.g {g:TG} {d:DG} (h:OkN K g d):OkG K g d:=fun B φ σ τ H t v Q KK R r hd q=>h B φ σ τ H (Av B φ) t v Q KK R (fun _ z=>z) r hd fun φ' σ' τ' R' ha k=>q φ' σ' τ' H R' ha (fun _ _ e _=>e) k
def o7 (ts:List Tr) (t:Tr):Int→Option (List Tr)
  | .ofNat n=>if n < ts.length then some (ts.set n t) else none
  | .negSucc n=>if n < ts.length then some (ts.set (ts.length-1-n) t) else none
def xbA (i:Nat) (di:DE):DG:=fun t τ KK=>match nth τ i with
  | .ow ts=>di τ fun y=>match y with | .int k=>(match o7 ts t k with | some us=>KK (τ.set i (.ow us)) | none=>False) | _=>False
  | _=>False
theorem xab {ts us:List Tr} {t:Tr} {k:Int} (h:o7 ts t k=some us):∃ j,ixN ts.length k=some j∧us=ts.set j t:=by
  unfold ixN
  cases k with
  | ofNat n =>
    have h:(if n < ts.length then some (ts.set n t) else none)=some us:=h
    by_cases hn:n < ts.length
    · rw [if_pos hn] at h; cases h
      refine ⟨n,?_,rfl⟩
      have h0:(0:Int)≤Int.ofNat n:=Int.natCast_nonneg n
      have h1:Int.ofNat n < (ts.length:Int):=Int.ofNat_lt.mpr hn
      rw [if_pos h0,if_pos h1]; rfl
    · rw [if_neg hn] at h; cases h
  | negSucc n =>
    have h:(if n < ts.length then some (ts.set (ts.length-1-n) t) else none)=some us:=h
    by_cases hn:n < ts.length
    · rw [if_pos hn] at h; cases h
      refine ⟨ts.length-1-n,?_,rfl⟩
      rw [if_neg (by omega),if_pos (by omega)]
      congr 1; omega
    · rw [if_neg hn] at h; cases h
theorem aG {F:Addr→Prop} {t:Tr} {v:V} (r:Rep F H t v):∀ {ts:List Tr} {ws:List V} (j:Nat),zm F H ts ws→zm F H (ts.set j t) (ws.set j v)
  | [],_,_,h=>by cases (show _=[] from h); exact rfl
  | _::_,_,0,⟨w,r',e,h1,h2⟩=>⟨v,r',by rw [e]; rfl,r,h2⟩
  | _::ts,_,j+1,⟨w,r',e,h1,h2⟩=>⟨w,r'.set j v,by rw [e]; rfl,h1,aG r j h2⟩
theorem g6 {b:Bool} {i:Nat} {ti:TE} {di:DE} (h:OkE K b ti di):OkG K (xcA (sM i) ti xba) (xbA i di):=fun B φ σ τ H t v Q KK R r hd q=>by
  have en:=R.ent i
  unfold xbA at hd
  revert en hd
  cases hi:nth τ i with
  | ow ts =>
    intro hd ⟨a,ws,e1,e2,e3,e4,r0⟩
    refine ⟨_,e1,h B φ σ τ H _ _ R hd fun u w H1 x1 k1 r1=>?_⟩
    obtain ⟨ws',f4,f5,_⟩:=kU R x1 hi e1
    cases u with
    | int k =>
      cases (show w=.int k from r1)
      cases e:o7 ts t k with
      | none=>simp only [e] at k1
      | some us =>
        simp only [e] at k1
        obtain ⟨j,hj,rfl⟩:=xab e
        refine ⟨a,ws',k,j,rfl,rfl,f4,by rw [← f5.len]; exact hj,?_⟩
        exact q φ σ _ _ ((R.hx x1).wrOw hi e1 (aG (x1.rep (fun a s=>R.sAv s) r) j f5)) (fun _ z=>z) (fun c o e n=>by rw [xY (fun z=>n (by rw [z]; exact .inr ⟨i,e2⟩))]; exact x1.keep c o e fun s=>n (R.sAv s)) k1
    | _=>exact k1.elim
  | _=>exact fun z _=>z.elim
def pq:DS:=fun G τ=>G.nx τ
def xag (a b:DS):DS:=fun G τ=>a { G with nx:=b G } τ
def xaW:DS:=fun _ _=>False
def xcf (d:DE):DS:=fun G τ=>d τ G.rt
def sIf (c:DT) (a b:DS):DS:=fun G τ=>c τ fun k=>if k=true then a G τ else b G τ
def xcT (i:Nat) (d:DE):DS:=fun G τ=>d τ fun t=>G.nx (τ.set i (.fz t))
def xbY (i:Nat) (d:DE):DS:=fun G τ=>d τ fun t=>match t with | .lst ts=>G.nx (τ.set i (.ow ts)) | _=>False
def xdm (d:DE) (g:DG):DS:=fun G τ=>d τ fun t=>g t τ G.nx
def xdg (i j:Nat) (d:DA):DS:=fun G τ=>d τ fun ts=>match ts with | [t,u]=>G.nx ((τ.set i (.fz t)).set j (.fz u)) | _=>False
def xcj (d:DE):DS:=fun G τ=>d τ fun _=>G.nx τ
def xcL (i:Nat) (d:DE):DS:=fun G τ=>match nth τ i with | .ow ts=>d τ fun t=>ts.length < sizeLine∧G.nx (τ.set i (.ow (ts++[t]))) | _=>False
variable {fr:Bool}
theorem xV:OkS K fr xa6 pq:=fun B φ σ τ H E G R hd e=>e.nx φ σ τ H R hd
theorem kW:OkS K fr rL xaW:=fun B φ σ τ H E G R hd e=>hd.elim
theorem xn {a b:TS} {da db:DS} (ha:OkS K fr a da) (hb:OkS K fr b db):OkS K fr (xad a b) (xag da db):=fun B φ σ τ H E G R hd e =>
  ha B φ σ τ H _ _ R hd ⟨fun φ' σ' τ' H' R' k=>hb B φ' σ' τ' H' E G R' k e,e.bk,e.ct,e.rt⟩
theorem xD {b:Bool} {te:TE} {d:DE} (h:OkE K b te d):OkS K false (xae te) (xcf d):=fun B φ σ τ H E G R hd e =>
  h B φ σ τ H _ _ R hd fun t v H1 x1 k1 r1=>e.rt t v H1 (yz (fun a o e n=>⟨e,fun z=>n (.inl z)⟩) _ _ (xcF R r1)) (R.hx x1).extB k1 fun z=>nomatch z
theorem g_ {te:TE} {d:DE} (h:OkF K te d):OkS K fr (xae te) (xcf d):=fun B φ σ τ H E G R hd e =>
  h B φ σ τ H _ _ R hd fun ts a ws H1 x1 k1 h1 h2 h3=>by
    have z0:B.H0 a=none:=by
      cases q:B.H0 a with
      | none=>rfl
      | some o =>
        by_cases s:B.S0 a
        · exact absurd h1 (R.sst a (.inl s)).ne_none
        · rw [R.ext a o q s] at h1; cases h1
    have na:¬ B.F0 a:=fun z=>R.dom (.inl z) h1
    have rr:zm (fun c=>B.F0 c∨c=a) H1 ts ws:=yn (fun c o e n=>⟨e,fun z=>n (z.elim (fun z=>.inl (.inl z)) .inr)⟩) _ _ h3
    exact e.rt (.lst ts) _ H1 ⟨a,ws,rfl,na,h2,yn (fun c o e n=>⟨e,fun z=>n (.inl z)⟩) _ _ rr⟩ (R.hx x1).extB k1 fun _=>⟨a,ts,ws,rfl,rfl,z0,h2,rr⟩
def xaG (i:Nat):DS:=fun G τ=>match nth τ i with | .ow ts=>G.rt (.lst ts) | _=>False
theorem cI {i:Nat}:OkS K fr (xae (sM i)) (xaG i):=fun B φ σ τ H E G R hd e=>by
  have en:=R.ent i
  unfold xaG at hd
  revert en hd
  cases hi:nth τ i with
  | ow ts =>
    intro hd ⟨a,ws,e1,e2,e3,e4,r⟩
    have na:¬ B.F0 a:=fun z=>R.f0 a z e3
    have rr:zm (fun c=>B.F0 c∨c=a) H ts ws:=yn (fun c o e n=>⟨e,fun z=>n (z.elim .inl fun z=>.inr ⟨i,by rw [z]; exact e2⟩)⟩) _ _ r
    exact ⟨_,e1,e.rt (.lst ts) _ H ⟨a,ws,rfl,na,e4,yn (fun c o e n=>⟨e,fun z=>n (.inl z)⟩) _ _ rr⟩ R.extB hd fun _=>⟨a,ts,ws,rfl,rfl,e3,e4,rr⟩⟩
  | _=>exact fun z _=>z.elim
theorem yq {c:TT} {a b:TS} {dc:DT} {da db:DS} (hc:OkT K c dc) (ha:OkS K fr a da) (hb:OkS K fr b db):OkS K fr (xck c a b) (sIf dc da db):=fun B φ σ τ H E G R hd e =>
  hc B φ σ τ H _ _ R hd fun k H1 x1 k1=>by
    cases k with
    | true=>exact tW (ha B φ σ τ H1 E G (R.hx x1) k1 e)
    | false=>exact aC (hb B φ σ τ H1 E G (R.hx x1) k1 e)
theorem x9 {i:Nat} {te:TE} {d:DE} (h:OkE K true te d):OkS K fr (lD te (gT i)) (xcT i d):=fun B φ σ τ H E G R hd e =>
  h B φ σ τ H _ _ R hd fun t v H1 x1 k1 r1=>e.nx _ _ _ H1 ((R.hx x1).setFz r1) k1
theorem uv {i:Nat} {te:TE} {d:DE} (h:OkF K te d):OkS K fr (lD te (gT i)) (xbY i d):=fun B φ σ τ H E G R hd e =>
  h B φ σ τ H _ _ R hd fun ts a ws H1 x1 k1 h1 h2 h3=>by
    have z0:B.H0 a=none:=by
      cases q:B.H0 a with
      | none=>rfl
      | some o =>
        by_cases s:B.S0 a
        · exact absurd h1 (R.sst a (.inl s)).ne_none
        · rw [R.ext a o q s] at h1; cases h1
    refine e.nx _ _ _ H1 (R.setNew (x:=.ow ts) x1 h1 (by rw [h2]; exact fun z=>nomatch z) (fun z=>nomatch z) ⟨a,ws,rfl,aW,z0,h2,yn (fun c o e n=>⟨e,fun z=>n ?_⟩) _ _ h3⟩) k1
    rcases z with z | ⟨j,z⟩
    · exact .inl (.inl z)
    · rcases uE z with ⟨_,z⟩ | ⟨_,z⟩
      · exact .inr z
      · exact .inl (.inr ⟨j,z⟩)
theorem yX {te:TE} {g:TG} {d:DE} {dg:DG} (h:OkE K true te d) (hg:OkG K g dg):OkS K fr (lD te g) (xdm d dg):=fun B φ σ τ H E G R hd e =>
  h B φ σ τ H _ _ R hd fun t v H1 x1 k1 r1=>hg B φ σ τ H1 t v _ _ (R.hx x1) r1 k1 fun φ' σ' τ' H' R' _ _ k=>e.nx φ' σ' τ' H' R' k
theorem k6 {i j:Nat} {ta:TA} {da:DA} {n:Nat} (h:OkA K true n ta da):OkS K fr (xcx i j ta) (xdg i j da):=fun B φ σ τ H E G R hd e =>
  h B φ σ τ H _ _ R hd fun ts vs H1 x1 k1 l1 r1=>by
    cases ts with
    | nil=>exact k1.elim
    | cons t ts =>
      cases ts with
      | nil=>exact k1.elim
      | cons u ts =>
        cases ts with
        | cons _ _=>exact k1.elim
        | nil =>
          obtain ⟨v,w,rfl,h1,h2⟩:=bV r1
          exact ⟨v,w,rfl,e.nx _ _ _ H1 (((R.hx x1).setFz h1).setFz (yz (fun a o e n=>⟨e,fun z=>n (dG z)⟩) _ _ h2)) k1⟩
theorem vm {b:Bool} {te:TE} {d:DE} (h:OkE K b te d):OkS K fr (lH te) (xcj d):=fun B φ σ τ H E G R hd e =>
  h B φ σ τ H _ _ R hd fun t v H1 x1 k1 r1=>e.nx φ σ τ H1 (R.hx x1) k1
theorem jd {i:Nat} {te:TE} {d:DE} (h:OkE K true te d):OkS K fr (lH (tBM K "list" mX (sM i) (jh te lX))) (xcL i d):=fun B φ σ τ H E G R hd e=>by
  have en:=R.ent i
  unfold xcL at hd
  revert en hd
  cases hi:nth τ i with
  | ow ts =>
    intro hd ⟨a,ws,e1,e2,e3,e4,r⟩
    refine ⟨_,e1,.inl ⟨rfl,_,SqL.of e4⟩,h B φ σ τ H _ _ R hd fun t v H1 x1 k1 r1=>?_⟩
    obtain ⟨ws',f4,f5,_⟩:=kU R x1 hi e1
    exact ⟨a,ws',v,rfl,rfl,f4,by rw [← f5.len]; exact k1.1,e.nx φ σ _ _ ((R.hx x1).wrOw hi e1 (f5.app (show zm _ _ [t] [v] from ⟨v,[],rfl,r1,rfl⟩))) k1.2⟩
  | _=>exact fun z _=>z.elim
end
end L2
namespace L2
open PySem PySem.Spec PyProof.Rows
abbrev DI:=TSt→(List Tr→Prop)→Prop
def cf (H H':Hp):Prop:=H'=H∨∃ q o,H q=none∧H'=upd H q o
structure ItC (F S:Addr→Prop) (J:It) (ts:List Tr) (Src:Hp→Prop):Prop where
  stab:∀ H H',Src H→(∀ a o,H a=some o→¬ S a→H' a=some o)→Src H'
  go:∀ i H,Src H→i < ts.length→J.go i H
  stop:∀ H,Src H→J.stop ts.length H
  yld:∀ i H x H',Src H→(∀ a,F a→H a≠none)→i < ts.length→J.yld i H x H'→cf H H'∧∃ t,ts[i]? = some t∧Rep F H' t x
structure ItL (J:It) (ts:List Tr) (G:List (Tr × V)):Prop where
  go:∀ F H i,(∀ p∈G,Rep F H p.1 p.2)→i < ts.length→J.go i H
  stop:∀ F H,(∀ p∈G,Rep F H p.1 p.2)→J.stop ts.length H
  yld:∀ F i H x H',(∀ p∈G,Rep F H p.1 p.2)→(∀ a,F a→H a≠none)→i < ts.length→J.yld i H x H'→cf H H'∧∃ t,ts[i]? = some t∧Rep F H' t x
theorem ItL.c {J:It} {ts:List Tr} {G:List (Tr × V)} (h:ItL J ts G) {F S:Addr→Prop} (hS:∀ a,S a→F a):ItC F S J ts (fun H=>∀ p∈G,Rep F H p.1 p.2) where
  stab:=fun H H' s k p hp=>yz (fun a o e n=>⟨k a o e fun z=>n (hS a z),n⟩) _ _ (s p hp)
  go:=fun i H s hi=>h.go F H i s hi
  stop:=fun H s=>h.stop F H s
  yld:=fun i H x H' s d hi y=>h.yld F i H x H' s d hi y
def OkI (K:PySem.W.Frag) (b:Bool) (wi:TI) (d:DI):Prop:=∀ (B:FB) (φ:Phi) (σ:St) (τ:TSt) (H:Hp) (R:It→Hp→Prop) (KK:List Tr→Prop),RS K B φ σ τ H→d τ KK →
  (∀ J ts G H',HX B φ τ H H'→KK ts→ItL J ts G→(∀ p∈G,Rep (AvB b B φ τ) H' p.1 p.2)→R J H')→wi σ H R
def xbB (K:PySem.W.Frag) (wi:TI) (d:DI):Prop:=∀ (B:FB) (φ:Phi) (σ:St) (τ:TSt) (H:Hp) (R:It→Hp→Prop) (KK:List Tr→Prop),RS K B φ σ τ H→d τ KK →
  (∀ J ts Src H',HX B φ τ H H'→KK ts→ItC (Av B φ) (SA B φ τ) J ts Src→Src H'→R J H')→wi σ H R
section
variable {K:PySem.W.Frag} {B:FB} {φ:Phi} {σ:St} {τ:TSt} {H H' H'':Hp} {fr:Bool}
theorem OkI.c {wi:TI} {d:DI} (h:OkI K true wi d):xbB K wi d:=fun B φ σ τ H R KK Rs hd q=>h B φ σ τ H R KK Rs hd fun J ts G H' x k i s=>q J ts _ H' x k (i.c fun a z=>Rs.sAv z) s
def xdf (d:DE):DI:=fun τ KK=>d τ fun x=>match x with | .tup ts=>KK ts | .lst ts=>KK ts | _=>False
theorem pF {a:Addr} {ts:List Tr}:ItL (Itl K a) ts [(.lst ts,.ref a)] where
  go:=fun F H i s hi=>by
    obtain ⟨a',ws,e,n,h,r⟩:=s _ List.mem_cons_self
    cases e
    obtain ⟨w,e1,_⟩:=r.getT (List.getElem?_eq_getElem hi)
    exact ⟨ws,w,SqL.of h,e1⟩
  stop:=fun F H s=>by
    obtain ⟨a',ws,e,n,h,r⟩:=s _ List.mem_cons_self
    cases e
    exact ⟨ws,SqL.of h,by rw [← r.len]; exact Nat.le_refl _⟩
  yld:=fun F i H x H' s d hi y=>by
    obtain ⟨a',ws,e,n,h,r⟩:=s _ List.mem_cons_self
    cases e
    obtain ⟨rfl,y⟩:=y
    obtain ⟨t,e1,e2⟩:=r.get (y ws (SqL.of h))
    exact ⟨.inl rfl,t,e1,e2⟩
theorem lR {a:Addr} {ts:List Tr}:ItL (Itt K a) ts [(.tup ts,.ref a)] where
  go:=fun F H i s hi=>by
    obtain ⟨a',ws,e,n,h,r⟩:=s _ List.mem_cons_self
    cases e
    obtain ⟨w,e1,_⟩:=r.getT (List.getElem?_eq_getElem hi)
    exact ⟨ws,w,SqT.of h,e1⟩
  stop:=fun F H s=>by
    obtain ⟨a',ws,e,n,h,r⟩:=s _ List.mem_cons_self
    cases e
    exact ⟨ws,SqT.of h,by rw [← r.len]; exact Nat.le_refl _⟩
  yld:=fun F i H x H' s d hi y=>by
    obtain ⟨a',ws,e,n,h,r⟩:=s _ List.mem_cons_self
    cases e
    obtain ⟨rfl,y⟩:=y
    obtain ⟨t,e1,e2⟩:=r.get (y ws (SqT.of h))
    exact ⟨.inl rfl,t,e1,e2⟩
def xcb (i:Nat):DI:=fun τ KK=>match nth τ i with | .ow ts=>KK ts | _=>False
theorem pA {i:Nat}:xbB K (xca K (sM i)) (xcb i):=fun B φ σ τ H R KK Rs hd q=>by
  have en:=Rs.ent i
  unfold xcb at hd
  revert en hd
  cases hi:nth τ i with
  | ow ts =>
    intro hd ⟨a,ws,e1,e2,e3,e4,r⟩
    refine ⟨_,e1,a,rfl,⟨ws,SqL.of e4⟩,q _ ts (fun H=>H a=some (.lst ws)∧zm (Av B φ) H ts ws) H (HX.refl Rs) hd ⟨?_,?_,?_,?_⟩ ⟨e4,r⟩⟩
    · intro H1 H2 ⟨s1,s2⟩ k
      exact ⟨k a _ s1 fun z=>ax Rs hi e2 e3 (.inr z),yn (fun c o e n=>⟨k c o e fun z=>n (Rs.sAv z),n⟩) _ _ s2⟩
    · intro j H1 ⟨s1,s2⟩ hj
      obtain ⟨w,f1,_⟩:=s2.getT (List.getElem?_eq_getElem hj)
      exact ⟨ws,w,SqL.of s1,f1⟩
    · intro H1 ⟨s1,s2⟩
      exact ⟨ws,SqL.of s1,by rw [← s2.len]; exact Nat.le_refl _⟩
    · intro j H1 x H2 ⟨s1,s2⟩ _ hj ⟨f,y⟩
      subst f
      obtain ⟨t,g1,g2⟩:=s2.get (y ws (SqL.of s1))
      exact ⟨.inl rfl,t,g1,g2⟩
  | _=>exact fun z _=>z.elim
def oS (lo:Int) (n:Nat):List Tr:=(List.range n).map fun (k:Nat)=>Tr.int (lo+k)
theorem vt (lo:Int) (n:Nat):(oS lo n).length=n:=by unfold oS; rw [List.length_map,List.length_range]
theorem aL {lo:Int} {n i:Nat} (h:i < n):(oS lo n)[i]? = some (.int (lo+i)):=by unfold oS; rw [List.getElem?_map,List.getElem?_range h]; rfl
theorem mD {lo:Int} {n:Nat}:ItL (Itr lo n) (oS lo n) [] where
  go:=fun F H i s hi=>by rw [vt] at hi; exact hi
  stop:=fun F H s=>by rw [vt]; exact Nat.le_refl _
  yld:=fun F i H x H' s d hi y=>by
    rw [vt] at hi
    obtain ⟨rfl,rfl⟩:=y
    exact ⟨.inl rfl,_,aL hi,rfl⟩
def lL (d:DA):DI:=fun τ KK=>d τ fun xs=>match xs with | [.int j]=>(-(2 ^ 62)≤j∧j < 2 ^ 62)∧KK (oS 0 j.toNat) | _=>False
theorem vC {b:Bool} {n:Nat} {ta:TA} {da:DA} (h:OkA K b n ta da):OkI K true (xbr ta) (lL da):=fun B φ σ τ H R KK Rs hd q =>
  h B φ σ τ H _ _ Rs hd fun ts vs H1 x1 k1 l1 r1=>by
    split at k1
    · rename_i j
      obtain ⟨v,rfl,e⟩:=qP r1
      exact ⟨j,by rw [show v=.int j from e],k1.1.1,k1.1.2,q _ _ [] H1 x1 k1.2 mD fun p hp=>absurd hp (by simp)⟩
    · exact k1.elim
def pj (dg:DG) (body:DS) (G:k_):List Tr→TSt→Prop
  | [],τ=>G.nx τ
  | x::xs,τ=>dg x τ fun τ'=>body { G with nx:=pj dg body G xs,ct:=pj dg body G xs,bk:=G.nx } τ'
def xb9 (di:DI) (dg:DG) (body:DS):DS:=fun G τ=>di τ fun xs=>pj dg body G xs τ
def FB.more (B:FB) (G:List (Tr × V)):FB:={ B with G0:=G++B.G0 }
theorem RS.more (R:RS K B φ σ τ H) {G:List (Tr × V)} (h:∀ p∈G,Rep (Av B φ) H p.1 p.2):RS K (B.more G) φ σ τ H :=
  ⟨R.f0,R.s0,R.ext,R.sst,R.inj,R.ow,R.len,R.ent,fun p hp=>(List.mem_append.mp hp).elim (h p) (R.gh p)⟩
theorem RS.less {G:List (Tr × V)} (R:RS K (B.more G) φ σ τ H):RS K B φ σ τ H∧∀ p∈G,Rep (Av B φ) H p.1 p.2 :=
  ⟨⟨R.f0,R.s0,R.ext,R.sst,R.inj,R.ow,R.len,R.ent,fun p hp=>R.gh p (List.mem_append_right _ hp)⟩,fun p hp=>R.gh p (List.mem_append_left _ hp)⟩
theorem cf.hx (R:RS K B φ σ τ H) (g:cf H H'):HX B φ τ H H':=by
  rcases g with rfl | ⟨q,o,e,rfl⟩
  · exact HX.refl R
  · exact HX.new R e o
theorem zC {wi:TI} {g:TG} {tb:TS} {di:DI} {dg:DG} {db:DS} (hi:OkI K true wi di) (hg:OkG K g dg) (hb:OkS K fr tb db):OkS K fr (xc7 wi g tb) (xb9 di dg db):=fun B φ σ τ H E G R hd e =>
  hi B φ σ τ H _ _ R hd fun J ts Gh H1 x1 k1 it gh=>by
    let W:Nat→St→Hp→Prop:=fun i σ' H'=>i≤ts.length∧∃ φ' τ',RS K (B.more Gh) φ' σ' τ' H'∧pj dg db G (ts.drop i) τ'
    refine ⟨fun i m σ' H'=>m=ts.length-i∧W i σ' H',⟨_,rfl,Nat.zero_le _,φ,τ,(R.hx x1).more gh,k1⟩,?_⟩
    rintro i m σ' H' ⟨rfl,hle,φ',τ',R',f⟩
    obtain ⟨R0,g0⟩:=R'.less
    by_cases hlt:i < ts.length
    · refine .inr ⟨it.go _ H' i g0 hlt,W (i+1),fun σ2 H2 w=>⟨_,by omega,rfl,w⟩,fun x H2 y=>?_⟩
      obtain ⟨gr,t,ht,rt⟩:=it.yld _ i H' x H2 g0 (fun a z=>R0.dom z) hlt y
      have hx:=gr.hx R'
      have R2:=R'.hx hx
      have ed:ts.drop i=t::ts.drop (i+1):=by
        rw [List.drop_eq_getElem_cons hlt]
        rw [List.getElem?_eq_getElem hlt] at ht
        cases ht; rfl
      rw [ed] at f
      refine hg (B.more Gh) φ' σ' τ' H2 t x _ _ R2 rt f fun φ3 σ3 τ3 H3 R3 _ _ k3=>?_
      exact hb (B.more Gh) φ3 σ3 τ3 H3 _ _ R3 k3 ⟨fun φ4 σ4 τ4 H4 R4 k4=>⟨hlt,φ4,τ4,R4,k4⟩,fun φ4 σ4 τ4 H4 R4 k4=>e.nx φ4 σ4 τ4 H4 R4.less.1 k4,fun φ4 σ4 τ4 H4 R4 k4=>⟨hlt,φ4,τ4,R4,k4⟩,fun t v H r x k f=>e.rt t v H r ⟨x.ext,x.st⟩ k f⟩
    · have ei:i=ts.length:=by omega
      subst ei
      rw [List.drop_length] at f
      exact .inl ⟨it.stop _ H' g0,e.nx φ' σ' τ' H' R0 f⟩
def lE (c:DT) (body:DS) (G:k_):Nat→TSt→Prop
  | 0,_=>False
  | n+1,τ=>c τ fun b=>if b=true then body { G with nx:=lE c body G n,ct:=lE c body G n,bk:=G.nx } τ else G.nx τ
def pV (c:DT) (body:DS):DS:=fun G τ=>∃ n,lE c body G n τ
theorem dm {c:TT} {tb:TS} {dc:DT} {db:DS} (hc:OkT K c dc) (hb:OkS K fr tb db):OkS K fr (ox c tb) (pV dc db):=fun B φ σ τ H E G R hd e=>by
  obtain ⟨n,hd⟩:=hd
  refine ⟨fun m σ' H'=>∃ φ' τ',RS K B φ' σ' τ' H'∧lE dc db G m τ',⟨n,φ,τ,R,hd⟩,?_⟩
  rintro m σ' H' ⟨φ',τ',R',f⟩
  cases m with
  | zero=>exact f.elim
  | succ m =>
    refine hc B φ' σ' τ' H' _ _ R' f fun b H1 x1 k1=>?_
    cases b with
    | true =>
      refine tW ⟨fun σ2 H2=>∃ φ2 τ2,RS K B φ2 σ2 τ2 H2∧lE dc db G m τ2,fun σ2 H2 w=>⟨m,by omega,w⟩,?_⟩
      exact hb B φ' σ' τ' H1 _ _ (R'.hx x1) k1 ⟨fun φ4 σ4 τ4 H4 R4 k4=>⟨φ4,τ4,R4,k4⟩,fun φ4 σ4 τ4 H4 R4 k4=>e.nx φ4 σ4 τ4 H4 R4 k4,fun φ4 σ4 τ4 H4 R4 k4=>⟨φ4,τ4,R4,k4⟩,e.rt⟩
    | false=>exact aC (e.nx φ' σ' τ' H1 (R'.hx x1) k1)
def tV (dg:DG) (dc:DT) (de:DE) (τi:TSt) (KK:List Tr→Prop):List Tr→List Tr→Prop
  | [],acc=>KK acc
  | x::xs,acc=>dg x τi fun τ2=>dc τ2 fun b=>if b=true then de τ2 fun y=>tV dg dc de τi KK xs (acc++[y]) else tV dg dc de τi KK xs acc
def xc4:TV→TV
  | .ow _=>.un
  | x=>x
def gm (tau:List (Option Nat)) (τ:TSt):TSt:=tau.map fun o=>match o with | some j=>xc4 (nth τ j) | none=>.un
def xcp (tau:List (Option Nat)) (di:DI) (dg:DG) (dc:DT) (de:DE):DE:=fun τ KK=>di τ fun xs=>xs.length < sizeLine∧tV dg dc de (gm tau τ) (fun ys=>KK (.lst ys)) xs []
def me:DT:=fun _ KK=>KK true
theorem zf:OkT K xaS me:=fun B φ σ τ H Q KK R hd q=>q true H (HX.refl R) hd
def FB.inner (B:FB) (φ:Phi) (τ:TSt) (H:Hp):FB:=⟨Av B φ,SA B φ τ,H,[]⟩
def tG (tau:List (Option Nat)) (φ:Phi) (τ:TSt):Phi:=fun i=>match tau[i]? with | some (some j)=>(match nth τ j with | .st=>φ j | _=>none) | _=>none
theorem fU {tau:List (Option Nat)}:∀ {i:Nat},nth (gm tau τ) i=match tau[i]? with | some (some j)=>xc4 (nth τ j) | _=>.un:=by
  intro i
  by_cases h:i < tau.length
  · have h':i < (gm tau τ).length:=by unfold gm; rw [List.length_map]; exact h
    rw [qk h',List.getElem?_eq_getElem h]
    simp only [gm,List.getElem_map]
    cases tau[i] <;> rfl
  · rw [wo (by unfold gm; rw [List.length_map]; omega),List.getElem?_eq_none (by omega)]
theorem gX {tau:List (Option Nat)} {i j:Nat} {v:V} (h:tau[i]? = some (some j)) (e:σ[j]? = some (some v)):(dY tau σ)[i]? = some (some v):=by
  unfold dY
  rw [List.getElem?_map,h]
  simp only [Option.map_some,e,Option.getD_some]
theorem RS.inner {tau:List (Option Nat)} (R:RS K B φ σ τ H):RS K (B.inner φ τ H) (tG tau φ τ) (dY tau σ) (gm tau τ) H:=by
  have hphi:∀ i a,tG tau φ τ i=some a→∃ j,tau[i]? = some (some j)∧nth τ j=.st∧φ j=some a:=fun i a e=>by
    unfold tG at e
    split at e
    · rename_i j hj
      split at e
      · rename_i hs; exact ⟨j,hj,hs,e⟩
      · cases e
    · cases e
  have hav:∀ a,Av (B.inner φ τ H) (tG tau φ τ) a→Av B φ a:=fun a z=>by
    rcases z with z | ⟨i,z⟩
    · exact z
    · obtain ⟨j,_,_,e⟩:=hphi i a z
      exact .inr ⟨j,e⟩
  refine ⟨fun a z=>R.dom z,fun a z=>R.sAv z,fun a o e _=>e,fun a s=>?_,fun i j a ts hi e1 _=>?_,fun i a e=>?_,?_,fun i=>?_,fun p hp=>absurd hp (by simp [FB.inner])⟩
  · rcases s with s | ⟨i,s,_⟩
    · exact R.sst a s
    · obtain ⟨j,_,hs,e⟩:=hphi i a s
      exact R.sst a (.inr ⟨j,e,hs⟩)
  · exfalso
    rw [fU] at hi
    split at hi
    · rename_i j hj
      revert hi
      cases nth τ j <;> intro hi <;> cases hi
    · cases hi
  · obtain ⟨j,_,_,e⟩:=hphi i a e
    exact R.ow j a e
  · unfold dY gm; rw [List.length_map,List.length_map]
  · rw [fU]
    split
    · rename_i j hj
      have en:=R.ent j
      cases hn:nth τ j with
      | un=>trivial
      | ow ts=>trivial
      | fz t =>
        rw [hn] at en
        obtain ⟨v,e,r⟩:=en
        exact ⟨v,gX hj e,yz (fun a o e n=>⟨e,fun z=>n (hav a z)⟩) _ _ r⟩
      | st =>
        rw [hn] at en
        obtain ⟨p,e1,e2,e3⟩:=en
        refine ⟨p,gX hj e1,?_,.inl (.inr ⟨j,e2,hn⟩)⟩
        unfold tG
        simp only [hj,hn]; exact e2
      | sc ns =>
        rw [hn] at en
        obtain ⟨a,e,l,q⟩:=en
        exact ⟨a,gX hj e,l,q⟩
      | ob a =>
        rw [hn] at en
        exact gX hj en
    · trivial
theorem yM {wi:TI} {tau:List (Option Nat)} {g:TG} {tc:TT} {te:TE} {di:DI} {dg:DG} {dc:DT} {de:DE} {b:Bool} (hi:xbB K wi di) (hg:OkN K g dg) (hc:OkT K tc dc) (he:OkE K b te de) :
    OkF K (lO wi tau g tc te) (xcp tau di dg dc de):=fun B φ σ τ H Q KK R hd q =>
  hi B φ σ τ H _ _ R hd fun J ts Src H1 x1 k1 it s1=>by
    refine ⟨fun i m ys H'=>m=ts.length-i∧i≤ts.length∧ys.length≤i∧HX B φ τ H H'∧Src H'∧∃ acc,zm (Av B φ) H' acc ys∧tV dg dc de (gm tau τ) (fun ys=>KK (.lst ys)) (ts.drop i) acc,⟨_,rfl,Nat.zero_le _,Nat.zero_le _,x1,s1,[],rfl,k1.2⟩,?_⟩
    rintro i m ys H' ⟨rfl,hle,hys,x,s,acc,ra,f⟩
    have R':=R.hx x
    by_cases hlt:i < ts.length
    · refine .inr ⟨it.go i H' s hlt,by have:=k1.1; omega,fun v H2 y=>?_⟩
      obtain ⟨gr,t,ht,rt⟩:=it.yld i H' v H2 s (fun a z=>R'.dom z) hlt y
      have hx:=gr.hx R'
      have R2:=R'.hx hx
      have ed:ts.drop i=t::ts.drop (i+1):=by
        rw [List.drop_eq_getElem_cons hlt]
        rw [List.getElem?_eq_getElem hlt] at ht
        cases ht; rfl
      rw [ed] at f
      refine hg (B.inner φ τ H2) _ _ _ H2 (Av B φ) t v _ _ R2.inner (fun a z=>?_) rt f fun φ3 σ3 τ3 R3 ha k3=>?_
      · rcases z with z | ⟨j,z⟩
        · exact z
        · unfold tG at z
          split at z
          · split at z
            · exact .inr ⟨_,z⟩
            · cases z
          · cases z
      have hsa:∀ a,SA (B.inner φ τ H2) φ3 τ3 a→SA B φ τ a:=fun a z=>by
        rcases z with z | ⟨j,z,hj⟩
        · exact z
        · have en:=R3.ent j
          rw [hj] at en
          obtain ⟨p,e1,e2,e3⟩:=en
          rw [z] at e2; cases e2
          rcases e3 with e3 | e3
          · exact e3
          · exact absurd e3 (R3.sst a (.inr ⟨j,z,hj⟩)).ne_none
      have hxo:∀ {H3 H4:Hp},HX (B.inner φ τ H2) φ3 τ3 H3 H4→HX B φ τ H3 H4:=fun {H3 H4} h=>⟨fun a o e n=>h.keep a o e fun z=>n (hsa a z),fun a z=>h.st a (.inl z)⟩
      refine hc _ φ3 σ3 τ3 H2 _ _ R3 k3 fun c H3 x3 k4=>?_
      have x23:=hxo x3
      have s3:=it.stab _ _ (it.stab _ _ s fun a o e n=>hx.keep a o e n) fun a o e n=>x23.keep a o e n
      cases c with
      | false =>
        refine aC ⟨_,by omega,rfl,hlt,by omega,(x.trans hx).trans x23,s3,acc,(hx.trans x23).repL (fun a z=>R.sAv z) ra,?_⟩
        simpa using k4
      | true =>
        refine tW (he _ φ3 σ3 τ3 H3 _ _ (R3.hx x3) k4 fun u w H4 x4 k5 r5=>?_)
        have x34:=hxo x4
        refine ⟨_,by omega,rfl,hlt,by rw [List.length_append,List.length_singleton]; omega,((x.trans hx).trans x23).trans x34,it.stab _ _ s3 fun a o e n=>x34.keep a o e n,acc++[u],(((hx.trans x23).trans x34).repL (fun a z=>R.sAv z) ra).app (show zm _ _ [u] [w] from ⟨w,[],rfl,?_,rfl⟩),k5⟩
        refine yz (fun a o e n=>⟨e,fun z=>n ?_⟩) _ _ r5
        cases b with
        | true=>exact .inl z
        | false=>exact .inl z
    · have ei:i=ts.length:=by omega
      subst ei
      rw [List.drop_length] at f
      refine .inl ⟨it.stop H' s,fun p hp=>q acc p ys _ (x.trans (HX.new R' hp _)) f (x.none hp) x_ (uj hp ra)⟩
end
end L2
namespace L2
open PySem PySem.Spec PyProof.Rows
def startT (N:List Str):Bool→List Tr→TSt
  | true,ts=>.st::(ts.map TV.fz++List.replicate (N.length-(ts.length+1)) .un)
  | false,ts=>ts.map TV.fz++List.replicate (N.length-ts.length) .un
theorem qG {ts:List Tr} {n i:Nat} {x:TV} (h:nth (ts.map TV.fz++List.replicate n .un) i=x):x=.un∨∃ t,ts[i]? = some t∧x=.fz t:=by
  by_cases hi:i < ts.length
  · right
    rw [qk (by simp; omega),List.getElem_append_left (by simpa using hi),List.getElem_map] at h
    exact ⟨_,List.getElem?_eq_getElem hi,h.symm⟩
  · left
    by_cases h2:i < ts.length+n
    · rw [qk (by simp; omega),List.getElem_append_right (by simp; omega),List.getElem_replicate] at h
      exact h.symm
    · rw [wo (by simp; omega)] at h
      exact h.symm
theorem qD {N:List Str} {vs:List V} {i:Nat} {v:V} (h:vs[i]? = some v):(start N vs)[i]? = some (some v):=by
  unfold start
  have hi:=(List.getElem?_eq_some_iff.mp h).1
  rw [List.getElem?_append_left (by simpa using hi),List.getElem?_map,h]; rfl
theorem k8 {N:List Str} {vs:List V} (h:vs.length≤N.length):(start N vs).length=N.length:=by
  unfold start; rw [List.length_append,List.length_map,List.length_replicate]; omega
section
variable {P:Program} {w:World} {K:PySem.W.Frag} {mg:Str→Option Value} {base:Heap} {k n:Nat} {x qual:Str} {st:Stmt} {f:Addr} {fd:FuncData} {N ps:List Str} {fr:Bool} {sp:TSp}
theorem jH {F S:Addr→Prop} {H:Hp} {ts:List Tr} {us:List V} (hF:∀ a,F a→H a≠none) (hS:∀ a,S a→F a) (hst:∀ a,S a→sT a H) (r:zm F H ts us) (hl:ts.length≤N.length) :
    RS K ⟨F,S,H,[]⟩ (fun _=>none) (start N us) (startT N false ts) H where
  f0:=hF
  s0:=hS
  ext:=fun a o e _=>e
  sst:=fun a s=>by
    rcases s with s | ⟨i,s,_⟩
    · exact hst a s
    · cases s
  inj:=fun i j a us _ e=>by cases e
  ow:=fun i a e=>by cases e
  len:=by
    have:=r.len
    rw [k8 (by omega)]
    simp [startT]; omega
  ent:=fun i=>by
    rcases qG (ts:=ts) (n:=N.length-ts.length) (i:=i) rfl with e | ⟨t,h,e⟩
    · show Ent K _ _ H i _ (nth (ts.map TV.fz++List.replicate (N.length-ts.length) .un) i)
      rw [e]; trivial
    · show Ent K _ _ H i _ (nth (ts.map TV.fz++List.replicate (N.length-ts.length) .un) i)
      rw [e]
      obtain ⟨v,e1,e2⟩:=r.getT h
      exact ⟨v,qD e1,yz (fun a o e n=>⟨e,fun z=>n (z.elim id fun ⟨_,z⟩=>nomatch z)⟩) _ _ e2⟩
  gh:=fun p hp=>absurd hp (by simp)
theorem nV {F S:Addr→Prop} {H:Hp} {ts:List Tr} {us:List V} {p:Addr} (hp:S p) (hF:∀ a,F a→H a≠none) (hS:∀ a,S a→F a) (hst:∀ a,S a→sT a H) (r:zm F H ts us) (hl:ts.length+1≤N.length) :
    RS K ⟨F,S,H,[]⟩ (fun i=>if i=0 then some p else none) (start N (.ref p::us)) (startT N true ts) H where
  f0:=hF
  s0:=hS
  ext:=fun a o e _=>e
  sst:=fun a s=>by
    rcases s with s | ⟨i,s,_⟩
    · exact hst a s
    · have s:(if i=0 then some p else none)=some a:=s
      by_cases e:i=0
      · rw [if_pos e] at s; cases s; exact hst _ hp
      · rw [if_neg e] at s; cases s
  inj:=fun i j a us hi e=>by
    exfalso
    by_cases e0:i=0
    · subst e0; cases hi
    · rw [if_neg e0] at e; cases e
  ow:=fun i a e=>by
    by_cases e0:i=0
    · rw [if_pos e0] at e; cases e; exact (hst _ hp).ne_none
    · rw [if_neg e0] at e; cases e
  len:=by
    have:=r.len
    rw [k8 (by rw [List.length_cons]; omega)]
    simp [startT]; omega
  ent:=fun i=>by
    cases i with
    | zero=>exact ⟨p,qD (by rfl),if_pos rfl,.inl hp⟩
    | succ i =>
      show Ent K _ _ H (i+1) _ (nth (ts.map TV.fz++List.replicate (N.length-(ts.length+1)) .un) i)
      rcases qG (ts:=ts) (n:=N.length-(ts.length+1)) (i:=i) rfl with e | ⟨t,h,e⟩
      · rw [e]; trivial
      · rw [e]
        obtain ⟨v,e1,e2⟩:=r.getT h
        refine ⟨v,qD (by rw [List.getElem?_cons_succ]; exact e1),yz (fun a o e n=>⟨e,fun z=>n ?_⟩) _ _ e2⟩
        rcases z with z | ⟨j,z⟩
        · exact z
        · have z:(if j=0 then some p else none)=some a:=z
          by_cases e0:j=0
          · rw [if_pos e0] at z; cases z; exact hS _ hp
          · rw [if_neg e0] at z; cases z
  gh:=fun p hp=>absurd hp (by simp)
theorem xS (F:Fun K x qual st f fd) (S:xI N ps (xk st)) (mgx:mg x=some (.ref f)) (b:Binds K fd ps []) (hn:ps.length=n)
    (body:∀ (cdv:Value) (A:Around) (outer:List Env) (s:Shared) (H:Hp) (E:XK),qI k (A.deeper (envOfC qual (xk st) s.heap.objs.size f cdv)) →
      ∃ T D,PSs (kK CX0 P w K mg base N qual (xk st) f cdv A outer s H E).nox (yF st) T∧OkS K fr T D∧∀ ts KK,ts.length=n→sp ts KK→D { nx:=fun _=>fr=false∧KK .non,rt:=KK } (startT N false ts)) :
    Own P w K mg base (k+1) x ps (spT n false fr sp):=by
  have hpl:ps.length≤N.length:=by have:=congrArg List.length S.pre; rw [List.length_take] at this; omega
  refine hG F S mgx b (fun vs H Q E h=>?_) (fun cdv A outer s H vs Q E hr h=>?_)
  · obtain ⟨F',S',ts,KK,us,e,_,_,_,r,l,_⟩:=h
    cases (show vs=us from e)
    rw [← r.len,l,hn]
  · obtain ⟨F',S',ts,KK,us,e,hF,hS,hst,r,l,hsp,q⟩:=h
    cases (show vs=us from e)
    obtain ⟨T,D,ht,hd,h⟩:=body cdv A outer s H E hr
    refine ⟨T,ht,hd _ _ _ _ H _ _ (jH hF hS hst r (by omega)) (h ts KK l hsp) ⟨fun φ σ τ H1 R k=>?_,fun _ _ _ _ _ z=>z.elim,fun _ _ _ _ _ z=>z.elim,fun t v H1 r1 x k fl=>?_⟩⟩
    · obtain ⟨k1,k2⟩:=k
      exact q .non .non H1 k2 R.ext (fun a z=>R.sst a (.inl z)) rfl fun z=>by rw [k1] at z; cases z
    · exact q t v H1 k x.ext x.st r1 fl
theorem jj (F:Fun K x qual st f fd) (S:xI N ps (xk st)) (mgx:mg x=some (.ref f)) (b:Binds K fd ps []) (hn:ps.length=n+1)
    (body:∀ (cdv:Value) (A:Around) (outer:List Env) (s:Shared) (H:Hp) (E:XK),qI k (A.deeper (envOfC qual (xk st) s.heap.objs.size f cdv)) →
      ∃ T D,PSs (kK CX0 P w K mg base N qual (xk st) f cdv A outer s H E).nox (yF st) T∧OkS K fr T D∧∀ ts KK,ts.length=n→sp ts KK→D { nx:=fun _=>fr=false∧KK .non,rt:=KK } (startT N true ts)) :
    Own P w K mg base (k+1) x ps (spT n true fr sp):=by
  have hpl:ps.length≤N.length:=by have:=congrArg List.length S.pre; rw [List.length_take] at this; omega
  refine hG F S mgx b (fun vs H Q E h=>?_) (fun cdv A outer s H vs Q E hr h=>?_)
  · obtain ⟨F',S',ts,KK,us,⟨p,e,_⟩,_,_,_,r,l,_⟩:=h
    rw [e,List.length_cons,← r.len,l,hn]
  · obtain ⟨F',S',ts,KK,us,⟨p,e,hp⟩,hF,hS,hst,r,l,hsp,q⟩:=h
    subst e
    obtain ⟨T,D,ht,hd,h⟩:=body cdv A outer s H E hr
    refine ⟨T,ht,hd _ _ _ _ H _ _ (nV hp hF hS hst r (by omega)) (h ts KK l hsp) ⟨fun φ σ τ H1 R k=>?_,fun _ _ _ _ _ z=>z.elim,fun _ _ _ _ _ z=>z.elim,fun t v H1 r1 x k fl=>?_⟩⟩
    · obtain ⟨k1,k2⟩:=k
      exact q .non .non H1 k2 R.ext (fun a z=>R.sst a (.inl z)) rfl fun z=>by rw [k1] at z; cases z
    · exact q t v H1 k x.ext x.st r1 fl
def xbR (H:Hp):Prop:=∀ b,(H b=none∨∃ o xs,H b=some (.frz o (.lst xs)))∨∃ q,H b=some (.tb q)
def tH (K:PySem.W.Frag):Sp:=fun vs H Q _=>∃ (a:Addr) (ns:List Int),vs=[.ref a]∧(xbR H∧pJ K H)∧SqL K H a (ns.map V.int)∧ns.length≤63∧∀ H',Q (.bl true) H'
theorem cj (F:Fun K x qual st f fd) (S:xI N ps (xk st)) (hn:ps.length=1)
    (body:∀ (cdv:Value) (A:Around) (outer:List Env) (s:Shared) (H:Hp) (E:XK),qI k (A.deeper (envOfC qual (xk st) s.heap.objs.size f cdv)) →
      ∃ T D,PSs (kK CX0 P w K mg base N qual (xk st) f cdv A outer s H E).nox (yF st) T∧OkS K false T D∧∀ ns:List Int,ns.length≤63→D { nx:=fun _=>False,rt:=fun t=>t=.bl true } (.sc ns::List.replicate (N.length-1) .un)) :
    gI P w K mg base CX0 (k+1) f fd ps (tH K):=by
  have hpl:ps.length≤N.length:=by have:=congrArg List.length S.pre; rw [List.length_take] at this; omega
  refine F.ok S (fun vs H Q E h=>?_) (fun cdv A outer s H vs Q E hr h=>?_)
  · obtain ⟨a,ns,rfl,_⟩:=h
    exact hn.symm
  · obtain ⟨a,ns,rfl,⟨hO,hT⟩,hS,hl,q⟩:=h
    obtain ⟨T,D,ht,hd,h⟩:=body cdv A outer s H E hr
    have so:cW K H a ns:=by
      refine ⟨?_,hT⟩
      rcases hS with (z | ⟨o,z⟩) | z
      · exfalso
        rcases hO a with (y | ⟨o,xs,y⟩) | ⟨_,y⟩
        · rw [y] at z; cases z
        · rw [y] at z; cases z
        · rw [y] at z; cases z
      · exact .inl ⟨o,z⟩
      · exact .inr fun _=>.inr z
    have R:RS K ⟨fun _=>False,fun _=>False,H,[]⟩ (fun _=>none) (start N [.ref a]) (.sc ns::List.replicate (N.length-1) .un) H:=by
      refine ⟨fun _ z=>z.elim,fun _ z=>z,fun _ _ e _=>e,fun a s=>?_,fun i j a us _ e=>(by cases e),fun i a e=>(by cases e),?_,fun i=>?_,fun p hp=>absurd hp (by simp)⟩
      · rcases s with s | ⟨i,s,_⟩
        · exact s.elim
        · cases s
      · rw [k8 (by simp; omega)]
        simp; omega
      · cases i with
        | zero=>exact ⟨a,qD rfl,hl,so⟩
        | succ i =>
          show Ent K _ _ H (i+1) _ (nth (List.replicate (N.length-1) .un) i)
          rcases qG (ts:=[]) (n:=N.length-1) (i:=i) rfl with e | ⟨t,h,e⟩
          · rw [List.map_nil,List.nil_append] at e
            rw [e]; trivial
          · simp at h
    refine ⟨T,ht,hd _ _ _ _ H _ _ R (h ns hl) ⟨fun _ _ _ _ _ z=>z.elim,fun _ _ _ _ _ z=>z.elim,fun _ _ _ _ _ z=>z.elim,fun t v H1 r1 x k fl=>?_⟩⟩
    cases (show t=.bl true from k)
    cases (show v=.bl true from r1)
    exact q H1
end
section
variable {K:PySem.W.Frag} {fr:Bool}
def pL (j i:Nat) (d:DE):DS:=fun G τ=>match nth τ i with | .sc _=>d τ (fun t=>match t with | .int k=>0≤k∧G.nx (τ.set j .st) | _=>False) | _=>False
theorem mU {b:Bool} {j i:Nat} {te:TE} {d:DE} (h:OkE K b te d):OkS K fr (lD (xah (s9 K) (jh (sM i) (jh te lX))) (gT j)) (pL j i d):=fun B φ σ τ H E G R hd e=>by
  have en:=R.ent i
  unfold pL at hd
  revert en hd
  cases hi:nth τ i with
  | sc ns =>
    intro hd ⟨a,e1,hl,so,_⟩
    refine ⟨_,e1,h B φ σ τ H _ _ R hd fun t v H1 x1 k1 r1=>?_⟩
    cases t with
    | int k =>
      cases (show v=.int k from r1)
      have sq:SqL K H1 a (ns.map V.int):=by
        rcases so with ⟨o,q⟩ | q
        · exact .inl (.inr ⟨o,x1.keep a _ q (gM R q)⟩)
        · exact q H1
      refine ⟨a,ns,k,rfl,sq,hl,k1.1,fun p n b hp hok=>?_⟩
      have x2:=x1.trans (HX.new (R.hx x1) hp (.lst [.int n,.bl b]))
      have z0:B.H0 p=none:=by
        cases q:B.H0 p with
        | none=>rfl
        | some o =>
          by_cases s:B.S0 p
          · exact absurd hp ((R.hx x1).sst p (.inl s)).ne_none
          · rw [(R.hx x1).ext p o q s] at hp; cases hp
      refine e.nx _ _ _ _ (R.setNew (x:=.st) x2 (x1.none hp) (by rw [x_]; exact fun z=>nomatch z) (fun _=>⟨n,b,x_,hok⟩) ⟨p,rfl,aW,.inr z0⟩) k1.2
    | _=>exact k1.elim
  | _=>exact fun z _=>z.elim
def tN:TSp:=fun ts KK=>match ts with | [.int many]=>(0 < many∧many < 2 ^ 128)∧∀ r,0≤r→r < many→KK (.int r) | _=>False
theorem bB {P:Program} {w:World} {mg:Str→Option Value} {base:Heap} {k:Nat} {x:Str} {ps:List Str} (h:Own P w K mg base k x ps og):Own P w K mg base k x ps (spT 1 true false tN):=h.imp fun vs H Q E q=>by
  obtain ⟨F,S,ts,KK,us,⟨p,e,hp⟩,hF,hS,hst,r,l,hsp,q⟩:=q
  unfold tN at hsp
  split at hsp
  · rename_i many
    obtain ⟨v,rfl,r1⟩:=qP r
    cases (show v=.int many from r1)
    refine ⟨p,many,e,hst p hp,hsp.1.1,hsp.1.2,fun r H' h0 h1 sb=>q (.int r) (.int r) H' (hsp.2 r h0 h1) (fun a o e n=>sb.keep a o (fun z=>n (by rw [z]; exact hp)) e) (fun a s=>?_) rfl (fun z=>nomatch z)⟩
    by_cases ea:a=p
    · rw [ea]; exact sb.st
    · obtain ⟨n,b,e1,z⟩:=hst a s
      exact ⟨n,b,sb.keep a _ ea e1,z⟩
  · exact hsp.elim
end
end L2
namespace L2
open PySem PySem.Spec PyProof.Rows
mutual
def qO:Tr→PyData
  | .non=>.none | .bl b=>.bool b | .int i=>.int i | .str x=>.str x | .emp=>.dict [] | .tup ts=>.tuple (wD ts) | .lst ts=>.list (wD ts)
def wD:List Tr→List PyData
  | []=>[]
  | t::ts=>qO t::wD ts
end
def teq (t u:Tr):Bool:=PyData.eqv (qO t) (qO u)
def pln (t:Tr):Bool:=(qO t).canLay0
def dep (t:Tr):Nat:=(qO t).depth
section
variable {X:Cx} {pins:List (Addr × Obj)} {σ:St} {H:Hp} {s:Shared}
mutual
theorem w5 (I:Inv X pins σ H s) {F:Addr→Prop}:∀ (t:Tr) (x:V) (a:Value),Rep F H t x→RelV x a→pln t=true→∃ as,Reads s.heap a (qO t) as
  | .non,x,a,r,e,_=>by cases (show x=.non from r); cases e; exact ⟨_,.none⟩
  | .bl b,x,a,r,e,_=>by cases (show x=.bl b from r); cases e; exact ⟨_,.bool b⟩
  | .int i,x,a,r,e,_=>by cases (show x=.int i from r); obtain ⟨t,rfl⟩:=e; exact ⟨_,.int i t⟩
  | .str i,x,a,r,e,_=>by cases (show x=.str i from r); obtain ⟨t,rfl⟩:=e; exact ⟨_,.str i t⟩
  | .emp,x,a,r,e,h=>by cases h
  | .tup ts,x,a,r,e,h=>by
    obtain ⟨p,ws,rfl,_,hp,rl⟩:=r
    cases e
    obtain ⟨its,rv,⟨o,ho,hc,n,hd⟩,_⟩:=I.tuple (SqT.of hp)
    obtain ⟨as,ra⟩:=w4 I ts ws its rl rv h
    exact ⟨_,.tuple ho hc hd (by simpa using ra)⟩
  | .lst ts,x,a,r,e,h=>by
    obtain ⟨p,ws,rfl,_,hp,rl⟩:=r
    cases e
    obtain ⟨its,rv,pl,_⟩:=I.list (SqL.of hp)
    obtain ⟨o,ho,hc,n,hd⟩:=pl.isList
    obtain ⟨as,ra⟩:=w4 I ts ws its rl rv h
    exact ⟨_,.list ho hc hd (by simpa using ra)⟩
theorem w4 (I:Inv X pins σ H s) {F:Addr→Prop}:∀ (ts:List Tr) (ws:List V) (us:List Value),zm F H ts ws→y_ ws us→PyData.canLayAll0 (wD ts)=true→∃ as,ReadsAll s.heap us (wD ts) as
  | [],ws,us,r,v,_=>by cases (show ws=[] from r); cases v; exact ⟨_,.nil⟩
  | t::ts,ws,us,r,v,h=>by
    obtain ⟨w,r',rfl,h1,h2⟩:=r
    cases v with
    | cons v1 v2 =>
      have h':pln t=true∧PyData.canLayAll0 (wD ts)=true:=by
        have:(pln t && PyData.canLayAll0 (wD ts))=true:=h
        simpa using this
      obtain ⟨as,ra⟩:=w5 I t w _ h1 v1 h'.1
      obtain ⟨bs,rb⟩:=w4 I ts r' _ h2 v2 h'.2
      exact ⟨_,.cons ra rb⟩
end
end
def xaf (t u:Tr):Prop:=pln t=true∧pln u=true∧min (dep t) (dep u)≤64
def xcK:R2:=fun x y H Q=>∃ F G t u,Rep F H t x∧Rep G H u y∧xaf t u∧Q (.bl (teq t u)) H
def xc5:R2:=fun x y H Q=>∃ F G t u,Rep F H t x∧Rep G H u y∧xaf t u∧Q (.bl (!teq t u)) H
section
variable {X:Cx}
theorem zh (hu:X.A.units+64 < cLine):OpR X (compareOp .Eq) xcK:=by
  intro pins s σ H x y v u Q I rx ry h
  obtain ⟨F,G,t,t',r1,r2,⟨p1,p2,p3⟩,q⟩:=h
  obtain ⟨as,ra⟩:=w5 I t x v r1 rx p1
  obtain ⟨bs,rb⟩:=w5 I t' y u r2 ry p2
  exact SeqAt.rcAt_reads ra rb p1 p2 (Nat.lt_of_le_of_lt (Nat.add_le_add_left p3 _) hu) X.prog X.w _ _ ⟨.bl _,H,I,rfl,q⟩
theorem yP (hu:X.A.units+64 < cLine):OpR X (compareOp .NotEq) xc5:=by
  intro pins s σ H x y v u Q I rx ry h
  obtain ⟨F,G,t,t',r1,r2,⟨p1,p2,p3⟩,q⟩:=h
  obtain ⟨as,ra⟩:=w5 I t x v r1 rx p1
  obtain ⟨bs,rb⟩:=w5 I t' y u r2 ry p2
  exact SeqAt.rcNeAt_reads ra rb p1 p2 (Nat.lt_of_le_of_lt (Nat.add_le_add_left p3 _) hu) X.prog X.w _ _ ⟨.bl _,H,I,rfl,q⟩
def xcO (neg:Bool):R2:=fun x y H Q=>∃ F G t ts,Rep F H t x∧(Rep G H (.lst ts) y∨Rep G H (.tup ts) y)∧pln t=true∧PyData.canLayAll0 (wD ts)=true∧dep t≤60∧Q (.bl (if neg then !(ts.any fun u=>teq u t) else ts.any fun u=>teq u t)) H
theorem jw {h:Heap} {d0:PyData} (e:Value→Bool) (he:∀ y d as,Reads h y d as→d.canLay0=true→e y=PyData.eqv d d0):∀ (ts:List Tr) (us:List Value) (as:List Addr),ReadsAll h us (wD ts) as→PyData.canLayAll0 (wD ts)=true→us.any e=ts.any fun u=>PyData.eqv (qO u) d0
  | [],us,as,r,_=>by cases r; rfl
  | t::ts,us,as,r,hl=>by
    have h':(qO t).canLay0=true∧PyData.canLayAll0 (wD ts)=true:=by
      have:((qO t).canLay0 && PyData.canLayAll0 (wD ts))=true:=hl
      simpa using this
    generalize hg:wD (t::ts)=ds at r
    cases r with
    | nil=>cases hg
    | cons r1 r2 =>
      have e1:qO t=_:=(List.cons.inj hg).1
      have e2:wD ts=_:=(List.cons.inj hg).2
      subst e1 e2
      rw [List.any_cons,List.any_cons,he _ _ _ r1 h'.1,jw e he ts _ _ r2 h'.2]
theorem fX {h:Heap} {y:Value}:∀ (ds:List PyData) (us:List Value) (as:List Addr),ReadsAll h us ds as→PyData.canLayAll0 ds=true→y∈us→∃ d as,Reads h y d as∧d.canLay0=true
  | [],us,as,r,_,hm=>by cases r; exact absurd hm (by simp)
  | d::ds,us,as,r,hl,hm=>by
    have h':d.canLay0=true∧PyData.canLayAll0 ds=true:=by
      have:(d.canLay0 && PyData.canLayAll0 ds)=true:=hl
      simpa using this
    cases r with
    | cons r1 r2 =>
      rcases List.mem_cons.mp hm with rfl | hm
      · exact ⟨d,_,r1,h'.1⟩
      · exact fX ds _ _ r2 h'.2 hm
open Classical in
def eBy (h:Heap) (d0:PyData) (y:Value):Bool:=if ∃ d as,Reads h y d as∧d.canLay0=true∧PyData.eqv d d0=true then true else false
theorem be {h:Heap} {d0:PyData} (y:Value) (d:PyData) (as:List Addr) (r:Reads h y d as) (hl:d.canLay0=true):eBy h d0 y=PyData.eqv d d0:=by
  unfold eBy
  cases hq:PyData.eqv d d0 with
  | true=>rw [if_pos ⟨d,as,r,hl,hq⟩]
  | false =>
    rw [if_neg]
    rintro ⟨d',as',r',hl',hq'⟩
    have:=SeqAt.Reads.unique d d' y as as' hl r r'
    subst this
    rw [hq] at hq'; cases hq'
theorem ly (hu:X.A.units+64 < cLine):OpR X (compareOp .NotIn) (xcO true):=by
  intro pins s σ H x y v u Q I rx ry h
  obtain ⟨F,G,t,ts,r1,r2,p1,p2,p3,q⟩:=h
  obtain ⟨as,ra⟩:=w5 I t x v r1 rx p1
  have room:∀ d:PyData,X.A.in1.units+min d.depth (qO t).depth < cLine:=fun d=>by
    have h1:min d.depth (qO t).depth≤60:=Nat.le_trans (Nat.min_le_right _ _) p3
    show X.A.units+1+_ < _
    omega
  have eqa:∀ (ds:List PyData) (us:List Value) (bs:List Addr),ReadsAll s.heap us ds bs→PyData.canLayAll0 ds=true→∀ z∈us,SeqAt.EqAt X.A.in1 s z v (eBy s.heap (qO t) z):=fun ds us bs rb hl z hz=>by
    obtain ⟨d,cs,rd,hd⟩:=fX ds us bs rb hl hz
    rw [be z d cs rd hd]
    exact SeqAt.eqAt_reads d (qO t) _ s z v _ _ rd ra hd p1 (room d)
  rcases r2 with r2 | r2
  · obtain ⟨p,ws,rfl,_,hp,rl⟩:=r2
    cases ry
    obtain ⟨its,rv,pl,_⟩:=I.list (SqL.of hp)
    obtain ⟨bs,rb⟩:=w4 I ts ws its rl rv p2
    refine SeqAt.notIn_listAt (eBy s.heap (qO t)) pl.isList (fun z hz=>eqa _ _ _ rb p2 z (by simpa using hz)) ⟨.bl _,H,I,?_,q⟩
    show Value.bool _=Value.bool _
    rw [if_pos rfl,show (ts.any fun u=>teq u t)=its.toArray.any (eBy s.heap (qO t)) from by
      rw [show (its.toArray.any (eBy s.heap (qO t)))=its.any (eBy s.heap (qO t)) by simp]
      exact (jw (eBy s.heap (qO t)) (fun y d as r hl=>be y d as r hl) ts its bs rb p2).symm]
  · obtain ⟨p,ws,rfl,_,hp,rl⟩:=r2
    cases ry
    obtain ⟨its,rv,pl,_⟩:=I.tuple (SqT.of hp)
    obtain ⟨bs,rb⟩:=w4 I ts ws its rl rv p2
    refine SeqAt.notIn_tupleAt (eBy s.heap (qO t)) pl (fun z hz=>eqa _ _ _ rb p2 z (by simpa using hz)) ⟨.bl _,H,I,?_,q⟩
    show Value.bool _=Value.bool _
    rw [if_pos rfl,show (ts.any fun u=>teq u t)=its.toArray.any (eBy s.heap (qO t)) from by
      rw [show (its.toArray.any (eBy s.heap (qO t)))=its.any (eBy s.heap (qO t)) by simp]
      exact (jw (eBy s.heap (qO t)) (fun y d as r hl=>be y d as r hl) ts its bs rb p2).symm]
end
def xai (neg:Bool) (x y:Tr) (KK:Tr→Prop):Prop:=match x,y with
  | .int i,.int j=>KK (.bl (if neg then !decide (i=j) else decide (i=j)))
  | x,y=>xaf x y∧KK (.bl (if neg then !teq x y else teq x y))
theorem cN (i j:Int):xaf (.int i) (.int j):=⟨rfl,rfl,by show min 0 0≤64; decide⟩
theorem mG {neg:Bool} {x y:Tr} {KK:Tr→Prop} (h:xai neg x y KK):xaf x y∧KK (.bl (if neg then !teq x y else teq x y)):=by
  unfold xai at h
  split at h
  · exact ⟨cN _ _,h⟩
  · exact h
theorem os_eq:OpS xcK (xai false):=fun F G H x y t u KK Q r1 r2 hf q=>by
  obtain ⟨h1,h2⟩:=mG hf
  exact ⟨F,G,t,u,r1,r2,h1,q _ _ rfl h2⟩
theorem zY:OpS xc5 (xai true):=fun F G H x y t u KK Q r1 r2 hf q=>by
  obtain ⟨h1,h2⟩:=mG hf
  exact ⟨F,G,t,u,r1,r2,h1,q _ _ rfl h2⟩
def fIn (neg:Bool) (x y:Tr) (KK:Tr→Prop):Prop:=match y with
  | .lst ts=>(pln x=true∧PyData.canLayAll0 (wD ts)=true∧dep x≤60)∧KK (.bl (if neg then !(ts.any fun u=>teq u x) else ts.any fun u=>teq u x))
  | .tup ts=>(pln x=true∧PyData.canLayAll0 (wD ts)=true∧dep x≤60)∧KK (.bl (if neg then !(ts.any fun u=>teq u x) else ts.any fun u=>teq u x))
  | _=>False
theorem xcq {neg:Bool}:OpS (xcO neg) (fIn neg):=fun F G H x y t u KK Q r1 r2 hf q=>by
  unfold fIn at hf
  split at hf
  · exact ⟨F,G,t,_,r1,.inl r2,hf.1.1,hf.1.2.1,hf.1.2.2,q _ _ rfl hf.2⟩
  · exact ⟨F,G,t,_,r1,.inr r2,hf.1.1,hf.1.2.1,hf.1.2.2,q _ _ rfl hf.2⟩
  · exact hf.elim
end L2
namespace L2
open PySem PySem.Spec PyProof.Rows
def xb6 (K:PySem.W.Frag) (tl:TE):TI:=fun σ H R=>tl σ H fun x H1=>∃ a,x=.ref a∧(((∃ xs,SqL K H1 a xs)∧R (Itl K a) H1)∨((∃ xs,SqT K H1 a xs)∧R (Itt K a) H1))
section
variable {X:Cx}
theorem zF (K:PySem.W.Frag) {tg l:Expr} {tl:TE} (hl:PE X l tl) (e:X.K=K:=by rfl):PI X tg l (xb6 K tl):=by
  subst e
  intro pins s σ H R I h
  refine thn (@hl pins s σ H _ I h) fun v s1 ⟨x,H1,I1,r1,q1⟩=>?_
  obtain ⟨a,e,q⟩:=q1
  subst e
  cases r1
  rcases q with ⟨⟨xs,hq⟩,q⟩ | ⟨⟨xs,hq⟩,q⟩
  · obtain ⟨its,rv,p,hz⟩:=I1.list hq
    refine wpAny_pyIter_list p.isList ?_
    refine ⟨s1.heap.objs.size,[s1.heap.objs.size],_,_,H1,rfl,I1.kept (t':=s1.toks) fun b o e=>Heap.get?_push_of_some _ e,bL a _,⟨_,Heap.get?_push_size _ rfl,rfl,rfl⟩,fun b hb=>?_,q⟩
    have e:b=s1.heap.objs.size:=by simpa using hb
    subst e
    exact I1.fpOk (Nat.le_refl _) (I1.hok.fresh (Nat.le_refl _))
  · obtain ⟨its,rv,p,hz⟩:=I1.tuple hq
    refine wpAny_pyIter_tuple (show s1.heap.IsTuple a its.toArray from p) ?_
    refine ⟨s1.heap.objs.size,[s1.heap.objs.size],_,_,H1,rfl,I1.kept (t':=s1.toks) fun b o e=>Heap.get?_push_of_some _ e,tx a _,⟨_,Heap.get?_push_size _ rfl,rfl,rfl⟩,fun b hb=>?_,q⟩
    have e:b=s1.heap.objs.size:=by simpa using hb
    subst e
    exact I1.fpOk (Nat.le_refl _) (I1.hok.fresh (Nat.le_refl _))
end
section
variable {K:PySem.W.Frag}
theorem yT {b:Bool} {te:TE} {d:DE} (h:OkE K b te d):OkI K b (xb6 K te) (xdf d):=fun B φ σ τ H R KK Rs hd q =>
  h B φ σ τ H _ _ Rs hd fun t v H1 x1 k1 r1=>by
    cases t with
    | lst ts =>
      obtain ⟨a,ws,e,n,ha,rl⟩:=id r1
      subst e
      exact ⟨a,rfl,.inl ⟨⟨ws,SqL.of ha⟩,q _ ts _ H1 x1 k1 pF fun p hp=>by
        cases List.mem_singleton.mp hp
        exact r1⟩⟩
    | tup ts =>
      obtain ⟨a,ws,e,n,ha,rl⟩:=id r1
      subst e
      exact ⟨a,rfl,.inr ⟨⟨ws,SqT.of ha⟩,q _ ts _ H1 x1 k1 lR fun p hp=>by
        cases List.mem_singleton.mp hp
        exact r1⟩⟩
    | _=>exact k1.elim
theorem bc {i:Nat}:xbB K (xb6 K (sM i)) (xcb i):=fun B φ σ τ H R KK Rs hd q=>by
  obtain ⟨v,e,a,ea,s,r⟩:=pA (i:=i) B φ σ τ H R KK Rs hd q
  exact ⟨v,e,a,ea,.inl ⟨s,r⟩⟩
end
def Ite (K:PySem.W.Frag) (b:Bool) (a:Addr):It :=
  ⟨fun i H=>∃ xs x,Sq2 K b H a xs∧xs[i]? = some x,
   fun i H v H'=>∃ x q,(∀ xs,Sq2 K b H a xs→xs[i]? = some x)∧v=.ref q∧H q=none∧H'=upd H q (.tup [.int i,x]),
   fun i H=>∃ xs,Sq2 K b H a xs∧xs.length≤i⟩
theorem Inv.sq2_inj {X:Cx} {pins:List (Addr × Obj)} {σ:St} {H:Hp} {s:Shared} {b:Bool} {a:Addr} {xs ys:List V} (I:Inv X pins σ H s) (h:Sq2 X.K b H a xs) (h':Sq2 X.K b H a ys):xs=ys:=by
  cases b with
  | true=>exact I.tuple_inj (show SqT X.K H a xs from h) h'
  | false=>exact I.list_inj (show SqL X.K H a xs from h) h'
theorem bR {prog:Program} {w:World} {A:Around} {it a:Addr} {vs:List Value} {tn:Nat→Heap→Prop} {src:Heap→Prop} (D:Drw it a vs tn src) (hne:a≠it) (hh:A.handled=none) :
    Draws prog w A it [it,a] vs.length (fun i x=>vs[i]? = some x) (fun i h=>tn i h∧src h) where
  live:=fun i h st=>let ⟨o,e,_⟩:=D.ob i h st.1; ⟨o,e⟩
  frame:=fun i h h' st k=>⟨D.mv _ _ _ st.1 (k it (by simp)),D.smv _ _ st.2 (k a (by simp))⟩
  item:=fun i s Q E hi st hQ=>D.item prog w A E i vs[i] s Q st.1 st.2 (List.getElem?_eq_getElem hi) fun h' t' sb=>hQ _ h' s.toks (List.getElem?_eq_getElem hi) ⟨t',D.smv _ _ st.2 fun o e=>sb.extBut _ o hne e⟩ sb
  done:=fun s Q E st hE=>D.fin prog w A E vs.length s Q hh st.1 st.2 (List.getElem?_eq_none (Nat.le_refl _)) hE
section
variable {P:Program} {w:World} {K:PySem.W.Frag} {e it a:Addr} {b:Bool}
def ESt (b:Bool) (e it a:Addr) (i:Nat) (h:Heap):Prop:=(∃ old,IsEnum h e it i old)∧Tn2 b it a i h
theorem br {elts:List Expr} {kk:Nat} {pp:Pos} (hei:e≠it) (hea:a≠e) (hia:a≠it):Turn P w K (.Tuple elts kk pp) (Ite K b a) [e,it] e (ESt b e it a) where
  mem:=by simp
  obj:=fun i h st c hc=>by
    obtain ⟨⟨old,s1⟩,s2⟩:=st
    simp only [List.mem_cons,List.not_mem_nil,or_false] at hc
    rcases hc with z | z <;> subst z
    · exact ⟨_,s1,fun v=>by simp⟩
    · exact (gK b _ a []).ob _ _ s2
  keep:=fun i h h' st k=>by
    obtain ⟨⟨old,s1⟩,s2⟩:=st
    exact ⟨⟨old,k _ (by simp) _ s1⟩,(gK b it a []).mv _ _ _ s2 fun o e=>k _ (by simp) o e⟩
  item:=by
    intro X hP hw hK hc i pins s σ H E I hf st hg
    subst hP hw hK
    obtain ⟨⟨old,s1⟩,s2⟩:=st
    obtain ⟨xs,x,sq1,hx⟩:=hg
    obtain ⟨vs,rv,c1⟩:=I.sq2 sq1
    obtain ⟨xv,ex,rx⟩:=rv.get hx
    have hi:i < vs.length:=(List.getElem?_eq_some_iff.mp ex).1
    have fr:H s.heap.objs.size=none:=I.hok.fresh (Nat.le_refl _)
    have D:=bR (prog:=X.prog) (w:=X.w) (A:=X.A.in1) (gK b it a vs) hia (show X.A.in1.handled=none from I.ok.hd hc)
    refine wpAny_pyNext_enum_itemD D s1 ⟨s2,c1⟩ hi hei (by simp [hei,Ne.symm hea]) fun xv' g tk hP ho st' hT hsz kp=>⟨_,rfl,?_⟩
    rw [ex] at hP; cases hP
    refine wpAny_letOwnedTupleGo_enum ho fun g2 he2 S2=>?_
    have lte:e < s.heap.objs.size:=Heap.lt_size s1
    have kp2:∀ c o,c∉[e,it]→s.heap.get? c=some o→g2.get? c=some o:=fun c o hc e=>by
      simp only [List.mem_cons,List.not_mem_nil,or_false,not_or] at hc
      exact S2.extBut _ _ hc.1 (kp c o hc.1 hc.2 e)
    have T2:=S2.extBut _ _ (Nat.ne_of_gt lte) hT
    have st2:ESt b e it a (i+1) g2:=⟨⟨_,by simpa using he2⟩,(gK b it a vs).mv _ _ _ st'.1 fun o q=>S2.extBut _ o (Ne.symm hei) q⟩
    have nfp:∀ c u,H c=some u→c∉[e,it]:=fun c u q hm=>by rw [(hf c hm).1] at q; cases q
    have nT:∀ c o,s.heap.get? c=some o→c≠s.heap.objs.size:=fun c o e=>Nat.ne_of_lt (Heap.lt_size e)
    refine ⟨.ref s.heap.objs.size,upd H s.heap.objs.size (.tup [.int i,x]),?_,rfl,⟨x,_,fun xs' h'=>by rw [← I.sq2_inj sq1 h']; exact hx,rfl,fr,rfl⟩,st2,fun c hm=>?_⟩
    · show Inv X pins σ (upd H s.heap.objs.size (.tup [.int i,x])) { s with heap:=g2,gens:=s.gens,drawn:=s.drawn,toks:=tk+1 }
      refine Inv.step (s:=s) (g':=s.gens) (d':=s.drawn) (t':=tk+1) (ch:=[e,it]) I (fun c hm=>?_) (fun c o _ _ hm e _=>kp2 c o hm e) (fun c o _ _ hm e _=>⟨o.slots,kp2 c o hm e⟩) (fun c o hm e n=>by rw [xY (nT c o e)]; exact n) (fun c o hm e=>⟨o,kp2 c o hm e⟩)
        (fun c zs e=>by rw [xY (xH e fr)]; exact e) (fun c o u e=>by rw [xY (xH e fr)]; exact e) (fun c ps e=>⟨#[],by rw [xY (xH e fr),e]; simp⟩) (fun m hm=>?_) (fun c u e=>?_) I.bare
      · obtain ⟨_,f1,_,f3,f4,f5⟩:=hf c hm
        exact ⟨f3,f1,f4,f5⟩
      · obtain ⟨o,es,ep,ho,r⟩:=hm
        exact ⟨o,es,ep,kp2 _ o (fun z'=>(hf _ z').2.1 rfl) ho,r⟩
      · by_cases hc':c=s.heap.objs.size
        · subst hc'
          rw [x_] at e
          cases e
          exact ⟨by show 2≤sizeLine; decide,[.int i tk,xv],.cons ⟨_,rfl⟩ (.cons rx .nil),_,T2,rfl,0,rfl⟩
        · rw [xY hc'] at e
          refine (I.hok c u e).stay (fun c' v hcc q'=>kp2 c' v ?_ q') (fun c' q'=>by rw [xY (xH q' fr)]; exact q') (fun c' zs q'=>by rw [xY (xH q' fr)]; exact q') fun c' o u q'=>by rw [xY (xH q' fr)]; exact q'
          rcases hcc with rfl | hcc
          · exact nfp _ _ e
          · exact nfp _ _ hcc
    · rw [xY]
      · exact (hf c hm).1
      · simp only [List.mem_cons,List.not_mem_nil,or_false] at hm
        rcases hm with z | z <;> subst z
        · exact nT _ _ s1
        · obtain ⟨o,e,_⟩:=(gK b _ a []).ob _ _ s2; exact nT _ _ e
  done:=by
    intro X hP hw hK hc i pins s σ H E I hf st hg
    subst hP hw hK
    obtain ⟨⟨old,s1⟩,s2⟩:=st
    obtain ⟨xs,sq1,hend⟩:=hg
    obtain ⟨vs,rv,c1⟩:=I.sq2 sq1
    have hT:s.TypeIs (.ref e) "enumerate" := ⟨_,s1,rfl⟩
    unfold pyNext
    refine wpAny_bind (wpAny_attempt (wpAny_callSpecial?_slot (name:=Str.ofString "__next__") hT F.slot_enumerate_next (wpAny_call_entry F.slot_enumerate_next hT F.entry_enumerate_next ?_ (F.args_enumerate_next_1 _))))
    show wpAny _ _ (field (.ref e) 2 >>= _) _ _ _
    refine wpAny_bind (wpAny_field s1 rfl (x:=.ref it) rfl ?_)
    refine wpAny_bind ((gK b it a vs).fin _ _ _ _ i s _ (I.ok.hd hc) s2 c1 (List.getElem?_eq_none (by rw [← rv.length]; exact hend)) fun g x kp hx'=>?_)
    obtain ⟨o,ho,hcl⟩:=hx'
    refine wpAny_bind (wpAny_isInstance (T := "StopIteration") (b:=true) ⟨o,ho,hcl⟩ isSubtype_stop (wpAny_pure ⟨rfl,?_⟩))
    have kp2:∀ c o,c∉[e,it]→s.heap.get? c=some o→g.get? c=some o:=fun c o hc q=>by
      simp only [List.mem_cons,List.not_mem_nil,or_false,not_or] at hc
      exact kp c o hc.2 q
    have nfp:∀ c u,H c=some u→c∉[e,it]:=fun c u q hm=>by rw [(hf c hm).1] at q; cases q
    refine Inv.step (s:=s) (g':=s.gens) (d':=s.drawn) (t':=s.toks) (ch:=[e,it]) I (fun c hm=>?_) (fun c o _ _ hm e _=>kp2 c o hm e) (fun c o _ _ hm e _=>⟨o.slots,kp2 c o hm e⟩) (fun c o hm e n=>n) (fun c o hm e=>⟨o,kp2 c o hm e⟩)
      (fun c zs e=>e) (fun c o u e=>e) (fun c ps e=>⟨#[],by rw [e]; simp⟩) (fun m hm=>?_) (fun c u e=>?_) I.bare
    · obtain ⟨_,f1,_,f3,f4,f5⟩:=hf c hm
      exact ⟨f3,f1,f4,f5⟩
    · obtain ⟨o,es,ep,ho,r⟩:=hm
      exact ⟨o,es,ep,kp2 _ o (fun z'=>(hf _ z').2.1 rfl) ho,r⟩
    · refine (I.hok c u e).stay (fun c' v hcc q'=>kp2 c' v ?_ q') (fun _ q'=>q') (fun _ _ q'=>q') fun _ _ _ q'=>q'
      rcases hcc with rfl | hcc
      · exact nfp _ _ e
      · exact nfp _ _ hcc
  self:=fun A i s Q E st h=>by
    obtain ⟨⟨old,s1⟩,_⟩:=st
    exact wpAny_pyIter_enum s1 h
end
open AutoSeq1 (wpAny_loadPart') in
theorem vH (l:Addr) (items:Array Value) (n:Nat) (dct:Option Addr) (sl:Array (Option Value)) :
    Meets (Builtin.«enumerate.__new__» ⟨[.type "enumerate", .ref l],[]⟩) (fun _ R s=>s.heap.get? l=some { cls:=.type "tuple", dict:=dct,data:=.seq items n,slots:=sl } ∧
      R (.ok (.ret (.ref (s.heap.push { cls:=.type "tuple_iterator", data:=.fields #[.ref l,.int 0 0] }).objs.size)))
        { s with heap:=(s.heap.push { cls:=.type "tuple_iterator", data:=.fields #[.ref l,.int 0 0] }).push { cls:=.type "enumerate", data:=.fields #[.none,.bool false,.ref s.heap.objs.size,rawInt 0,.none,.none] } }) :=
  .of_wp fun prog w A R s h=>by
    obtain ⟨hp,g,d,tk,os⟩:=s; obtain ⟨hl,h⟩:=h
    have hsub:=sub_enumerate
    have hL:Heap.IsTuple (Shared.heap ⟨hp,g,d,tk,os⟩) l items:=⟨_,hl,rfl,n,rfl⟩
    wp_walk using wpAny_loadPart' hl
    refine wpAny_stack_any fun st=>wpAny_pure ?_
    split
    · rename_i c _ _ _ _ _
      cases (c == Value.type "enumerate")
      · wp_walk using wpAny_loadPart' hl,wpAny_pyIter_tuple hL
        exact ⟨_,rfl,h⟩
      · wp_walk using wpAny_loadPart' hl,wpAny_pyIter_tuple hL
        exact ⟨_,rfl,h⟩
    · wp_walk using wpAny_loadPart' hl,wpAny_pyIter_tuple hL
      exact ⟨_,rfl,h⟩
section
variable {prog:Program} {w:World} {A:Around} {E:Value→Shared→Prop} {s:Shared}
theorem vG {l:Addr} {items:Array Value} {Q:Value→Shared→Prop} (hL:s.heap.IsTuple l items)
    (h:∀ h',IsEnum h' (s.heap.objs.size+1) s.heap.objs.size 0 .none→h'.IsTupleIter s.heap.objs.size l 0→h'.objs.size=s.heap.objs.size+2 →
      (∀ b o,s.heap.get? b=some o→h'.get? b=some o)→Q (.ref (s.heap.objs.size+1)) { s with heap:=h' }) :
    wpAny (model prog w) A (call (.type "enumerate") [.ref l]) Q E s:=by
  obtain ⟨⟨c,dct,dt,sl⟩,hl,hc,n,hd⟩:=hL
  replace hc:c=.type "tuple" := hc
  replace hd:dt=.seq items n:=hd
  subst hc hd
  refine callType_new F.called_enumerate (by decide) (F.typeCall_enumerate_1 _) (F.newCall_enumerate_1 _) (fun obj=>F.args_object_init_2 obj _) F.entry_enumerate_new
    (vH l items n dct sl) ⟨hl,?_⟩
  have hz:(s.heap.push { cls:=.type "tuple_iterator", data:=.fields #[.ref l,.int 0 0] }).objs.size=s.heap.objs.size+1:=Heap.size_push ..
  show _∧_
  rw [hz]
  have he:IsEnum ((s.heap.push { cls:=.type "tuple_iterator", data:=.fields #[.ref l,.int 0 0] }).push
      { cls:=.type "enumerate", data:=.fields #[.none,.bool false,.ref s.heap.objs.size,rawInt 0,.none,.none] }) (s.heap.objs.size+1) s.heap.objs.size 0 .none:=by
    have:=Heap.get?_push_size (s.heap.push { cls:=.type "tuple_iterator", data:=.fields #[.ref l,.int 0 0] })
      (o:={ cls:=.type "enumerate", data:=.fields #[.none,.bool false,.ref s.heap.objs.size,rawInt 0,.none,.none] }) rfl
    rw [hz] at this; exact this
  refine ⟨⟨_,he,rfl⟩,h _ he ⟨_,Heap.get?_push_of_some _ (Heap.get?_push_size _ rfl),rfl,rfl⟩ (by rw [Heap.size_push,hz]) fun b o x=>Heap.get?_push_of_some _ (Heap.get?_push_of_some _ x)⟩
end
theorem fZ:bootBuiltins "enumerate" = some (.type "enumerate"):=by decide +kernel
def xam (K:PySem.W.Frag) (ta:TA):TI:=fun σ H R=>ta σ H fun vs H1=>∃ (b:Bool) (a:Addr) (xs:List V),vs=[.ref a]∧Sq2 K b H1 a xs∧R (Ite K b a) H1
section
variable {X:Cx}
theorem mL (K:PySem.W.Frag) {elts:List Expr} {kk:Nat} {pp:Pos} {a:Expr} {ta:TA} {p pos:Pos} (hg:Gl X "enumerate") (hm:X.mg "enumerate" = none) (ha:PA X [a] ta) (hs:starEach [a] X.env=[(false,eval a X.env)]:=by rfl) (eK:X.K=K:=by rfl) :
    PI X (.Tuple elts kk pp) (.Call (.Name "enumerate" p) [a] [] pos) (xam K ta):=by
  subst eK
  intro pins s σ H R I h
  refine Call_ (gg I hg hm fZ (PyProof.Rows.callWith_type1 (thn (@ha pos pins s σ H _ I h) fun us s1 ⟨vs,H1,I1,r1,q1⟩=>?_) (by rw [hs]; rfl) (by rfl)))
  obtain ⟨bb,a1,xs,e,sq1,q⟩:=q1
  subst e
  obtain ⟨u1,rfl,ru⟩:=vals1 r1
  obtain rfl:u1=Value.ref a1:=ru
  obtain ⟨vs,rv,c1⟩:=I1.sq2 sq1
  have mk:∀ g,ESt bb (s1.heap.objs.size+1) s1.heap.objs.size a1 0 g→a1 < s1.heap.objs.size→(∀ c o,s1.heap.get? c=some o→g.get? c=some o) →
      wpAny (model X.prog X.w) X.A (pyIter (.ref (s1.heap.objs.size+1))) (PIE X pins σ (.Tuple elts kk pp) R) X.xe { s1 with heap:=g }:=fun g st la kp=>by
    obtain ⟨⟨old,he⟩,st2⟩:=st
    refine wpAny_pyIter_enum he ⟨_,[s1.heap.objs.size+1,s1.heap.objs.size],ESt bb (s1.heap.objs.size+1) s1.heap.objs.size a1,_,H1,rfl,I1.kept (t':=s1.toks) kp,
      br (Nat.succ_ne_self _) (Nat.ne_of_lt (Nat.lt_succ_of_lt la)) (Nat.ne_of_lt la),⟨⟨old,he⟩,st2⟩,fun b hb=>?_,q⟩
    simp only [List.mem_cons,List.not_mem_nil,or_false] at hb
    rcases hb with rfl | rfl
    · exact I1.fpOk (Nat.le_succ _) (I1.hok.fresh (Nat.le_succ _))
    · exact I1.fpOk (Nat.le_refl _) (I1.hok.fresh (Nat.le_refl _))
  cases bb with
  | true =>
    have c1:s1.heap.IsTuple a1 vs.toArray:=c1
    refine vG c1 ?_
    intro g z1 z2 _ kp
    refine mk g ⟨⟨_,z1⟩,z2⟩ ?_ kp
    obtain ⟨o,e,_⟩:=c1; exact Heap.lt_size e
  | false =>
    have c1:s1.heap.IsList a1 vs.toArray:=c1
    refine call_enumerate_list c1 ?_
    intro g z1 z2 _ kp
    refine mk g ⟨⟨_,z1⟩,z2⟩ ?_ kp
    obtain ⟨o,e,_⟩:=c1; exact Heap.lt_size e
end
def tQ:Nat→List Tr→List Tr
  | _,[]=>[]
  | k,t::ts=>.tup [.int k,t]::tQ (k+1) ts
def vR (ts:List Tr):List Tr:=tQ 0 ts
theorem wj:∀ (k:Nat) (ts:List Tr),(tQ k ts).length=ts.length
  | _,[]=>rfl
  | k,_::ts=>by show (tQ (k+1) ts).length+1=_; rw [wj]; rfl
theorem qx:∀ {k:Nat} {ts:List Tr} {i:Nat} {t:Tr},ts[i]? = some t→(tQ k ts)[i]? = some (.tup [.int ((k+i:Nat):Int),t])
  | _,[],_,_,h=>by simp at h
  | k,x::ts,0,t,h=>by simp at h; subst h; rfl
  | k,x::ts,i+1,t,h=>by
    show (tQ (k+1) ts)[i]? = _
    rw [qx (k:=k+1) (ts:=ts) (i:=i) (by simpa using h)]
    rw [show k+1+i=k+(i+1) by omega]
section
variable {K:PySem.W.Frag}
theorem mS {a:Addr} {ts:List Tr}:ItL (Ite K false a) (vR ts) [(.lst ts,.ref a)] where
  go:=fun F H i s hi=>by
    obtain ⟨a',ws,e,n,h,r⟩:=s _ List.mem_cons_self
    cases e
    rw [show (vR ts).length=ts.length from wj 0 ts] at hi
    obtain ⟨w,e1,_⟩:=r.getT (List.getElem?_eq_getElem hi)
    exact ⟨ws,w,SqL.of h,e1⟩
  stop:=fun F H s=>by
    obtain ⟨a',ws,e,n,h,r⟩:=s _ List.mem_cons_self
    cases e
    exact ⟨ws,SqL.of h,by rw [show (vR ts).length=ts.length from wj 0 ts,← r.len]; exact Nat.le_refl _⟩
  yld:=fun F i H x H' s d hi y=>by
    obtain ⟨a',ws,e,n,h,r⟩:=s _ List.mem_cons_self
    cases e
    obtain ⟨v,q,hv,rfl,hq,rfl⟩:=y
    obtain ⟨t,e1,e2⟩:=r.get (hv ws (SqL.of h))
    refine ⟨.inr ⟨q,_,hq,rfl⟩,.tup [.int i,t],?_,q,_,rfl,fun z=>d q z hq,x_,⟨_,_,rfl,rfl,_,_,rfl,fq hq e2,rfl⟩⟩
    have:=qx (k:=0) e1
    rw [Nat.zero_add] at this
    exact this
theorem nP {a:Addr} {ts:List Tr}:ItL (Ite K true a) (vR ts) [(.tup ts,.ref a)] where
  go:=fun F H i s hi=>by
    obtain ⟨a',ws,e,n,h,r⟩:=s _ List.mem_cons_self
    cases e
    rw [show (vR ts).length=ts.length from wj 0 ts] at hi
    obtain ⟨w,e1,_⟩:=r.getT (List.getElem?_eq_getElem hi)
    exact ⟨ws,w,SqT.of h,e1⟩
  stop:=fun F H s=>by
    obtain ⟨a',ws,e,n,h,r⟩:=s _ List.mem_cons_self
    cases e
    exact ⟨ws,SqT.of h,by rw [show (vR ts).length=ts.length from wj 0 ts,← r.len]; exact Nat.le_refl _⟩
  yld:=fun F i H x H' s d hi y=>by
    obtain ⟨a',ws,e,n,h,r⟩:=s _ List.mem_cons_self
    cases e
    obtain ⟨v,q,hv,rfl,hq,rfl⟩:=y
    obtain ⟨t,e1,e2⟩:=r.get (hv ws (SqT.of h))
    refine ⟨.inr ⟨q,_,hq,rfl⟩,.tup [.int i,t],?_,q,_,rfl,fun z=>d q z hq,x_,⟨_,_,rfl,rfl,_,_,rfl,fq hq e2,rfl⟩⟩
    have:=qx (k:=0) e1
    rw [Nat.zero_add] at this
    exact this
def xaX (d:DA):DI:=fun τ KK=>d τ fun xs=>match xs with | [.tup ts]=>KK (vR ts) | [.lst ts]=>KK (vR ts) | _=>False
theorem rF {b:Bool} {n:Nat} {ta:TA} {da:DA} (h:OkA K b n ta da):OkI K b (xam K ta) (xaX da):=fun B φ σ τ H R KK Rs hd q =>
  h B φ σ τ H _ _ Rs hd fun ts vs H1 x1 k1 l1 r1=>by
    split at k1
    · rename_i us
      obtain ⟨v,rfl,r⟩:=qP r1
      obtain ⟨a,ws,e,n,ha,rl⟩:=id r
      subst e
      exact ⟨true,a,ws,rfl,SqT.of ha,q _ _ _ H1 x1 k1 nP fun p hp=>by
        cases List.mem_singleton.mp hp
        exact r⟩
    · rename_i us
      obtain ⟨v,rfl,r⟩:=qP r1
      obtain ⟨a,ws,e,n,ha,rl⟩:=id r
      subst e
      exact ⟨false,a,ws,rfl,SqL.of ha,q _ _ _ H1 x1 k1 mS fun p hp=>by
        cases List.mem_singleton.mp hp
        exact r⟩
    · exact k1.elim
end
end L2
namespace L2
open PySem PySem.Spec PyProof.Rows
def xbm (K:PySem.W.Frag):R2:=fun x y H Q=>∃ a b xs ys,x=.ref a∧y=.ref b∧SqT K H a xs∧SqT K H b ys∧xs.length+ys.length≤sizeLine ∧
  (xs=[]→Q (.ref b) H)∧(xs≠[]→ys=[]→Q (.ref a) H)∧(xs≠[]→ys≠[]→∀ p,H p=none→Q (.ref p) (upd H p (.tup (xs++ys))))
section
variable {X:Cx}
theorem lK:OpR X (binaryOp .Add) (xbm X.K):=by
  intro pins s σ H x y v u Q I rx ry h
  obtain ⟨a,b,xs,ys,rfl,rfl,ha,hb,hz,q0,q1,q2⟩:=h
  by_cases hx:xs=[]
  · cases rx
    cases ry
    obtain ⟨its,r1,p1,_⟩:=I.tuple ha
    obtain ⟨its2,r2,p2,_⟩:=I.tuple hb
    obtain ⟨⟨cls,dd,data,sl⟩,ho,hc,n,hd⟩:=id p1
    obtain ⟨⟨cls2,dd2,data2,sl2⟩,ho2,hc2,n2,hd2⟩:=id p2
    simp only at hc hd hc2 hd2
    subst hc hd hc2 hd2
    have hv:its=[]:=r1.nil_iff.mpr hx
    exact concat_meets ⟨_,ho,rfl⟩ ⟨_,ho2,rfl⟩ noFill_tuple_add seq_tuple_add PySem.F.slot_tuple_add PySem.F.entry_tuple_add (PySem.F.args_tuple_add_2 _ _)
      (tuple_addW0 a b its.toArray its2.toArray n n2 dd dd2 sl sl2 (by simp [hv])) ⟨ho,ho2,⟨.ref b,H,I,rfl,q0 hx⟩⟩
  · exact lq pins s σ H _ _ _ _ Q I rx ry ⟨a,b,xs,ys,rfl,rfl,ha,hb,hx,hz,q1 hx,q2 hx⟩
def xak (K:PySem.W.Frag):R2:=fun x y H Q=>∃ a k xs,x=.ref a∧y=.int k∧SqT K H a xs∧xs≠[]∧2≤k∧k < 2 ^ 63∧xs.length*k.toNat≤sizeLine∧∀ p,H p=none→Q (.ref p) (upd H p (.tup (List.replicate k.toNat xs).flatten))
end
theorem kH:fillsNumberSlot (.type "tuple") "mul" = pure false :=
  PySem.fillsNumberSlot_seq (id := "tuple.__mul__") (r:=some (.builtin "tuple.__rmul__")) F.slot_tuple_mul.lookup (by decide +kernel) F.slot_tuple_rmul.lookup (by decide +kernel)
theorem fv:seqRepeat? (.type "tuple")=pure (some (.builtin "tuple.__mul__")):=by
  unfold seqRepeat?
  rw [PySem.seqSlot_of (T := "tuple") (name := "__mul__") (id := "tuple.__mul__") F.slot_tuple_mul.lookup (by decide +kernel),PySem.seqSlot_of (T := "tuple") (name := "__rmul__") (id := "tuple.__rmul__") F.slot_tuple_rmul.lookup (by decide +kernel)]
  rfl
open AutoSeq1 (wpAny_loadPart') in
theorem uO (a:Int) (t:Tok) (l:Addr) (items:Array Value) (n:Nat) (dd:Option Addr) (sl:Array (Option Value)) :
    Meets (Builtin.«int.__rmul__» ⟨[.int a t,.ref l],[]⟩) (fun _ R s=>s.heap.get? l=some { cls:=.type "tuple", dict:=dd,data:=.seq items n,slots:=sl }∧R (.ok (.ret Value.notImplemented)) s) :=
  .of_wp fun prog w A R s h=>by obtain ⟨hp,g,d,tk,os⟩:=s; obtain ⟨hl,h⟩:=h; wp_walk using wpAny_loadPart' hl; exact ⟨_,rfl,h⟩
open AutoSeq1 (wpAny_loadPart') in
theorem gN (l:Addr) (items:Array Value) (n:Nat) (dd:Option Addr) (sl:Array (Option Value)) (x:Int) (u:Tok) (h0:¬ items.isEmpty=true) (h1:2≤x) (h2:x < 2 ^ 63) (h3:items.size*x.toNat≤sizeLine) :
    Meets (Builtin.«tuple.__mul__» ⟨[.ref l,.int x u],[]⟩) (fun _ R s=>s.heap.get? l=some { cls:=.type "tuple", dict:=dd,data:=.seq items n,slots:=sl } ∧
      R (.ok (.ret (.ref s.heap.objs.size))) { s with heap:=s.heap.push { cls:=.type "tuple", data:=.seq ((List.replicate x.toNat items).foldl (·++·) #[]) } }) :=
  .of_wp fun prog w A R s h=>by
    obtain ⟨hp,g,d,tk,os⟩:=s; obtain ⟨hl,h⟩:=h
    have f1:=AutoSeq1.idx_int
    have c1:¬ (decide (x < -(2 ^ 63)) || decide (x≥2 ^ 63))=true:=by simp; omega
    have c2:¬ (items.isEmpty || x == 1)=true:=by simp; constructor; simpa using h0; omega
    have c3:¬ (decide (x≤0) || items.isEmpty)=true:=by simp; constructor; omega; simpa using h0
    wp_walk using wpAny_loadPart' hl
    rw [if_neg c1]
    wp_walk using wpAny_loadPart' hl
    rw [if_neg c2]
    show wpAny _ _ (if (decide (x≤0) || items.isEmpty)=true then _ else _) _ _ _
    rw [if_neg c3]
    have c4:¬ ((items.size:Int)*x > (2 ^ 63-1) / 8):=by
      have e:(items.size:Int)*x=((items.size*x.toNat:Nat):Int):=by rw [Int.natCast_mul,Int.toNat_of_nonneg (by omega)]
      rw [e]
      have:items.size*x.toNat≤16777216:=h3
      omega
    show wpAny _ _ (if (items.size:Int)*x > (2 ^ 63-1) / 8 then _ else _) _ _ _
    rw [if_neg c4]
    have c5:¬ Builtin.Tuple.tupleTooMany ((items.size:Int)*x)=true:=by
      unfold Builtin.Tuple.tupleTooMany
      have e:(items.size:Int)*x=((items.size*x.toNat:Nat):Int):=by rw [Int.natCast_mul,Int.toNat_of_nonneg (by omega)]
      rw [e]
      intro z
      have z':=of_decide_eq_true z
      have:(sizeLine:Int) < ((items.size*x.toNat:Nat):Int):=z'
      have h4:((items.size*x.toNat:Nat):Int)≤(sizeLine:Int):=Int.ofNat_le.mpr h3
      exact absurd this (Int.not_lt.mpr h4)
    show wpAny _ _ (if Builtin.Tuple.tupleTooMany ((items.size:Int)*x)=true then _ else _) _ _ _
    rw [if_neg c5]
    have hsz:(List.foldl (fun x1 x2=>x1++x2) #[] (List.replicate x.toNat items)).size≤sizeLine:=by
      have f0:=foldl_rep items.toList x.toNat []
      rw [List.nil_append] at f0
      have f1:List.foldl (fun x1 x2=>x1++x2) #[] (List.replicate x.toNat items)=(List.replicate x.toNat items.toList).flatten.toArray:=by simpa using f0
      rw [f1,List.size_toArray,len_rep,Nat.mul_comm,Array.length_toList]; exact h3
    exact wpAny_bind (m:=Builtin.Tuple.tupleExact _) (wpAny_newObj_type (wpAny_pure ⟨_,rfl,h⟩) hsz)
section
variable {X:Cx}
theorem l9:OpR X (binaryOp .Mult) (xak X.K):=by
  intro pins s σ H x y v u Q I rx ry h
  obtain ⟨a,k,xs,rfl,rfl,ha,hx,h1,h2,hz,q⟩:=h
  cases rx
  obtain ⟨t,rfl⟩:=ry
  obtain ⟨its,r,p1,_⟩:=I.tuple ha
  obtain ⟨⟨cls,dd,data,sl⟩,ho,hc,n,hd⟩:=id p1
  simp only at hc hd
  subst hc hd
  have hlen:=r.length
  have hne:¬ its.toArray.isEmpty=true:=by
    intro z
    have:its=[]:=by simpa using z
    exact hx (r.nil_iff.mp this)
  refine wpAny_binaryOp_repeat_ref (T := "tuple") (U := "int") (by decide) ⟨_,ho,rfl⟩ (fun s'=>typeIs_int s' k t) kH F.fills_int_mul F.slot_int_rmul fv F.slot_int_index.lookup
    (call_meets F.slot_int_rmul (typeIs_int s k t) F.entry_int_rmul (F.args_int_rmul_2 _ _) (uO k t a its.toArray n dd sl)
      ⟨ho,rfl,⟨_,ho,rfl⟩,call_meets F.slot_tuple_mul ⟨_,ho,rfl⟩ F.entry_tuple_mul (F.args_tuple_mul_2 _ _) (gN a its.toArray n dd sl k t hne h1 h2 (by rw [List.size_toArray,← hlen]; exact hz)) ⟨ho,?_⟩⟩)
  have hnew:List.foldl (fun x1 x2=>x1++x2) #[] (List.replicate k.toNat its.toArray)=(List.replicate k.toNat its).flatten.toArray:=by
    have:=foldl_rep its k.toNat []
    rw [List.nil_append] at this
    exact this
  rw [hnew]
  refine ⟨.ref s.heap.objs.size,_,I.laid (t':=s.toks) (o:=.tup (List.replicate k.toNat xs).flatten) (fun b ob q=>Heap.get?_push_of_some _ q) (Nat.le_refl _) ?_,rfl,q _ (I.hok.fresh (Nat.le_refl _))⟩
  exact ⟨by rw [len_rep,Nat.mul_comm]; exact hz,_,r.rep k.toNat,IsTup.new _ _⟩
def xaP (K:PySem.W.Frag):R2:=fun x y H Q=>(rI0 fun i j=>.int (i+j)) x y H Q∨xcl x y H Q∨xbm K x y H Q
theorem jk (K:PySem.W.Frag) (e:X.K=K:=by rfl):OpR X (binaryOp .Add) (xaP K):=by subst e; exact zp.or (jv.or lK)
def xbj (K:PySem.W.Frag):R2:=fun x y H Q=>(rI CM fun i j=>.int (i*j)) x y H Q∨xb_ x y H Q∨xak K x y H Q
theorem sH (K:PySem.W.Frag) (e:X.K=K:=by rfl):OpR X (binaryOp .Mult) (xbj K):=by subst e; exact ya.or (pZ.or l9)
def xc2 (K:PySem.W.Frag):R2:=fun x y H Q=>(rI0 fun i j=>.bl (decide (i < j))) x y H Q∨xc1 K x y H Q
theorem hZ (K:PySem.W.Frag) (hu:X.A.units+64 < cLine) (e:X.K=K:=by rfl):OpR X (compareOp .Lt) (xc2 K):=by subst e; exact xby.or (xaZ (Nat.lt_of_le_of_lt (Nat.le_add_right _ _) hu))
end
section
variable {prog:Program} {w:World} {A:Around} {E:Value→Shared→Prop} {s:Shared}
theorem vM {t sl:Addr} {items:Array Value} {vl vu:Value} {lo hi:Option Int} {Q:Value→Shared→Prop} (ht:IsTup s.heap t items) (hs:s.heap.IsSliceOf sl vl vu .none) (pl:IsPart vl lo) (pu:IsPart vu hi)
    (hw:HT.sIx items.size 0 lo=0∧HT.sIx items.size items.size hi=items.size) (h:Q (.ref t) s):wpAny (model prog w) A (getItem (.ref t) (.ref sl)) Q E s:=by
  obtain ⟨os,hos,hcs,hds⟩:=id hs
  have hTs:s.TypeIs (.ref sl) "slice" := ⟨os,hos,hcs⟩
  unfold getItem
  try with_reducible refine wpAny_holding ?_
  first | refine wpAny_bind (wpAny_pure ?_) | skip
  refine wpAny_bind (wpAny_sequenceKey ht.typeIs (by decide) ?_)
  refine wpAny_bind (wpAny_callSpecial?_slot (name:=Str.ofString "__getitem__") ht.typeIs PyProof.Rows.slot_tuple_getitem
    (wpAny_call_entry PyProof.Rows.slot_tuple_getitem ht.typeIs entry_tuple_getitem ?_ (args_tuple_getitem _ _)))
  show wpAny _ _ (Builtin.Tuple.tupleItemsOf (.ref t) >>= _) _ _ s
  refine wpAny_bind (tupleItemsOf_ ht ?_)
  refine wpAny_bind (wpAny_typeOf hTs ?_)
  rw [if_pos (by decide)]
  refine wpAny_bind (HT.uM hs pl pu ?_)
  have hyes:(((HT.sIx items.size 0 lo:Nat):Int) == 0 && (1:Int) == 1 && (HT.sIx items.size items.size hi-HT.sIx items.size 0 lo) == items.size)=true:=by
    rw [hw.1,hw.2]; simp
  show wpAny _ _ (if (((HT.sIx items.size 0 lo:Nat):Int) == 0 && (1:Int) == 1 && (HT.sIx items.size items.size hi-HT.sIx items.size 0 lo) == items.size)=true then _ else _) _ _ s
  rw [if_pos hyes]
  have hex:∀ {Q':Bool→Shared→Prop} {E':Value→Shared→Prop} {A':Around},Q' true s→wpAny (model prog w) A' (Builtin.Tuple.tupleIsExact (.ref t)) Q' E' s:=fun {Q' E' A'} hq=>by
    unfold Builtin.Tuple.tupleIsExact
    refine wpAny_bind (wpAny_typeOf ht.typeIs (wpAny_pure ?_))
    have e:(Value.type "tuple" == Value.type "tuple")=true:=by decide
    rw [e]; exact hq
  refine wpAny_bind (hex ?_)
  rw [if_pos rfl]
  exact wpAny_bind (wpAny_rule (wpAny_pure ⟨_,rfl,wpAny_pure h⟩))
end
section
variable {X:Cx}
def xaF (K:PySem.W.Frag):V→Option Int→Option Int→Hp→VK→Prop:=fun x lo hi H Q=>∃ a xs,x=.ref a∧SqT K H a xs ∧
  (tO xs lo hi=xs→Q (.ref a) H)∧∀ p,H p=none→Q (.ref p) (upd H p (.tup (tO xs lo hi)))
theorem l_:SlR X (xaF X.K):=by
  intro pins s σ H x v vl vu lo hi sl Q I rx hs pl pu h
  obtain ⟨a,xs,rfl,hx,q0,q⟩:=h
  by_cases hw:HT.sIx xs.length 0 lo=0∧HT.sIx xs.length xs.length hi=xs.length
  · cases rx
    obtain ⟨its,r,ht,hz⟩:=I.tuple hx
    have hlen:its.toArray.size=xs.length:=by rw [List.size_toArray]; exact r.length.symm
    refine ⟨"tuple", _,PyProof.Rows.slot_tuple_getitem.lookup,ht.typeIs,?_⟩
    refine vM ht hs pl pu (by rw [hlen]; exact hw) ⟨.ref a,H,I,rfl,q0 ?_⟩
    unfold tO
    rw [hw.1,hw.2,List.drop_zero,Nat.sub_zero,List.take_length]
  · exact xa1 pins s σ H _ v vl vu lo hi sl Q I rx hs pl pu ⟨a,xs,rfl,hx,hw,q⟩
def xcG (K:PySem.W.Frag):V→Option Int→Option Int→Hp→VK→Prop:=fun x lo hi H Q=>xay K x lo hi H Q∨xaF K x lo hi H Q
theorem mC (K:PySem.W.Frag) (e:X.K=K:=by rfl):SlR X (xcG K):=by
  subst e
  intro pins s σ H x v vl vu lo hi sl Q I rx hs pl pu h
  rcases h with h | h
  · exact bG pins s σ H x v vl vu lo hi sl Q I rx hs pl pu h
  · exact l_ pins s σ H x v vl vu lo hi sl Q I rx hs pl pu h
end
section
variable {K:PySem.W.Frag} {fr:Bool}
def lM (x y:Tr) (KK:Tr→Prop):Prop:=match x,y with
  | .int i,.int j=>KK (.int (i+j))
  | .lst ts,.lst us=>ts.length+us.length≤sizeLine∧KK (.lst (ts++us))
  | .tup ts,.tup us=>ts.length+us.length≤sizeLine∧KK (.tup (ts++us))
  | _,_=>False
theorem jx {b:Bool} {ta tb:TE} {da db:DE} (ha:OkE K b ta da) (hb:OkE K b tb db):OkE K b (tOp (xaP K) ta tb) (d2 lM da db):=fun B φ σ τ H Q KK R hd q =>
  ha B φ σ τ H _ _ R hd fun t v H1 x1 k1 r1=>hb B φ σ τ H1 _ _ (R.hx x1) k1 fun u w H2 x2 k2 r2=>by
    have r1':=x2.rep (fun a s=>R.sB s) r1
    have x:=x1.trans x2
    replace k2:lM t u KK:=k2
    unfold lM at k2
    split at k2
    · rename_i i j
      cases (show v=.int i from r1'); cases (show w=.int j from r2)
      exact .inl ⟨i,j,rfl,rfl,q _ _ H2 x k2 rfl⟩
    · rename_i ts us
      obtain ⟨a,ws,e,n,ha',rl⟩:=r1'
      obtain ⟨a2,ws2,e2,n2,ha2,rl2⟩:=r2
      exact .inr (.inl ⟨a,a2,ws,ws2,e,e2,ha',ha2,by rw [← rl.len,← rl2.len]; exact k2.1,fun p hp=>q _ _ _ (x.trans (HX.new (R.hx x) hp _)) k2.2 ⟨p,_,rfl,fun z=>(R.hx x).domB z hp,x_,zJ hp (rl.app rl2)⟩⟩)
    · rename_i ts us
      obtain ⟨a,ws,e,n,ha',rl⟩:=id r1'
      obtain ⟨a2,ws2,e2,n2,ha2,rl2⟩:=id r2
      refine .inr (.inr ⟨a,a2,ws,ws2,e,e2,SqT.of ha',SqT.of ha2,by rw [← rl.len,← rl2.len]; exact k2.1,fun z=>?_,fun _ z=>?_,fun _ _ p hp=>q _ _ _ (x.trans (HX.new (R.hx x) hp _)) k2.2 ⟨p,_,rfl,fun z=>(R.hx x).domB z hp,x_,zJ hp (rl.app rl2)⟩⟩)
      · have e0:ts=[]:=by
          have:=rl.len; rw [z] at this; exact List.length_eq_zero_iff.mp this
        subst e0
        rw [← e2]; exact q _ _ H2 x k2.2 (by rw [List.nil_append]; exact r2)
      · have e0:us=[]:=by
          have:=rl2.len; rw [z] at this; exact List.length_eq_zero_iff.mp this
        subst e0
        rw [← e]; exact q _ _ H2 x k2.2 (by rw [List.append_nil]; exact r1')
    · exact k2.elim
def oJ (x y:Tr) (KK:Tr→Prop):Prop:=match x,y with
  | .int i,.int j=>CM i j∧KK (.int (i*j))
  | .lst ts,.int k=>(0≤k∧k < 2 ^ 63)∧ts.length*k.toNat≤sizeLine∧KK (.lst (List.replicate k.toNat ts).flatten)
  | .tup ts,.int k=>ts≠[]∧(2≤k∧k < 2 ^ 63)∧ts.length*k.toNat≤sizeLine∧KK (.tup (List.replicate k.toNat ts).flatten)
  | _,_=>False
theorem sf {b:Bool} {ta tb:TE} {da db:DE} (ha:OkE K b ta da) (hb:OkE K b tb db):OkE K b (tOp (xbj K) ta tb) (d2 oJ da db):=fun B φ σ τ H Q KK R hd q =>
  ha B φ σ τ H _ _ R hd fun t v H1 x1 k1 r1=>hb B φ σ τ H1 _ _ (R.hx x1) k1 fun u w H2 x2 k2 r2=>by
    have r1':=x2.rep (fun a s=>R.sB s) r1
    have x:=x1.trans x2
    replace k2:oJ t u KK:=k2
    unfold oJ at k2
    split at k2
    · rename_i i j
      cases (show v=.int i from r1'); cases (show w=.int j from r2)
      exact .inl ⟨i,j,rfl,rfl,k2.1,q _ _ H2 x k2.2 rfl⟩
    · rename_i ts k
      obtain ⟨a,ws,e,n,ha',rl⟩:=r1'
      exact .inr (.inl ⟨a,k,ws,e,r2,ha',by have:=k2.1.1; omega,k2.1.2,by rw [← rl.len]; exact k2.2.1,fun p hp=>q _ _ _ (x.trans (HX.new (R.hx x) hp _)) k2.2.2 ⟨p,_,rfl,fun z=>(R.hx x).domB z hp,x_,zJ hp (qi rl _)⟩⟩)
    · rename_i ts k
      obtain ⟨a,ws,e,n,ha',rl⟩:=r1'
      refine .inr (.inr ⟨a,k,ws,e,r2,SqT.of ha',fun z=>k2.1 ?_,k2.2.1.1,k2.2.1.2,by rw [← rl.len]; exact k2.2.2.1,fun p hp=>q _ _ _ (x.trans (HX.new (R.hx x) hp _)) k2.2.2.2 ⟨p,_,rfl,fun z=>(R.hx x).domB z hp,x_,zJ hp (qi rl _)⟩⟩)
      have:=rl.len; rw [z] at this; exact List.length_eq_zero_iff.mp this
    · exact k2.elim
def xcI (x y:Tr) (KK:Tr→Prop):Prop:=match x,y with
  | .int i,.int j=>KK (.bl (decide (i < j)))
  | x,y=>∃ ns ms:List Int,x=.tup (ns.map Tr.int)∧y=.tup (ms.map Tr.int)∧KK (.bl (HT.lexLt ns ms))
theorem gc:OpS (xc2 K) xcI:=fun F G H x y t u KK Q r1 r2 hf q=>by
  unfold xcI at hf
  split at hf
  · rename_i i j
    cases (show x=.int i from r1); cases (show y=.int j from r2)
    exact .inl ⟨i,j,rfl,rfl,q _ _ rfl hf⟩
  · obtain ⟨ns,ms,rfl,rfl,k⟩:=hf
    obtain ⟨a,ws,e,n,ha,rl⟩:=r1
    obtain ⟨a2,ws2,e2,n2,ha2,rl2⟩:=r2
    rw [je rl] at ha
    rw [je rl2] at ha2
    exact .inr ⟨a,a2,ns,ms,e,e2,SqT.of ha,SqT.of ha2,q _ _ rfl k⟩
theorem tu {F:Addr→Prop} {H:Hp} {ts:List Tr} {ws:List V} {lo hi:Option Int} (r:zm F H ts ws) (h:tO ws lo hi=ws):qp ts lo hi=ts:=by
  unfold qp
  unfold tO at h
  rw [← r.len] at h
  have h1:((ts.drop (HT.sIx ts.length 0 lo)).take (HT.sIx ts.length ts.length hi-HT.sIx ts.length 0 lo)).length=ts.length:=by
    have:=congrArg List.length h
    rw [List.length_take,List.length_drop] at this ⊢
    rw [← r.len] at this
    exact this
  have h2:HT.sIx ts.length 0 lo=0∨ts.length=0:=by
    rw [List.length_take,List.length_drop] at h1
    omega
  rcases h2 with h2 | h2
  · rw [h2,List.drop_zero,Nat.sub_zero]
    rw [h2,List.length_take,List.drop_zero,Nat.sub_zero] at h1
    exact List.take_of_length_le (by omega)
  · have:ts=[]:=List.length_eq_zero_iff.mp h2
    subst this
    simp
theorem mw {b:Bool} {te:TE} {tl th:TO} {d:DE} {dl dh:DO} (h:OkE K b te d) (hl:OkO K tl dl) (hh:OkO K th dh):OkE K b (tSl (xcG K) te tl th) (dSl d dl dh):=fun B φ σ τ H Q KK R hd q =>
  h B φ σ τ H _ _ R hd fun t v H1 x1 k1 r1=>hl B φ σ τ H1 _ _ (R.hx x1) k1 fun lo H2 x2 k2=>hh B φ σ τ H2 _ _ (R.hx (x1.trans x2)) k2 fun hi H3 x3 k3=>by
    have r3:=(x2.trans x3).rep (fun a s=>R.sB s) r1
    have x:=(x1.trans x2).trans x3
    cases t with
    | lst ts =>
      obtain ⟨a,ws,e,n,ha,rl⟩:=r3
      exact .inl ⟨a,ws,e,SqL.of ha,fun p hp=>q _ _ _ (x.trans (HX.new (R.hx x) hp _)) k3 ⟨p,_,rfl,fun z=>(R.hx x).domB z hp,x_,zJ hp (rl.cut lo hi)⟩⟩
    | tup ts =>
      obtain ⟨a,ws,e,n,ha,rl⟩:=id r3
      refine .inr ⟨a,ws,e,SqT.of ha,fun z=>?_,fun p hp=>q _ _ _ (x.trans (HX.new (R.hx x) hp _)) k3 ⟨p,_,rfl,fun z=>(R.hx x).domB z hp,x_,zJ hp (rl.cut lo hi)⟩⟩
      rw [← e]
      exact q _ _ H3 x k3 (by rw [tu rl z]; exact r3)
    | _=>exact k3.elim
end
end L2
namespace L2
open PySem PySem.Spec PyProof.Rows
def lV (b:Bool):String:=if b then "tuple_iterator" else "list_iterator"
abbrev za1 (b:Bool) (h:Heap) (a:Addr):Heap:=h.push { cls:=.type (lV b),data:=.fields #[.ref a,.int 0 0] }
abbrev za2 (b c:Bool) (h:Heap) (a d:Addr):Heap:=(za1 b h a).push { cls:=.type (lV c),data:=.fields #[.ref d,.int 0 0] }
abbrev za3 (b c:Bool) (h:Heap) (a d:Addr):Heap:=(za2 b c h a d).push { cls:=.type "tuple", data:=.seq #[.ref h.objs.size,.ref (za1 b h a).objs.size] }
abbrev za4 (b c:Bool) (h:Heap) (a d:Addr):Heap:=(za3 b c h a d).push { cls:=.type "tuple", data:=.seq #[.none,.none] }
abbrev za5 (b c:Bool) (h:Heap) (a d:Addr):Heap:=(za4 b c h a d).push { cls:=.type "zip", data:=.fields #[.none,.bool false,.bool false,.ref (za2 b c h a d).objs.size,.ref (za3 b c h a d).objs.size] }
theorem jA {prog:Program} {w:World} {A:Around} {E:Value→Shared→Prop} {s:Shared} {b:Bool} {a:Addr} {vs:List Value} {Q:Value→Shared→Prop} (h:tT b a vs s.heap) (q:Q (.ref s.heap.objs.size) { s with heap:=za1 b s.heap a }):wpAny (model prog w) A (pyIter (.ref a)) Q E s:=by
  cases b with
  | true=>exact wpAny_pyIter_tuple (show s.heap.IsTuple a vs.toArray from h) q
  | false=>exact wpAny_pyIter_list (show s.heap.IsList a vs.toArray from h) q
theorem nv {b:Bool} {a:Addr} {vs:List Value} {h:Heap} (s:tT b a vs h) (o:Obj):tT b a vs (h.push o):=(gK b 0 a vs).smv _ _ s fun o' e=>Heap.get?_push_of_some _ e
theorem tX (b c:Bool) (a d:Addr) (xs ys:List Value):Meets (Builtin.«zip.__new__» ⟨[.type "zip", .ref a,.ref d],[]⟩) (fun _ R s=>tT b a xs s.heap∧tT c d ys s.heap∧R (.ok (.ret (.ref (za4 b c s.heap a d).objs.size))) { s with heap:=za5 b c s.heap a d }) :=
  .of_wp fun prog w A R s h=>by
    obtain ⟨hp,g,dd,tk,os⟩:=s
    obtain ⟨ha,hb,h⟩:=h
    have hsub:=sub_zip
    have A1:tT b a xs (Shared.heap ⟨hp,g,dd,tk,os⟩):=ha
    have B1:tT c d ys (Shared.heap ⟨hp.push { cls:=.type (lV b),data:=.fields #[.ref a,.int 0 0] },g,dd,tk,os⟩):=nv hb _
    wp_walk using jA A1,jA B1
    exact ⟨_,rfl,h⟩
section
variable {prog:Program} {w:World} {A:Around} {E:Value→Shared→Prop} {s:Shared}
theorem mf {b c:Bool} {a d:Addr} {xs ys:List Value} {Q:Value→Shared→Prop} (ha:tT b a xs s.heap) (hb:tT c d ys s.heap)
    (h:∀ g,IsZip g (s.heap.objs.size+4) (s.heap.objs.size+2) (s.heap.objs.size+3) .none→IsPair g (s.heap.objs.size+2) (.ref s.heap.objs.size) (.ref (s.heap.objs.size+1))→IsPair g (s.heap.objs.size+3) .none .none →
      Tn2 b s.heap.objs.size a 0 g→Tn2 c (s.heap.objs.size+1) d 0 g→(∀ c o,s.heap.get? c=some o→g.get? c=some o)→Q (.ref (s.heap.objs.size+4)) { s with heap:=g }) :
    wpAny (model prog w) A (call (.type "zip") [.ref a,.ref d]) Q E s:=by
  refine callType_new F.called_zip (by decide) (F.typeCall_zip_2 _ _) (F.newCall_zip_2 _ _) (fun obj=>F.args_object_init_3 obj _ _) F.entry_zip_new (tX b c a d xs ys) ⟨ha,hb,?_⟩
  have n1:(za1 b s.heap a).objs.size=s.heap.objs.size+1:=Heap.size_push ..
  have n2:(za2 b c s.heap a d).objs.size=s.heap.objs.size+2:=by rw [Heap.size_push,n1]
  have n3:(za3 b c s.heap a d).objs.size=s.heap.objs.size+3:=by rw [Heap.size_push,n2]
  have n4:(za4 b c s.heap a d).objs.size=s.heap.objs.size+4:=by rw [Heap.size_push,n3]
  have o5:(za5 b c s.heap a d).get? (za4 b c s.heap a d).objs.size=some _:=Heap.get?_push_size _ rfl
  have o4:(za5 b c s.heap a d).get? (za3 b c s.heap a d).objs.size=some _:=Heap.get?_push_of_some _ (Heap.get?_push_size _ rfl)
  have o3:(za5 b c s.heap a d).get? (za2 b c s.heap a d).objs.size=some _:=Heap.get?_push_of_some _ (Heap.get?_push_of_some _ (Heap.get?_push_size _ rfl))
  have o2:(za5 b c s.heap a d).get? (za1 b s.heap a).objs.size=some _:=Heap.get?_push_of_some _ (Heap.get?_push_of_some _ (Heap.get?_push_of_some _ (Heap.get?_push_size _ rfl)))
  have o1:(za5 b c s.heap a d).get? s.heap.objs.size=some _:=Heap.get?_push_of_some _ (Heap.get?_push_of_some _ (Heap.get?_push_of_some _ (Heap.get?_push_of_some _ (Heap.get?_push_size _ rfl))))
  show _∧_
  rw [n2,n3,n4] at o5
  rw [n1,n2] at o3
  rw [n3] at o4
  rw [n1] at o2
  rw [n4]
  refine ⟨⟨_,o5,rfl⟩,h _ o5 o3 o4 ?_ ?_ fun c o g=>Heap.get?_push_of_some _ (Heap.get?_push_of_some _ (Heap.get?_push_of_some _ (Heap.get?_push_of_some _ (Heap.get?_push_of_some _ g))))⟩
  · cases b with
    | true=>exact ⟨_,o1,rfl,rfl⟩
    | false=>exact ⟨_,o1,rfl,rfl⟩
  · cases c with
    | true=>exact ⟨_,o2,rfl,rfl⟩
    | false=>exact ⟨_,o2,rfl,rfl⟩
end
def xbO (K:PySem.W.Frag) (b c:Bool) (a1 a2:Addr):It :=
  ⟨fun i H=>∃ xs ys x y,Sq2 K b H a1 xs∧Sq2 K c H a2 ys∧xs[i]? = some x∧ys[i]? = some y,
   fun i H v H'=>∃ x y q,(∀ xs,Sq2 K b H a1 xs→xs[i]? = some x)∧(∀ ys,Sq2 K c H a2 ys→ys[i]? = some y)∧v=.ref q∧H q=none∧H'=upd H q (.tup [x,y]),
   fun i H=>∃ xs ys,Sq2 K b H a1 xs∧Sq2 K c H a2 ys∧(xs.length≤i∨ys.length≤i)⟩
section
variable {P:Program} {w:World} {K:PySem.W.Frag} {z ti to i1 i2 a1 a2:Addr} {b c':Bool}
def ZS2 (b c:Bool) (z ti to i1 i2 a1 a2:Addr) (i:Nat) (h:Heap):Prop:=IsZip h z ti to .none∧IsPair h ti (.ref i1) (.ref i2)∧(∃ p q,IsPair h to p q)∧Tn2 b i1 a1 i h∧Tn2 c i2 a2 i h
theorem ba {elts:List Expr} {kk:Nat} {pp:Pos} (D:ZA z ti to i1 i2 a1 a2):Turn P w K (.Tuple elts kk pp) (xbO K b c' a1 a2) [z,ti,to,i1,i2] z (ZS2 b c' z ti to i1 i2 a1 a2) where
  mem:=by simp
  obj:=fun i h st c hc=>by
    obtain ⟨s1,s2,⟨p,q,s3⟩,s4,s5⟩:=st
    simp only [List.mem_cons,List.not_mem_nil,or_false] at hc
    rcases hc with e | e | e | e | e <;> subst e
    · exact ⟨_,s1,fun v=>by simp⟩
    · exact ⟨_,s2,fun v=>by simp⟩
    · exact ⟨_,s3,fun v=>by simp⟩
    · exact (gK b _ a1 []).ob _ _ s4
    · exact (gK c' _ a2 []).ob _ _ s5
  keep:=fun i h h' st k=>by
    obtain ⟨s1,s2,⟨p,q,s3⟩,s4,s5⟩:=st
    exact ⟨k _ (by simp) _ s1,k _ (by simp) _ s2,⟨p,q,k _ (by simp) _ s3⟩,(gK b i1 a1 []).mv _ _ _ s4 fun o e=>k _ (by simp) o e,(gK c' i2 a2 []).mv _ _ _ s5 fun o e=>k _ (by simp) o e⟩
  item:=by
    intro X hP hw hK hc i pins s σ H E I hf st hg
    subst hP hw hK
    obtain ⟨Z,TI,⟨p,q,TO⟩,b1,b2⟩:=st
    obtain ⟨xs,ys,x,y,sq1,sq2,hx,hy⟩:=hg
    obtain ⟨vs,rv,c1⟩:=I.sq2 sq1
    obtain ⟨us,ru,c2⟩:=I.sq2 sq2
    obtain ⟨xv,ex,rx⟩:=rv.get hx
    obtain ⟨yv,ey,ry⟩:=ru.get hy
    have hT:s.TypeIs (.ref z) "zip" := ⟨_,Z,rfl⟩
    have fr:H s.heap.objs.size=none:=I.hok.fresh (Nat.le_refl _)
    unfold pyNext
    refine wpAny_bind (wpAny_attempt (wpAny_callSpecial?_slot (name:=Str.ofString "__next__") hT F.slot_zip_next (wpAny_call_entry F.slot_zip_next hT F.entry_zip_next (mZ D (gK b i1 a1 vs) (gK c' i2 a2 us) Z TI TO b1 b2 c1 c2 ex ey fun g Z' TO' b1' b2' T' kp=>?_) (F.args_zip_next_1 _))))
    refine wpAny_pure ⟨_,rfl,wpAny_letOwnedTupleGo_zip Z' fun g2 Z2 S2=>?_⟩
    obtain ⟨⟨d1,d2,d3,d4,d5,d6,d7,d8,d9,d10⟩,_⟩:=D
    have ltz:z < s.heap.objs.size:=Heap.lt_size Z
    have kp2:∀ c o,c∉[z,ti,to,i1,i2]→s.heap.get? c=some o→g2.get? c=some o:=fun c o hc e=>by
      simp only [List.mem_cons,List.not_mem_nil,or_false,not_or] at hc
      exact S2.extBut _ _ hc.1 (kp c o hc.1 hc.2.2.1 hc.2.2.2.1 hc.2.2.2.2 e)
    have TI2:IsPair g2 ti (.ref i1) (.ref i2):=S2.extBut _ _ d1 (kp _ _ d1 d5 d6 d7 TI)
    have T2:IsPair g2 s.heap.objs.size xv yv:=S2.extBut _ _ (Nat.ne_of_gt ltz) T'
    have st2:ZS2 b c' z ti to i1 i2 a1 a2 (i+1) g2:=⟨Z2,TI2,⟨_,_,S2.extBut _ _ d2 TO'⟩,(gK b i1 a1 vs).mv _ _ _ b1' fun o=>S2.extBut _ o d3,(gK c' i2 a2 us).mv _ _ _ b2' fun o=>S2.extBut _ o d4⟩
    have nfp:∀ c u,H c=some u→c∉[z,ti,to,i1,i2]:=fun c u e hm=>by rw [(hf c hm).1] at e; cases e
    have nT:∀ c o,s.heap.get? c=some o→c≠s.heap.objs.size:=fun c o e=>Nat.ne_of_lt (Heap.lt_size e)
    refine ⟨.ref s.heap.objs.size,upd H s.heap.objs.size (.tup [x,y]),?_,rfl,⟨x,y,_,fun xs' h'=>by rw [← I.sq2_inj sq1 h']; exact hx,fun ys' h'=>by rw [← I.sq2_inj sq2 h']; exact hy,rfl,fr,rfl⟩,st2,fun c hm=>?_⟩
    · show Inv X pins σ (upd H s.heap.objs.size (.tup [x,y])) { s with heap:=g2,gens:=s.gens,drawn:=s.drawn,toks:=s.toks }
      refine Inv.step (s:=s) (g':=s.gens) (d':=s.drawn) (t':=s.toks) (ch:=[z,ti,to,i1,i2]) I (fun c hm=>?_) (fun c o _ _ hm e _=>kp2 c o hm e) (fun c o _ _ hm e _=>⟨o.slots,kp2 c o hm e⟩) (fun c o hm e n=>by rw [xY (nT c o e)]; exact n) (fun c o hm e=>⟨o,kp2 c o hm e⟩)
        (fun c zs e=>by rw [xY (xH e fr)]; exact e) (fun c o u e=>by rw [xY (xH e fr)]; exact e) (fun c ps e=>⟨#[],by rw [xY (xH e fr),e]; simp⟩) (fun m hm=>?_) (fun c u e=>?_) I.bare
      · obtain ⟨_,f1,_,f3,f4,f5⟩:=hf c hm
        exact ⟨f3,f1,f4,f5⟩
      · obtain ⟨o,es,ep,ho,r⟩:=hm
        exact ⟨o,es,ep,kp2 _ o (fun z'=>(hf _ z').2.1 rfl) ho,r⟩
      · by_cases hc':c=s.heap.objs.size
        · subst hc'
          rw [x_] at e
          cases e
          exact ⟨by show 2≤sizeLine; decide,[xv,yv],.cons rx (.cons ry .nil),_,T2,rfl,0,rfl⟩
        · rw [xY hc'] at e
          refine (I.hok c u e).stay (fun c' v hcc q'=>kp2 c' v ?_ q') (fun c' q'=>by rw [xY (xH q' fr)]; exact q') (fun c' zs q'=>by rw [xY (xH q' fr)]; exact q') fun c' o u q'=>by rw [xY (xH q' fr)]; exact q'
          rcases hcc with rfl | hcc
          · exact nfp _ _ e
          · exact nfp _ _ hcc
    · rw [xY]
      · exact (hf c hm).1
      · simp only [List.mem_cons,List.not_mem_nil,or_false] at hm
        rcases hm with e | e | e | e | e <;> subst e
        · exact nT _ _ Z
        · exact nT _ _ TI
        · exact nT _ _ TO
        · obtain ⟨o,e,_⟩:=(gK b _ a1 []).ob _ _ b1; exact nT _ _ e
        · obtain ⟨o,e,_⟩:=(gK c' _ a2 []).ob _ _ b2; exact nT _ _ e
  done:=by
    intro X hP hw hK hc i pins s σ H E I hf st hg
    subst hP hw hK
    obtain ⟨Z,TI,⟨p,q,TO⟩,b1,b2⟩:=st
    obtain ⟨xs,ys,sq1,sq2,hend⟩:=hg
    obtain ⟨vs,rv,c1⟩:=I.sq2 sq1
    obtain ⟨us,ru,c2⟩:=I.sq2 sq2
    have hT:s.TypeIs (.ref z) "zip" := ⟨_,Z,rfl⟩
    have he:vs[i]? = none∨us[i]? = none:=hend.imp (fun h=>List.getElem?_eq_none_iff.mpr (by rw [← rv.length]; exact h)) (fun h=>List.getElem?_eq_none_iff.mpr (by rw [← ru.length]; exact h))
    unfold pyNext
    refine wpAny_bind (wpAny_attempt (wpAny_callSpecial?_slot (name:=Str.ofString "__next__") hT F.slot_zip_next (wpAny_call_entry F.slot_zip_next hT F.entry_zip_next (cV (I.ok.hd hc) D (gK b i1 a1 vs) (gK c' i2 a2 us) Z TI TO b1 b2 c1 c2 he fun g e kp ho=>?_) (F.args_zip_next_1 _))))
    obtain ⟨o,ho,hcl⟩:=ho
    refine wpAny_bind (wpAny_isInstance (T := "StopIteration") (b:=true) ⟨o,ho,hcl⟩ isSubtype_stop (wpAny_pure ⟨rfl,?_⟩))
    have kp2:∀ c o,c∉[z,ti,to,i1,i2]→s.heap.get? c=some o→g.get? c=some o:=fun c o hc e=>by
      simp only [List.mem_cons,List.not_mem_nil,or_false,not_or] at hc
      exact kp c o hc.1 hc.2.2.1 hc.2.2.2.1 hc.2.2.2.2 e
    have nfp:∀ c u,H c=some u→c∉[z,ti,to,i1,i2]:=fun c u e hm=>by rw [(hf c hm).1] at e; cases e
    refine Inv.step (s:=s) (g':=s.gens) (d':=s.drawn) (t':=s.toks) (ch:=[z,ti,to,i1,i2]) I (fun c hm=>?_) (fun c o _ _ hm e _=>kp2 c o hm e) (fun c o _ _ hm e _=>⟨o.slots,kp2 c o hm e⟩) (fun c o hm e n=>n) (fun c o hm e=>⟨o,kp2 c o hm e⟩)
      (fun c zs e=>e) (fun c o u e=>e) (fun c ps e=>⟨#[],by rw [e]; simp⟩) (fun m hm=>?_) (fun c u e=>?_) I.bare
    · obtain ⟨_,f1,_,f3,f4,f5⟩:=hf c hm
      exact ⟨f3,f1,f4,f5⟩
    · obtain ⟨o,es,ep,ho,r⟩:=hm
      exact ⟨o,es,ep,kp2 _ o (fun z'=>(hf _ z').2.1 rfl) ho,r⟩
    · refine (I.hok c u e).stay (fun c' v hcc q'=>kp2 c' v ?_ q') (fun _ q'=>q') (fun _ _ q'=>q') fun _ _ _ q'=>q'
      rcases hcc with rfl | hcc
      · exact nfp _ _ e
      · exact nfp _ _ hcc
  self:=fun A i s Q E st h=>wpAny_pyIter_zip st.1 h
end
def xbu (K:PySem.W.Frag) (ta:TA):TI:=fun σ H R=>ta σ H fun vs H1=>∃ (b c:Bool) (a1 a2:Addr) (xs ys:List V),vs=[.ref a1,.ref a2]∧Sq2 K b H1 a1 xs∧Sq2 K c H1 a2 ys∧R (xbO K b c a1 a2) H1
section
variable {X:Cx}
theorem gy (K:PySem.W.Frag) {elts:List Expr} {kk:Nat} {pp:Pos} {a b:Expr} {ta:TA} {p pos:Pos} (hg:Gl X "zip") (hm:X.mg "zip" = none) (ha:PA X [a,b] ta) (hs:starEach [a,b] X.env=[(false,eval a X.env),(false,eval b X.env)]:=by rfl) (hs2:starEach [b] X.env=[(false,eval b X.env)]:=by rfl) (eK:X.K=K:=by rfl) :
    PI X (.Tuple elts kk pp) (.Call (.Name "zip" p) [a,b] [] pos) (xbu K ta):=by
  subst eK
  intro pins s σ H R I h
  refine Call_ (gg I hg hm xbx (PyProof.Rows.callWith_type1 (thn (@ha pos pins s σ H _ I h) fun us s1 ⟨vs,H1,I1,r1,q1⟩=>?_) (by rw [hs,hs2]) (by rw [hs2]; rfl)))
  obtain ⟨bb,cc,a1,a2,xs,ys,e,sq1,sq2,q⟩:=q1
  subst e
  obtain ⟨u1,u2,rfl,e1,e2⟩:=vals2 r1
  obtain rfl:u1=Value.ref a1:=e1
  obtain rfl:u2=Value.ref a2:=e2
  obtain ⟨vs,rv,c1⟩:=I1.sq2 sq1
  obtain ⟨us,ru,c2⟩:=I1.sq2 sq2
  have fp:∀ k:Nat,tS X pins H1 (s1.heap.objs.size+k):=fun k=>I1.fpOk (Nat.le_add_right _ _) (I1.hok.fresh (Nat.le_add_right _ _))
  have lt:∀ (b:Bool) (a:Addr) (vs:List Value),tT b a vs s1.heap→a < s1.heap.objs.size:=fun b a vs h=>by
    cases b with
    | true=>obtain ⟨o,e,_⟩:=(show s1.heap.IsTuple a vs.toArray from h); exact Heap.lt_size e
    | false=>obtain ⟨o,e,_⟩:=(show s1.heap.IsList a vs.toArray from h); exact Heap.lt_size e
  refine mf c1 c2 ?_
  intro g z1 z2 z3 z4 z5 kp
  have st:ZS2 bb cc (s1.heap.objs.size+4) (s1.heap.objs.size+2) (s1.heap.objs.size+3) s1.heap.objs.size (s1.heap.objs.size+1) a1 a2 0 g:=⟨z1,z2,⟨_,_,z3⟩,z4,z5⟩
  refine wpAny_pyIter_zip st.1 ⟨_,_,_,_,H1,rfl,I1.kept (t':=s1.toks) kp,ba (xaC (lt _ _ _ c1) (lt _ _ _ c2)),st,fun c hc=>?_,q⟩
  simp only [List.mem_cons,List.not_mem_nil,or_false] at hc
  rcases hc with e | e | e | e | e <;> subst e
  · exact fp 4
  · exact fp 2
  · exact fp 3
  · exact fp 0
  · exact fp 1
end
def rV:List Tr→List Tr→List Tr
  | t::ts,u::us=>.tup [t,u]::rV ts us
  | _,_=>[]
theorem gj:∀ (ts us:List Tr),(rV ts us).length=min ts.length us.length
  | [],_=>by simp [rV]
  | _::_,[]=>by simp [rV]
  | _::ts,_::us=>by simp only [rV,List.length_cons,gj ts us]; omega
theorem aQ:∀ {ts us:List Tr} {i:Nat} {t u:Tr},ts[i]? = some t→us[i]? = some u→(rV ts us)[i]? = some (.tup [t,u])
  | [],_,_,_,_,h,_=>by simp at h
  | _::_,[],_,_,_,_,h=>by simp at h
  | _::_,_::_,0,_,_,h,h'=>by simp at h h'; subst h h'; rfl
  | _::ts,_::us,i+1,t,u,h,h'=>by
    show (rV ts us)[i]? = _
    exact aQ (by simpa using h) (by simpa using h')
def sqT (b:Bool) (ts:List Tr):Tr:=if b then .tup ts else .lst ts
section
variable {K:PySem.W.Frag}
theorem u9 {F:Addr→Prop} {H:Hp} {b:Bool} {ts:List Tr} {a:Addr} (h:Rep F H (sqT b ts) (.ref a)):∃ ws,Sq2 K b H a ws∧zm F H ts ws:=by
  cases b with
  | true =>
    obtain ⟨a',ws,e,n,h,r⟩:=(show Rep F H (.tup ts) (.ref a) from h)
    cases e
    exact ⟨ws,SqT.of h,r⟩
  | false =>
    obtain ⟨a',ws,e,n,h,r⟩:=(show Rep F H (.lst ts) (.ref a) from h)
    cases e
    exact ⟨ws,SqL.of h,r⟩
theorem cY {b c:Bool} {a1 a2:Addr} {ts us:List Tr}:ItL (xbO K b c a1 a2) (rV ts us) [(sqT b ts,.ref a1),(sqT c us,.ref a2)] where
  go:=fun F H i s hi=>by
    obtain ⟨ws,h1,r1⟩:=u9 (K:=K) (s _ List.mem_cons_self)
    obtain ⟨ws2,h2,r2⟩:=u9 (K:=K) (s _ (List.mem_cons_of_mem _ List.mem_cons_self))
    rw [gj] at hi
    obtain ⟨w,e1,_⟩:=r1.getT (List.getElem?_eq_getElem (i:=i) (by omega))
    obtain ⟨w2,e2,_⟩:=r2.getT (List.getElem?_eq_getElem (i:=i) (by omega))
    exact ⟨ws,ws2,w,w2,h1,h2,e1,e2⟩
  stop:=fun F H s=>by
    obtain ⟨ws,h1,r1⟩:=u9 (K:=K) (s _ List.mem_cons_self)
    obtain ⟨ws2,h2,r2⟩:=u9 (K:=K) (s _ (List.mem_cons_of_mem _ List.mem_cons_self))
    refine ⟨ws,ws2,h1,h2,?_⟩
    rw [gj,← r1.len,← r2.len]; omega
  yld:=fun F i H x H' s d hi y=>by
    obtain ⟨ws,h1,r1⟩:=u9 (K:=K) (s _ List.mem_cons_self)
    obtain ⟨ws2,h2,r2⟩:=u9 (K:=K) (s _ (List.mem_cons_of_mem _ List.mem_cons_self))
    obtain ⟨v,v2,q,hv,hv2,rfl,hq,rfl⟩:=y
    obtain ⟨t,e1,g1⟩:=r1.get (hv ws h1)
    obtain ⟨u,e2,g2⟩:=r2.get (hv2 ws2 h2)
    exact ⟨.inr ⟨q,_,hq,rfl⟩,.tup [t,u],aQ e1 e2,q,_,rfl,fun z=>d q z hq,x_,⟨_,_,rfl,fq hq g1,_,_,rfl,fq hq g2,rfl⟩⟩
def xci:Tr→Option (Bool × List Tr)
  | .tup ts=>some (true,ts)
  | .lst ts=>some (false,ts)
  | _=>none
def xbN (d:DA):DI:=fun τ KK=>d τ fun xs=>match xs with
  | [x,y]=>(match xci x,xci y with | some p,some q=>KK (rV p.2 q.2) | _,_=>False)
  | _=>False
theorem dq {x:Tr} {p:Bool × List Tr} (h:xci x=some p):x=sqT p.1 p.2:=by
  cases x with
  | tup ts=>cases h; rfl
  | lst ts=>cases h; rfl
  | _=>cases h
theorem nO {F:Addr→Prop} {H:Hp} {b:Bool} {ts:List Tr} {v:V} (h:Rep F H (sqT b ts) v):∃ a,v=.ref a:=by
  cases b with
  | true=>obtain ⟨a,ws,e,_⟩:=(show Rep F H (.tup ts) v from h); exact ⟨a,e⟩
  | false=>obtain ⟨a,ws,e,_⟩:=(show Rep F H (.lst ts) v from h); exact ⟨a,e⟩
theorem kS {b:Bool} {n:Nat} {ta:TA} {da:DA} (h:OkA K b n ta da):OkI K b (xbu K ta) (xbN da):=fun B φ σ τ H R KK Rs hd q =>
  h B φ σ τ H _ _ Rs hd fun ts vs H1 x1 k1 l1 r1=>by
    split at k1
    · rename_i x y
      split at k1
      · rename_i p p' e1 e2
        obtain ⟨v,w,rfl,g1,g2⟩:=bV r1
        rw [dq e1] at g1
        rw [dq e2] at g2
        obtain ⟨a1,rfl⟩:=nO g1
        obtain ⟨a2,rfl⟩:=nO g2
        obtain ⟨ws,s1,_⟩:=u9 (K:=K) g1
        obtain ⟨ws2,s2,_⟩:=u9 (K:=K) g2
        refine ⟨p.1,p'.1,a1,a2,ws,ws2,rfl,s1,s2,q _ _ _ H1 x1 k1 cY fun z hz=>?_⟩
        simp only [List.mem_cons,List.not_mem_nil,or_false] at hz
        rcases hz with rfl | rfl
        · exact g1
        · exact g2
      · exact k1.elim
    · exact k1.elim
end
end L2
namespace L2
open PySem PySem.Spec PyProof.Rows
theorem xq {X:Cx} (K:PySem.W.Frag) (e:X.K=K:=by rfl):IxR X (rIx K):=e ▸ xal
end L2
namespace L2
open PySem PySem.Spec PyProof.Rows
theorem rE {dg:DG} {body:DS} {G:k_} (W:List Tr→TSt→Prop) (h0:∀ τ,W [] τ→G.nx τ)
    (h1:∀ x xs τ (N:TSt→Prop),W (x::xs) τ→(∀ τ',W xs τ'→N τ')→dg x τ fun τ'=>body { G with nx:=N,ct:=N,bk:=G.nx } τ'):∀ xs τ,W xs τ→pj dg body G xs τ
  | [],τ,w=>h0 τ w
  | x::xs,τ,w=>h1 x xs τ (pj dg body G xs) w (rE W h0 h1 xs)
theorem wG {dg:DG} {body:DS} {G:k_} {all:List Tr} {τ:TSt} (W:Nat→TSt→Prop) (w0:W 0 τ)
    (h1:∀ i x τ (N:TSt→Prop),all[i]? = some x→W i τ→(∀ τ',W (i+1) τ'→N τ')→dg x τ fun τ'=>body { G with nx:=N,ct:=N,bk:=G.nx } τ')
    (h0:∀ τ,W all.length τ→G.nx τ):pj dg body G all τ:=by
  refine rE (fun xs τ=>∃ i,xs=all.drop i∧i≤all.length∧W i τ) (fun τ ⟨i,e,hi,w⟩=>h0 τ ?_) (fun x xs τ N ⟨i,e,hi,w⟩ hN=>?_) all τ ⟨0,rfl,Nat.zero_le _,w0⟩
  · have:all.length≤i:=by
      have:=congrArg List.length e
      rw [List.length_drop] at this
      simp at this
      omega
    have:i=all.length:=by omega
    rw [← this]; exact w
  · have hlt:i < all.length:=by
      have:=congrArg List.length e
      rw [List.length_drop] at this
      simp at this
      omega
    rw [List.drop_eq_getElem_cons hlt] at e
    injection e with e1 e2
    exact h1 i x τ N (by rw [e1]; exact List.getElem?_eq_getElem hlt) w fun τ' w'=>hN τ' ⟨i+1,e2,hlt,w'⟩
theorem aI {c:DT} {body:DS} {G:k_} (W:Nat→TSt→Prop)
    (h:∀ n τ (N:TSt→Prop),W n τ→(∀ m τ',m < n→W m τ'→N τ')→c τ fun b=>if b=true then body { G with nx:=N,ct:=N,bk:=G.nx } τ else G.nx τ):∀ k n τ,n < k→W n τ→lE c body G k τ
  | 0,_,_,hk,_=>absurd hk (by omega)
  | k+1,n,τ,hk,w=>h n τ (lE c body G k) w fun m τ' hm w'=>aI W h k m τ' (by omega) w'
theorem fE {c:DT} {body:DS} {G:k_} {τ:TSt} (W:Nat→TSt→Prop) (n:Nat) (w0:W n τ)
    (h:∀ n τ (N:TSt→Prop),W n τ→(∀ m τ',m < n→W m τ'→N τ')→c τ fun b=>if b=true then body { G with nx:=N,ct:=N,bk:=G.nx } τ else G.nx τ):pV c body G τ :=
  ⟨n+1,aI W h (n+1) n τ (Nat.lt_succ_self n) w0⟩
theorem uH {dg:DG} {dc:DT} {de:DE} {τi:TSt} {KK:List Tr→Prop} (W:List Tr→List Tr→Prop) (h0:∀ acc,W [] acc→KK acc)
    (h1:∀ x xs acc (N:List Tr→Prop),W (x::xs) acc→(∀ acc',W xs acc'→N acc')→dg x τi fun τ2=>dc τ2 fun b=>if b=true then de τ2 fun y=>N (acc++[y]) else N acc):∀ xs acc,W xs acc→tV dg dc de τi KK xs acc
  | [],acc,w=>h0 acc w
  | x::xs,acc,w=>h1 x xs acc (tV dg dc de τi KK xs) w (uH W h0 h1 xs)
theorem uB {dg:DG} {de:DE} {τi:TSt} {KK:List Tr→Prop} {xs:List Tr} (g:Tr→Tr) (h1:∀ x∈xs,∀ N:Tr→Prop,N (g x)→dg x τi fun τ2=>de τ2 N) (h0:KK (xs.map g)):tV dg me de τi KK xs []:=by
  refine uH (fun ys acc=>∃ zs,xs=zs++ys∧acc=zs.map g) (fun acc ⟨zs,e,e2⟩=>?_) (fun x ys acc N ⟨zs,e,e2⟩ hN=>?_) xs [] ⟨[],rfl,rfl⟩
  · rw [List.append_nil] at e
    subst e e2
    exact h0
  · subst e2
    have hx:x∈xs:=by rw [e]; simp
    exact h1 x hx (fun y=>N (zs.map g++[y])) (hN _ ⟨zs++[x],by rw [e]; simp,by simp⟩)
theorem kZ {dg:DG} {dc:DT} {de:DE} {τi:TSt} {KK:List Tr→Prop} {xs:List Tr} (p:Tr→Bool) (g:Tr→Tr)
    (h1:∀ x∈xs,∀ (N:Tr→Prop) (M:Prop),(p x=true→N (g x))→(p x=false→M)→dg x τi fun τ2=>dc τ2 fun b=>if b=true then de τ2 N else M) (h0:KK ((xs.filter p).map g)):tV dg dc de τi KK xs []:=by
  refine uH (fun ys acc=>∃ zs,xs=zs++ys∧acc=(zs.filter p).map g) (fun acc ⟨zs,e,e2⟩=>?_) (fun x ys acc N ⟨zs,e,e2⟩ hN=>?_) xs [] ⟨[],rfl,rfl⟩
  · rw [List.append_nil] at e
    subst e e2
    exact h0
  · subst e2
    have hx:x∈xs:=by rw [e]; simp
    refine h1 x hx (fun y=>N ((zs.filter p).map g++[y])) (N ((zs.filter p).map g)) (fun hp=>hN _ ⟨zs++[x],by rw [e]; simp,?_⟩) (fun hp=>hN _ ⟨zs++[x],by rw [e]; simp,?_⟩)
    · rw [List.filter_append,List.filter_cons_of_pos hp]; simp
    · rw [List.filter_append,List.filter_cons_of_neg (by rw [hp]; exact Bool.false_ne_true)]; simp
theorem cD {dg:DG} {de:DE} {τi:TSt} {KK:List Tr→Prop} {xs:List Tr} (R:Tr→Tr→Prop) (h1:∀ x∈xs,∀ N:Tr→Prop,(∀ y,R x y→N y)→dg x τi fun τ2=>de τ2 N)
    (h0:∀ ys,Paired R xs ys→KK ys):tV dg me de τi KK xs []:=by
  refine uH (fun ys acc=>∃ zs,xs=zs++ys∧Paired R zs acc) (fun acc ⟨zs,e,e2⟩=>?_) (fun x ys acc N ⟨zs,e,e2⟩ hN=>?_) xs [] ⟨[],rfl,.nil⟩
  · rw [List.append_nil] at e
    subst e
    exact h0 acc e2
  · have hx:x∈xs:=by rw [e]; simp
    exact h1 x hx (fun y=>N (acc++[y])) fun y hy=>hN _ ⟨zs++[x],by rw [e]; simp,jB e2 hy⟩
theorem vT {α:Type} {f:α→Tr} {l:List α} {i:Nat} {t:Tr} (h:(l.map f)[i]? = some t):∃ x,l[i]? = some x∧t=f x:=by
  rw [List.getElem?_map] at h
  cases e:l[i]? with
  | none=>rw [e] at h; cases h
  | some x=>rw [e] at h; cases h; exact ⟨x,rfl,rfl⟩
theorem qX {α:Type} (ts:List α) (n:Nat):atT ts (n:Int)=ts[n]?:=ft ts n
theorem xaH {α:Type} {ts:List α} {k:Int} (h0:0≤k):atT ts k=ts[k.toNat]?:=by
  obtain ⟨n,rfl⟩:∃ n:Nat,k=(n:Int):=⟨k.toNat,by omega⟩
  rw [qX]; simp
theorem rP {α:Type} (ts:List α) (t:α):atT (ts++[t]) (-1)=some t:=by
  rw [pN]; exact cQ ts t
theorem sqz {n:Nat} (h:n≤1000000):n < sizeLine:=Nat.lt_of_le_of_lt h (by decide)
theorem bN {n:Nat} (h:n≤1000000):n≤sizeLine:=Nat.le_of_lt (sqz h)
theorem y2 {a b:Int} (h:0≤b):a.fdiv b=a / b:=Int.fdiv_eq_ediv_of_nonneg a h
theorem c6 {a b:Int} (h:0≤b):a.fmod b=a % b:=Int.fmod_eq_emod_of_nonneg a h
end L2
namespace L2
open PySem PySem.Spec PyProof.Rows
section
variable {prog:Program} {w:World} {A:Around} {E:Value→Shared→Prop} {s:Shared}
theorem dj {it t:Addr} {items:Array Value} (hne:t≠it):∀ (n i:Nat) (s:Shared) (Q:List Value→Shared→Prop),s.heap.IsListIter it t i→s.heap.IsList t items→i+n≤items.size →
    (∀ h',h'.IsListIter it t (i+n)→Heap.SameBut it s.heap h'→Q ((items.toList.drop i).take n) { s with heap:=h' })→wpAny (model prog w) A (draw (.ref it) n) Q E s
  | 0,i,s,Q,hit,_,_,hQ=>by
    show wpAny _ _ (pure []) Q E s
    exact wpAny_pure (by simpa using hQ s.heap hit (Heap.SameBut.refl ..))
  | n+1,i,s,Q,hit,ht,hle,hQ=>by
    have hlt:i < items.size:=by omega
    show wpAny _ _ (pyNext (.ref it) >>= _) Q E s
    refine wpAny_bind (wpAny_pyNext_list_item hit ht (x:=items[i]) (by simp [hlt]) fun h₁ hit₁ hs₁=>?_)
    refine wpAny_bind (wpAny_holding (dj hne n (i+1) _ _ hit₁ (ht.extBut hs₁.extBut hne) (by omega) fun h₂ hit₂ hs₂=>wpAny_pure ?_))
    have hd:items.toList.drop i=items[i]::items.toList.drop (i+1):=by simp [List.drop_eq_getElem_cons,hlt]
    have:=hQ h₂ (by rw [show i+(n+1)=i+1+n by omega]; exact hit₂) (hs₁.trans hs₂)
    rw [hd,List.take_succ_cons] at this
    exact this
theorem kG {t:Addr} {items:Array Value} {Q:List Value→Shared→Prop} (hh:A.handled=none) (ht:s.heap.IsList t items)
    (hQ:∀ h',Heap.ExtBut s.heap.objs.size s.heap h'→Q items.toList { s with heap:=h' }):wpAny (model prog w) A (unpackItems (.ref t) items.size none) Q E s:=by
  have hlt:t≠s.heap.objs.size:=by obtain ⟨o,ho,_⟩:=ht; exact Nat.ne_of_lt (Heap.lt_size ho)
  unfold unpackItems
  refine wpAny_bind ?_
  · unfold notIterableAtAll
    refine wpAny_bind (wpAny_specialOf ht.typeIs slot_list_iter.lookup ?_)
    refine wpAny_pure ?_
    simp only [Bool.false_eq_true,if_false]
    refine wpAny_bind (wpAny_holding (wpAny_pyIter_list ht ?_))
    refine wpAny_bind (wpAny_holding (dj hlt items.size 0 _ _ ⟨_,Heap.get?_push_size _ rfl,rfl,rfl⟩ (ht.push _) (by omega) fun h₁ hit₁ hs₁=>?_))
    have hall:List.take items.size (List.drop 0 items.toList)=items.toList:=by
      rw [List.drop_zero]; exact List.take_of_length_le (by simp)
    rw [hall]
    rw [if_neg (by simp)]
    have ht₁:h₁.IsList t items:=(ht.push _).extBut hs₁.extBut hlt
    refine wpAny_bind (wpAny_holding (wpAny_pyNext_list_end hh hit₁ ht₁ (by simp) fun h₂ he₂=>?_))
    simp only [Option.isSome_none,Bool.false_eq_true,if_false]
    refine wpAny_pure (hQ h₂ fun b o hb e=>he₂ b o hb (hs₁.extBut b o hb (Heap.get?_push_of_some _ e)))
theorem se {t:Addr} {items:Array Value} {targets:List (Bool × (Value→Sem Unit))} {Q:Unit→Shared→Prop} (hh:A.handled=none) (ht:s.heap.IsList t items)
    (hn:targets.length=items.size) (hstar:targets.findIdx? (·.1)=none)
    (h:∀ h',Heap.ExtBut s.heap.objs.size s.heap h'→wpAny (model prog w) A (assignInOrder (targets.map (·.2)) items.toList) Q E { s with heap:=h' }) :
    wpAny (model prog w) A (unpack (.ref t) targets) Q E s:=by
  unfold unpack
  rw [hn,hstar]
  exact wpAny_bind (wpAny_holding (kG hh ht h))
theorem qS {env:Env} {elts:List Expr} {x1} {pos:Pos} {t:Addr} {items:Array Value} {Q:Unit→Shared→Prop} (hh:A.handled=none) (ht:s.heap.IsList t items)
    (hn:(assignEach elts env).length=items.size) (hstar:(assignEach elts env).findIdx? (·.1)=none)
    (h:∀ h',Heap.ExtBut s.heap.objs.size s.heap h'→wpAny (model prog w) A (assignInOrder ((assignEach elts env).map (·.2)) items.toList) Q E { s with heap:=h' }) :
    wpAny (model prog w) A (assign (.Tuple elts x1 pos) env (.ref t)) Q E s:=by
  rw [assign_Tuple]
  exact wpAny_bind (wpAny_standAt (se hh ht hn hstar h))
end
def xcZ (K:PySem.W.Frag) (n:Nat) (t:TGs):TG:=fun v σ H Q=>∃ a xs,v=.ref a∧SqL K H a xs∧xs.length=n∧t xs σ H Q
section
variable {X:Cx}
theorem lY (K:PySem.W.Frag) {pos:Pos} {es:List Expr} {k:Nat} {t:TGs} {n:Nat} (hc:X.calm=true) (h:PGs X es t)
    (hn:(assignEach es X.env).length=n:=by rfl) (hst:(assignEach es X.env).findIdx? (·.1)=none:=by rfl) (e:X.K=K:=by rfl):PG X (.Tuple es k pos) (xcZ K n t):=by
  subst e
  intro pins s σ H v u Q I r hw
  obtain ⟨a,xs,e1,hq,hl,hw⟩:=hw
  subst e1
  cases r
  obtain ⟨its,rv,⟨o,m,ho,hcl,hd,hs⟩,hz⟩:=I.list hq
  refine qS (I.ok.hd hc) (items:=its.toArray) ⟨o,ho,hcl,m,hs⟩ (by simp [hn,← hl,rv.length]) hst fun h' hx=>?_
  have I1:Inv X pins σ H { s with heap:=h' }:=I.kept (t':=s.toks) fun b o e=>hx b o (Nat.ne_of_lt (Heap.lt_size e)) e
  exact @h pins _ σ H xs _ Q I1 (by simpa using rv) hw
end
section
variable {K:PySem.W.Frag}
def xdq (n:Nat) (d:DGs):DG:=fun t τ KK=>match t with | .lst ts=>ts.length=n∧d ts τ KK | _=>False
theorem lB {n:Nat} {gs:TGs} {ds:DGs} (h:xaN K gs ds):OkN K (xcZ K n gs) (xdq n ds):=fun B φ σ τ H F t v Q KK R hF r hd q=>by
  cases t with
  | lst ts =>
    obtain ⟨a,ws,e,n,ha,rl⟩:=r
    exact ⟨a,ws,e,SqL.of ha,by rw [← rl.len]; exact hd.1,h B φ σ τ H F ts ws Q KK R hF rl hd.2 q⟩
  | _=>exact hd.elim
end
theorem xX {b:Bool} {A B:Prop} (h1:b=true→A) (h0:b=false→B):if b=true then A else B:=by
  cases b with
  | true=>exact tW (h1 rfl)
  | false=>exact aC (h0 rfl)
end L2
namespace Pol
abbrev R3:=Int × Int × Int
def val (r p:R3):Int:=r.1*p.1+r.2.1*p.2.1-r.2.2*p.2.2
def det (u v w:R3):Int:=u.1*(v.2.1*w.2.2-v.2.2*w.2.1)-u.2.1*(v.1*w.2.2-v.2.2*w.1)+u.2.2*(v.1*w.2.1-v.2.1*w.1)
def add (u v:R3):R3:=(u.1+v.1,u.2.1+v.2.1,u.2.2+v.2.2)
def mul (k:Int) (u:R3):R3:=(k*u.1,k*u.2.1,k*u.2.2)
theorem ext3 {u v:R3} (h1:u.1=v.1) (h2:u.2.1=v.2.1) (h3:u.2.2=v.2.2):u=v:=Prod.ext h1 (Prod.ext h2 h3)
theorem val_add (r p q:R3):val r (add p q)=val r p+val r q:=by simp only [val,add]; grind
theorem val_mul (r p:R3) (k:Int):val r (mul k p)=k*val r p:=by simp only [val,mul]; grind
theorem zO (u v w:R3):det u v w=det v w u:=by simp only [det]; grind
theorem rq (u v w:R3):det u w v = - det u v w:=by simp only [det]; grind
theorem ui (u v:R3):det u v v=0:=by simp only [det]; grind
theorem vf (u v:R3):det u u v=0:=by simp only [det]; grind
theorem vb (u v:R3):det u v u=0:=by simp only [det]; grind
theorem gJ (u v p q:R3):det u v (add p q)=det u v p+det u v q:=by simp only [det,add]; grind
theorem ur (u v p:R3) (k:Int):det u v (mul k p)=k*det u v p:=by simp only [det,mul]; grind
theorem four (r a b c d:R3):det b c d*val r a+det a b d*val r c=det a c d*val r b+det a b c*val r d:=by simp only [det,val]; grind
theorem oA (u v w p:R3):mul (det u v w) p=add (mul (det p v w) u) (add (mul (det u p w) v) (mul (det u v p) w)):=by
  apply ext3 <;> simp only [det,mul,add] <;> grind
theorem cX (r u w z p:R3) (hu:val r u=0) (hw:val r w=0):val r p*det u w z=val r z*det u w p:=by
  have h:=congrArg (val r) (oA u w z p)
  rw [val_mul,val_add,val_add,val_mul,val_mul,val_mul,hu,hw] at h
  rw [Int.mul_comm (val r p)]
  rw [h]; grind
theorem pp {a b:Int} (h:0 < a) (k:0 < b):0 < a*b:=Int.mul_pos h k
theorem pz {a b:Int} (h:0≤a) (k:0≤b):0≤a*b:=Int.mul_nonneg h k
theorem pn {a b:Int} (h:0≤a) (k:b≤0):a*b≤0:=Int.mul_nonpos_of_nonneg_of_nonpos h k
theorem np {a b:Int} (h:a≤0) (k:0≤b):a*b≤0:=Int.mul_nonpos_of_nonpos_of_nonneg h k
theorem nn {a b:Int} (h:a≤0) (k:b≤0):0≤a*b:=Int.mul_nonneg_of_nonpos_of_nonpos h k
theorem zr {a b:Int} (h:0 < a) (k:0 < a*b):0 < b:=by
  rcases Int.lt_or_le 0 b with z | z
  · exact z
  · have:=pn (Int.le_of_lt h) z; omega
theorem yV {a b:Int} (h:0 < a) (k:0≤a*b):0≤b:=by
  rcases Int.lt_or_le b 0 with z | z
  · have:=Int.mul_neg_of_pos_of_neg h z; omega
  · exact z
theorem fH {a b:Int} (h:0 < a) (k:a*b≤0):b≤0:=by
  rcases Int.lt_or_le 0 b with z | z
  · have:=pp h z; omega
  · exact z
theorem hX {a b:Int} (h:0 < a) (k:a*b=0):b=0:=(Int.mul_eq_zero.mp k).resolve_left (by omega)
inductive Cn (l:List R3):R3→Prop
  | zero:Cn l (0,0,0)
  | mem {v}:v∈l→Cn l v
  | add {p q}:Cn l p→Cn l q→Cn l (add p q)
theorem Cn.nsmul {l:List R3} {p:R3} (h:Cn l p):∀ k:Nat,Cn l (mul k p)
  | 0=>by
    have:mul ((0:Nat):Int) p=(0,0,0):=by apply ext3 <;> simp [mul]
    rw [this]; exact .zero
  | k+1=>by
    have:mul ((k+1:Nat):Int) p=Pol.add (mul k p) p:=by apply ext3 <;> simp only [mul,Pol.add] <;> grind
    rw [this]; exact (h.nsmul k).add h
theorem Cn.smul {l:List R3} {p:R3} (h:Cn l p) {k:Int} (hk:0≤k):Cn l (mul k p):=by
  have:=h.nsmul k.toNat
  rwa [Int.toNat_of_nonneg hk] at this
theorem Cn.mono {l l':List R3} {p:R3} (h:Cn l p) (hl:∀ v∈l,Cn l' v):Cn l' p:=by
  induction h with
  | zero=>exact .zero
  | mem m=>exact hl _ m
  | add _ _ h1 h2=>exact h1.add h2
theorem Cn.lin {l:List R3} {p:R3} (h:Cn l p) (g:R3→Int) (g0:g (0,0,0)=0) (ga:∀ p q,g (Pol.add p q)=g p+g q) (hl:∀ v∈l,0≤g v):0≤g p:=by
  induction h with
  | zero=>omega
  | mem m=>exact hl _ m
  | add _ _ h1 h2=>rw [ga]; omega
theorem Cn.valGe {l:List R3} {p:R3} (h:Cn l p) (r:R3) (hl:∀ v∈l,0≤Pol.val r v):0≤Pol.val r p :=
  h.lin (Pol.val r) (by simp [Pol.val]) (val_add r) hl
theorem Cn.det {l:List R3} {p:R3} (h:Cn l p) (u v:R3) (hl:∀ w∈l,0≤Pol.det u v w):0≤Pol.det u v p :=
  h.lin (Pol.det u v) (by simp [Pol.det]) (gJ u v) hl
theorem Cn.zeros {l:List R3} {p:R3} (h:Cn l p) (r:R3) (hl:∀ v∈l,0≤Pol.val r v) (h0:Pol.val r p≤0):Cn (l.filter fun v=>Pol.val r v=0) p:=by
  induction h with
  | zero=>exact .zero
  | @mem v m=>exact .mem (List.mem_filter.mpr ⟨m,by have:=hl v m; simp; omega⟩)
  | @add p q hp hq h1 h2 =>
    rw [val_add] at h0
    have a:=hp.valGe r hl
    have b:=hq.valGe r hl
    exact (h1 (by omega)).add (h2 (by omega))
theorem Cn.pair {u v p:R3} (h:Cn [u,v] p):∃ a b:Int,0≤a∧0≤b∧p=Pol.add (mul a u) (mul b v):=by
  induction h with
  | zero=>exact ⟨0,0,by omega,by omega,by apply ext3 <;> simp [Pol.add,mul]⟩
  | mem m =>
    simp only [List.mem_cons,List.not_mem_nil,or_false] at m
    rcases m with rfl | rfl
    · exact ⟨1,0,by omega,by omega,by apply ext3 <;> simp [Pol.add,mul]⟩
    · exact ⟨0,1,by omega,by omega,by apply ext3 <;> simp [Pol.add,mul]⟩
  | add _ _ h1 h2 =>
    obtain ⟨a,b,a0,b0,rfl⟩:=h1
    obtain ⟨c,d,c0,d0,rfl⟩:=h2
    exact ⟨a+c,b+d,by omega,by omega,by apply ext3 <;> simp only [Pol.add,mul] <;> grind⟩
def InC (l:List R3) (p:R3):Prop:=∃ m:Int,0 < m∧Cn l (mul m p)
structure Ccw (l:List R3):Prop where
  tri:∀ u v w:R3,List.Sublist [u,v,w] l→0 < det u v w
  nd:l.Nodup
theorem pI {u v w:R3} {l1 l2:List R3} (h:[u,v,w]=l1++l2):(l1=[]∧l2=[u,v,w])∨(l1=[u]∧l2=[v,w])∨(l1=[u,v]∧l2=[w])∨(l1=[u,v,w]∧l2=[]):=by
  cases l1 with
  | nil=>exact .inl ⟨rfl,h.symm⟩
  | cons a t =>
    injection h with h1 h2
    subst h1
    cases t with
    | nil=>exact .inr (.inl ⟨rfl,h2.symm⟩)
    | cons b t =>
      injection h2 with h1 h2
      subst h1
      cases t with
      | nil=>exact .inr (.inr (.inl ⟨rfl,h2.symm⟩))
      | cons c t =>
        injection h2 with h1 h2
        subst h1
        have:=List.append_eq_nil_iff.mp h2.symm
        rw [this.1,this.2]
        exact .inr (.inr (.inr ⟨rfl,rfl⟩))
theorem Ccw.rot {a b:List R3} (h:Ccw (a++b)):Ccw (b++a):=by
  refine ⟨fun u v w s=>?_,?_⟩
  · obtain ⟨l1,l2,e,s1,s2⟩:=List.sublist_append_iff.mp s
    have s3:=List.Sublist.append s2 s1
    rcases pI e with ⟨rfl,rfl⟩ | ⟨rfl,rfl⟩ | ⟨rfl,rfl⟩ | ⟨rfl,rfl⟩
    · exact h.tri _ _ _ (by simpa using s3)
    · have:=h.tri _ _ _ (show List.Sublist [v,w,u] (a++b) by simpa using s3)
      rw [zO]; exact this
    · have:=h.tri _ _ _ (show List.Sublist [w,u,v] (a++b) by simpa using s3)
      rw [← zO]; exact this
    · exact h.tri _ _ _ (by simpa using s3)
  · have:=h.nd
    rw [List.nodup_append] at this ⊢
    exact ⟨this.2.1,this.1,fun x hx y hy e=>this.2.2 y hy x hx e.symm⟩
theorem Ccw.alt {l:List R3} (h:Ccw l) (r:R3) {a b c d:R3} (s:List.Sublist [a,b,c,d] l):¬ (0 < val r a∧val r b≤0∧0 < val r c∧val r d≤0)∧¬ (val r a≤0∧0 < val r b∧val r c≤0∧0 < val r d):=by
  have h1:=h.tri b c d (List.Sublist.trans (List.Sublist.cons _ (List.Sublist.refl _)) s)
  have h2:=h.tri a b d (List.Sublist.trans (by simp) s)
  have h3:=h.tri a c d (List.Sublist.trans (by simp) s)
  have h4:=h.tri a b c (List.Sublist.trans (by simp) s)
  have e:=four r a b c d
  constructor
  · rintro ⟨x1,x2,x3,x4⟩
    have:=pp h1 x1
    have:=pp h2 x3
    have:=pn (Int.le_of_lt h3) x2
    have:=pn (Int.le_of_lt h4) x4
    omega
  · rintro ⟨x1,x2,x3,x4⟩
    have:=pn (Int.le_of_lt h1) x1
    have:=pn (Int.le_of_lt h2) x3
    have:=pp h3 x2
    have:=pp h4 x4
    omega
theorem s_ (f:R3→Bool):∀ l:List R3,l=l.takeWhile f++l.dropWhile f:=fun l=>(List.takeWhile_append_dropWhile (p:=f) (l:=l)).symm
theorem bh {f:R3→Bool} {x:R3}:∀ {l:List R3},x∈l.takeWhile f→f x=true:=fun {l} h=>by
  induction l with
  | nil=>simp at h
  | cons a t ih =>
    rw [List.takeWhile_cons] at h
    split at h
    · rcases List.mem_cons.mp h with rfl | h
      · assumption
      · exact ih h
    · simp at h
theorem sQ {f:R3→Bool} {x:R3} {t:List R3}:∀ {l:List R3},l.dropWhile f=x::t→f x=false:=fun {l} h=>by
  induction l with
  | nil=>simp at h
  | cons a l ih =>
    rw [List.dropWhile_cons] at h
    split at h
    · exact ih h
    · rename_i hn
      injection h with h1 h2
      subst h1
      simpa using hn
theorem Ccw.parts {l:List R3} (h:Ccw l) (r:R3):∃ a b P Q,l=a++b∧b++a=P++Q∧(∀ v∈P,0 < val r v)∧∀ v∈Q,val r v≤0:=by
  have e1:=s_ (fun v=>decide (val r v≤0)) l
  have m1:∀ v∈l.takeWhile fun v=>decide (val r v≤0),val r v≤0:=fun v hv=>of_decide_eq_true (bh hv)
  revert e1 m1
  generalize l.takeWhile (fun v=>decide (val r v≤0))=N1
  cases hd:l.dropWhile (fun v=>decide (val r v≤0)) with
  | nil =>
    intro e1 m1
    rw [List.append_nil] at e1
    exact ⟨[],l,[],l,rfl,by simp,fun v hv=>absurd hv (by simp),fun v hv=>m1 v (e1 ▸ hv)⟩
  | cons p R =>
    intro e1 m1
    have hp:0 < val r p:=by
      have:=sQ hd
      have:=of_decide_eq_false this
      omega
    have e2:=s_ (fun v=>decide (0 < val r v)) R
    have m2:∀ v∈R.takeWhile fun v=>decide (0 < val r v),0 < val r v:=fun v hv=>of_decide_eq_true (bh hv)
    revert e2 m2
    generalize R.takeWhile (fun v=>decide (0 < val r v))=P1
    cases hd2:R.dropWhile (fun v=>decide (0 < val r v)) with
    | nil =>
      intro e2 m2
      rw [List.append_nil] at e2
      subst e2
      refine ⟨N1,p::R,p::R,N1,e1,rfl,fun v hv=>?_,m1⟩
      rcases List.mem_cons.mp hv with rfl | hv
      · exact hp
      · exact m2 v hv
    | cons q S =>
      intro e2 m2
      have hq:val r q≤0:=by
        have:=sQ hd2
        have:=of_decide_eq_false this
        omega
      have mp:∀ v∈p::P1,0 < val r v:=fun v hv=>by
        rcases List.mem_cons.mp hv with rfl | hv
        · exact hp
        · exact m2 v hv
      cases N1 with
      | cons n0 N =>
        refine ⟨n0::N,p::R,p::P1,q::S++(n0::N),e1,by rw [e2]; simp,mp,fun v hv=>?_⟩
        rcases List.mem_append.mp hv with hv | hv
        · rcases List.mem_cons.mp hv with rfl | hv
          · exact hq
          · rcases Int.lt_or_le 0 (val r v) with z | z
            · exfalso
              have s:List.Sublist [n0,p,q,v] l:=by
                rw [e1,e2]
                have s1:List.Sublist [v] S:=List.singleton_sublist.mpr hv
                have s2:List.Sublist [q,v] (q::S):=s1.cons_cons q
                have s3:List.Sublist [q,v] (P1++q::S):=s2.trans (List.sublist_append_right _ _)
                have s4:List.Sublist [p,q,v] (p::(P1++q::S)):=s3.cons_cons p
                have s5:List.Sublist [n0] (n0::N):=List.singleton_sublist.mpr List.mem_cons_self
                exact s5.append s4
              exact (h.alt r s).2 ⟨m1 n0 List.mem_cons_self,hp,hq,z⟩
            · exact z
        · exact m1 v hv
      | nil =>
        have e3:=s_ (fun v=>decide (val r v≤0)) S
        have m3:∀ v∈S.takeWhile fun v=>decide (val r v≤0),val r v≤0:=fun v hv=>of_decide_eq_true (bh hv)
        have hd3:∀ v∈S.dropWhile (fun v=>decide (val r v≤0)),0 < val r v:=fun v hv=>by
          cases hc:S.dropWhile (fun v=>decide (val r v≤0)) with
          | nil=>rw [hc] at hv; simp at hv
          | cons p2 S2 =>
            have hp2:0 < val r p2:=by
              have:=sQ hc
              have:=of_decide_eq_false this
              omega
            rw [hc] at hv
            rcases List.mem_cons.mp hv with rfl | hv
            · exact hp2
            · rcases Int.lt_or_le 0 (val r v) with z | z
              · exact z
              · exfalso
                have s:List.Sublist [p,q,p2,v] l:=by
                  rw [e1,List.nil_append,e2,e3,hc]
                  have s1:List.Sublist [v] S2:=List.singleton_sublist.mpr hv
                  have s2:List.Sublist [p2,v] (p2::S2):=s1.cons_cons p2
                  have s3:=s2.trans (List.sublist_append_right (S.takeWhile fun v=>decide (val r v≤0)) _)
                  have s4:=s3.cons_cons q
                  have s5:=s4.trans (List.sublist_append_right P1 _)
                  exact s5.cons_cons p
                exact (h.alt r s).1 ⟨hp,hq,hp2,z⟩
        refine ⟨p::P1++q::S.takeWhile (fun v=>decide (val r v≤0)),S.dropWhile (fun v=>decide (val r v≤0)),S.dropWhile (fun v=>decide (val r v≤0))++p::P1,q::S.takeWhile (fun v=>decide (val r v≤0)),?_,?_,fun v hv=>?_,fun v hv=>?_⟩
        · rw [e1,List.nil_append,e2]
          conv=>lhs; rw [e3]
          simp
        · simp
        · rcases List.mem_append.mp hv with hv | hv
          · exact hd3 v hv
          · exact mp v hv
        · rcases List.mem_cons.mp hv with rfl | hv
          · exact hq
          · exact m3 v hv
end Pol
namespace Pol
def xu:R3→List R3→R3
  | p,[]=>p
  | _,x::xs=>xu x xs
theorem wY (u v w:R3):det u v w=det w u v:=by simp only [det]; grind
theorem cL (u v w:R3):det u v w = - det v u w:=by simp only [det]; grind
theorem jr (p q:R3):∀ (xs ys:List R3),xu p (xs++q::ys)=xu q ys
  | [],_=>rfl
  | x::xs,ys=>jr x q xs ys
theorem j_ (p q:R3) (xs:List R3):xu p (xs++[q])=q:=jr p q xs []
theorem yh (p:R3):∀ (xs:List R3),xu p xs∈p::xs
  | []=>by simp [xu]
  | x::xs=>List.mem_cons_of_mem _ (yh x xs)
theorem jJ (p:R3):∀ (xs:List R3),∃ ys,p::xs=ys++[xu p xs]
  | []=>⟨[],rfl⟩
  | x::xs=>by
    obtain ⟨ys,e⟩:=jJ x xs
    exact ⟨p::ys,congrArg (p::·) e⟩
def chain:R3→List R3→List (R3 × R3)
  | _,[]=>[]
  | p,x::xs=>(p,x)::chain x xs
theorem qu (p:R3):∀ (xs ys:List R3),chain p (xs++ys)=chain p xs++chain (xu p xs) ys
  | [],_=>rfl
  | x::xs,ys=>by
    show (p,x)::chain x (xs++ys)=(p,x)::(chain x xs++chain (xu x xs) ys)
    rw [qu x xs ys]
def cyc:List R3→List (R3 × R3)
  | []=>[]
  | x::xs=>chain (xu x xs) (x::xs)
theorem kl {x y:R3} {xs ys:List R3}:cyc ((x::xs)++(y::ys))=chain (xu y ys) (x::xs)++chain (xu x xs) (y::ys):=by
  show chain (xu x (xs++y::ys)) ((x::xs)++(y::ys))=_
  rw [jr,qu]; rfl
theorem bf (a b:List R3):∃ c d,cyc (a++b)=c++d∧cyc (b++a)=d++c:=by
  cases a with
  | nil=>exact ⟨[],cyc b,by simp,by simp⟩
  | cons x xs =>
    cases b with
    | nil=>exact ⟨[],cyc (x::xs),by simp,by simp⟩
    | cons y ys=>exact ⟨_,_,kl,kl⟩
theorem ai {a b:List R3} {p:R3 × R3} (h:p∈cyc (b++a)):p∈cyc (a++b):=by
  obtain ⟨c,d,e1,e2⟩:=bf a b
  rw [e2] at h
  rw [e1]
  exact List.mem_append.mpr ((List.mem_append.mp h).symm)
theorem ql {x y:R3}:∀ {p:R3} {l:List R3},(x,y)∈chain p l→∃ s t,p::l=s++x::y::t
  | _,[],h=>by simp [chain] at h
  | p,z::l,h=>by
    rcases List.mem_cons.mp h with e | h
    · injection e with e1 e2
      subst e1 e2
      exact ⟨[],l,rfl⟩
    · obtain ⟨s,t,e⟩:=ql h
      exact ⟨p::s,t,by rw [e]; rfl⟩
theorem Ccw.edge {l:List R3} (h:Ccw l) {u v w:R3} (he:(u,v)∈cyc l) (hw:w∈l):0≤det u v w:=by
  cases l with
  | nil=>simp at hw
  | cons x xs =>
    have he:(u,v)∈(xu x xs,x)::chain x xs:=he
    rcases List.mem_cons.mp he with e | he
    · injection e with e1 e2
      subst e1 e2
      obtain ⟨ys,e⟩:=jJ v xs
      generalize xu v xs=L at e ⊢
      cases ys with
      | nil =>
        injection e with e1 e2
        rw [← e1,vf]; exact Int.le_refl _
      | cons y ys =>
        injection e with e1 e2
        subst e1
        have e2:xs=ys++[L]:=e2
        rw [e2] at hw
        rcases List.mem_cons.mp hw with rfl | hw
        · rw [ui]; exact Int.le_refl _
        · rcases List.mem_append.mp hw with hw | hw
          · have:=h.tri v w L (by
              rw [e2]
              exact ((List.singleton_sublist.mpr hw).append (List.Sublist.refl [L])).cons_cons v)
            rw [wY] at this; exact Int.le_of_lt this
          · have:w=L:=by simpa using hw
            rw [this,vb]; exact Int.le_refl _
    · obtain ⟨s,t,e⟩:=ql he
      rw [e] at hw
      rcases List.mem_append.mp hw with hw | hw
      · have:=h.tri w u v (by
          rw [e]
          exact (List.singleton_sublist.mpr hw).append ((List.Sublist.refl [u,v]).trans (by simp)))
        rw [zO] at this; omega
      · rcases List.mem_cons.mp hw with rfl | hw
        · rw [vb]; exact Int.le_refl _
        · rcases List.mem_cons.mp hw with rfl | hw
          · rw [ui]; exact Int.le_refl _
          · have:=h.tri u v w (by
              rw [e]
              exact ((((List.singleton_sublist.mpr hw).cons_cons v).cons_cons u)).trans (List.sublist_append_right s _))
            omega
theorem fan (x:R3) (p:R3):∀ (y:R3) (ys:List R3),(∀ u v,(u,v)∈chain y ys→0 < det x u v∧0≤det u v p)→0≤det x y p→det x (xu y ys) p≤0→ys≠[]→∃ u v,(u,v)∈chain y ys∧0≤det x u p∧det x v p≤0
  | y,[],_,_,_,h=>absurd rfl h
  | y,z::ys,hc,h0,h1,_=>by
    rcases Int.lt_or_le 0 (det x z p) with c | c
    · cases ys with
      | nil=>exact absurd h1 (by show ¬ det x z p≤0; omega)
      | cons a ys =>
        obtain ⟨u,v,m,h2,h3⟩:=fan x p z (a::ys) (fun u v m=>hc u v (List.mem_cons_of_mem _ m)) (Int.le_of_lt c) h1 (by simp)
        exact ⟨u,v,List.mem_cons_of_mem _ m,h2,h3⟩
    · exact ⟨y,z,List.mem_cons_self,h0,c⟩
theorem Ccw.incone {l:List R3} (h:Ccw l) (h3:3≤l.length) {p:R3} (hp:∀ u v,(u,v)∈cyc l→0≤det u v p):InC l p:=by
  match l,h,h3,hp with
  | x::y::z::t,h,_,hp =>
    have he:∀ u v,(u,v)∈chain y (z::t)→0 < det x u v∧0≤det u v p:=fun u v m=>by
      obtain ⟨s,s2,e⟩:=ql m
      refine ⟨h.tri x u v ?_,hp u v (List.mem_cons_of_mem _ (List.mem_cons_of_mem _ m))⟩
      rw [e]
      exact (((List.Sublist.refl [u,v]).trans (show List.Sublist [u,v] (u::v::s2) by simp)).trans (List.sublist_append_right s _)).cons_cons x
    have h0:0≤det x y p:=hp x y (List.mem_cons_of_mem _ List.mem_cons_self)
    have h1:0≤det (xu x (y::z::t)) x p:=hp _ _ List.mem_cons_self
    have h1':det x (xu y (z::t)) p≤0:=by
      have e:det x (xu y (z::t)) p = - det (xu x (y::z::t)) x p:=cL _ _ _
      omega
    obtain ⟨u,v,m,h2,h3⟩:=fan x p y (z::t) he h0 h1' (by simp)
    obtain ⟨d1,d2⟩:=he u v m
    have mem:∀ w,w=u∨w=v→w∈x::y::z::t:=fun w hw=>by
      obtain ⟨s,s2,e⟩:=ql m
      have:w∈y::z::t:=by
        rw [e]
        rcases hw with rfl | rfl <;> simp
      exact List.mem_cons_of_mem _ this
    refine ⟨det x u v,d1,?_⟩
    rw [oA x u v p]
    have c1:0≤det p u v:=by rw [zO]; exact d2
    have c2:0≤det x p v:=by rw [rq]; omega
    exact ((Cn.mem List.mem_cons_self).smul c1).add (((Cn.mem (mem u (.inl rfl))).smul c2).add ((Cn.mem (mem v (.inr rfl))).smul h2))
end Pol
namespace Pol
def turn (r s:R3):Int:=r.1*s.2.1-r.2.1*s.1
def uh (w:R3):Nat:=Int.gcd (Int.gcd w.1 w.2.1:Int) w.2.2
def red (w:R3):R3:=(w.1 / uh w,w.2.1 / uh w,w.2.2 / uh w)
theorem rk (w:R3):(uh w:Int) ∣ w.1∧(uh w:Int) ∣ w.2.1∧(uh w:Int) ∣ w.2.2:=by
  have h1:(uh w:Int) ∣ (Int.gcd w.1 w.2.1:Int):=Int.gcd_dvd_left ..
  exact ⟨Int.dvd_trans h1 (Int.gcd_dvd_left ..),Int.dvd_trans h1 (Int.gcd_dvd_right ..),Int.gcd_dvd_right ..⟩
theorem cU {d:Int} {w:R3} (h1:d ∣ w.1) (h2:d ∣ w.2.1) (h3:d ∣ w.2.2):d ∣ (uh w:Int):=Int.dvd_coe_gcd (Int.dvd_coe_gcd h1 h2) h3
theorem vA {w:R3} (h:0 < w.2.2):0 < (uh w:Int):=by
  have:=Int.gcd_pos_of_ne_zero_right (Int.gcd w.1 w.2.1:Int) (show w.2.2≠0 by omega)
  unfold uh; omega
theorem gR {w:R3}:mul (uh w) (red w)=w:=by
  obtain ⟨h1,h2,h3⟩:=rk w
  exact ext3 (Int.mul_ediv_cancel' h1) (Int.mul_ediv_cancel' h2) (Int.mul_ediv_cancel' h3)
theorem mJ {w:R3} (h:0 < w.2.2):0 < (red w).2.2:=by
  have e:(uh w:Int)*(red w).2.2=w.2.2:=congrArg (·.2.2) (gR (w:=w))
  exact zr (vA h) (by rw [e]; exact h)
theorem ck {w:R3} (h:0 < w.2.2):uh (red w)=1:=by
  obtain ⟨h1,h2,h3⟩:=rk (red w)
  have g:=vA h
  have d:(uh w:Int)*(uh (red w):Int) ∣ (uh w:Int):=by
    have e:=gR (w:=w)
    refine cU ?_ ?_ ?_
    · conv=>rhs; rw [← e]
      exact Int.mul_dvd_mul_left _ h1
    · conv=>rhs; rw [← e]
      exact Int.mul_dvd_mul_left _ h2
    · conv=>rhs; rw [← e]
      exact Int.mul_dvd_mul_left _ h3
  have d2:(uh (red w):Int) ∣ 1:=by
    have:(uh w:Int)*(uh (red w):Int) ∣ (uh w:Int)*1:=by rw [Int.mul_one]; exact d
    exact Int.dvd_of_mul_dvd_mul_left (by omega) this
  have:=Int.le_of_dvd (by decide) d2
  have p:=vA (mJ h)
  omega
theorem fu {v s t:R3} (hg:uh v=1) (hz:0 < v.2.2) (hs:val s v=0) (ht:val t v=0) (hn:turn s t≠0) :
    v.2.2≤(turn s t).natAbs∧v.1.natAbs≤(s.2.2*t.2.1-t.2.2*s.2.1).natAbs∧v.2.1.natAbs≤(t.2.2*s.1-s.2.2*t.1).natAbs:=by
  have e1:turn s t*v.1=v.2.2*(s.2.2*t.2.1-t.2.2*s.2.1):=by
    have:turn s t*v.1=v.2.2*(s.2.2*t.2.1-t.2.2*s.2.1)+t.2.1*val s v-s.2.1*val t v:=by simp only [turn,val]; grind
    rw [hs,ht] at this; rw [this]; grind
  have e2:turn s t*v.2.1=v.2.2*(t.2.2*s.1-s.2.2*t.1):=by
    have:turn s t*v.2.1=v.2.2*(t.2.2*s.1-s.2.2*t.1)+s.1*val t v-t.1*val s v:=by simp only [turn,val]; grind
    rw [hs,ht] at this; rw [this]; grind
  have dv:v.2.2 ∣ turn s t:=by
    have h1:v.2.2 ∣ turn s t*v.1:=⟨_,e1⟩
    have h2:v.2.2 ∣ turn s t*v.2.1:=⟨_,e2⟩
    have h3:v.2.2 ∣ turn s t*v.2.2:=Int.dvd_mul_left ..
    have g12:v.2.2 ∣ turn s t*(Int.gcd v.1 v.2.1:Int):=by
      have:=Int.dvd_coe_gcd h1 h2
      rw [Int.gcd_mul_left] at this
      have h4:((turn s t).natAbs*Int.gcd v.1 v.2.1:Nat)=((turn s t*(Int.gcd v.1 v.2.1:Int)).natAbs:Nat):=by rw [Int.natAbs_mul]; rfl
      rw [h4] at this
      exact Int.dvd_natAbs.mp this
    have g3:=Int.dvd_coe_gcd g12 h3
    rw [Int.gcd_mul_left] at g3
    have hg':Int.gcd (Int.gcd v.1 v.2.1:Int) v.2.2=1:=hg
    rw [hg',Nat.mul_one] at g3
    exact Int.dvd_natAbs.mp g3
  have zl:v.2.2≤(turn s t).natAbs:=by
    have h:=Int.le_of_dvd (show (0:Int) < ((turn s t).natAbs:Int) by omega) (Int.dvd_natAbs.mpr dv)
    exact h
  refine ⟨zl,?_,?_⟩
  · have h:=congrArg Int.natAbs e1
    rw [Int.natAbs_mul,Int.natAbs_mul] at h
    rcases Nat.lt_or_ge (s.2.2*t.2.1-t.2.2*s.2.1).natAbs v.1.natAbs with c | c
    · exfalso
      have h1:v.2.2.natAbs≤(turn s t).natAbs:=by omega
      have h2:0 < v.2.2.natAbs:=by omega
      have h3:v.2.2.natAbs*(s.2.2*t.2.1-t.2.2*s.2.1).natAbs < v.2.2.natAbs*v.1.natAbs:=Nat.mul_lt_mul_of_pos_left c h2
      have h4:v.2.2.natAbs*v.1.natAbs≤(turn s t).natAbs*v.1.natAbs:=Nat.mul_le_mul_right _ h1
      omega
    · exact c
  · have h:=congrArg Int.natAbs e2
    rw [Int.natAbs_mul,Int.natAbs_mul] at h
    rcases Nat.lt_or_ge (t.2.2*s.1-s.2.2*t.1).natAbs v.2.1.natAbs with c | c
    · exfalso
      have h1:v.2.2.natAbs≤(turn s t).natAbs:=by omega
      have h2:0 < v.2.2.natAbs:=by omega
      have h3:v.2.2.natAbs*(t.2.2*s.1-s.2.2*t.1).natAbs < v.2.2.natAbs*v.2.1.natAbs:=Nat.mul_lt_mul_of_pos_left c h2
      have h4:v.2.2.natAbs*v.2.1.natAbs≤(turn s t).natAbs*v.2.1.natAbs:=Nat.mul_le_mul_right _ h1
      omega
    · exact c
def abs (i:Int):Int:=if i < 0 then -i else i
def cw (r u v:R3):R3:=add (mul (abs (val r v)) u) (mul (abs (val r u)) v)
def xA (r u v:R3):R3:=red (cw r u v)
theorem bx (r u v:R3):cw r u v=cw r v u:=by apply ext3 <;> simp only [cw,add] <;> omega
structure Bt (u v x:R3) (a b g:Int):Prop where
  pa:0 < a
  pb:0 < b
  pg:0 < g
  e:mul g x=add (mul a u) (mul b v)
theorem vz {r u v:R3} (hu:0 < u.2.2) (hv:0 < v.2.2) (h:val r u*val r v < 0):Bt u v (xA r u v) (abs (val r v)) (abs (val r u)) (uh (cw r u v))∧val r (xA r u v)=0∧0 < (xA r u v).2.2∧uh (xA r u v)=1:=by
  have sg:(val r u < 0∧0 < val r v)∨(0 < val r u∧val r v < 0):=by
    rcases Int.lt_trichotomy (val r u) 0 with c | c | c
    · rcases Int.lt_or_le 0 (val r v) with d | d
      · exact .inl ⟨c,d⟩
      · have:=nn (Int.le_of_lt c) d; omega
    · rw [c] at h; simp at h
    · rcases Int.lt_or_le (val r v) 0 with d | d
      · exact .inr ⟨c,d⟩
      · have:=pz (Int.le_of_lt c) d; omega
  have p1:0 < abs (val r v):=by unfold abs; split <;> omega
  have p2:0 < abs (val r u):=by unfold abs; split <;> omega
  have hz:0 < (cw r u v).2.2:=by
    show 0 < abs (val r v)*u.2.2+abs (val r u)*v.2.2
    have:=pp p1 hu
    have:=pp p2 hv
    omega
  have v0:val r (cw r u v)=0:=by
    unfold cw
    rw [val_add,val_mul,val_mul]
    rcases sg with ⟨c,d⟩ | ⟨c,d⟩
    · have e1:abs (val r v)=val r v:=by unfold abs; rw [if_neg (by omega)]
      have e2:abs (val r u) = - val r u:=by unfold abs; rw [if_pos c]
      rw [e1,e2]; grind
    · have e1:abs (val r v) = - val r v:=by unfold abs; rw [if_pos d]
      have e2:abs (val r u)=val r u:=by unfold abs; rw [if_neg (by omega)]
      rw [e1,e2]; grind
  refine ⟨⟨p1,p2,vA hz,gR⟩,?_,mJ hz,ck hz⟩
  have:=congrArg (val r) (gR (w:=cw r u v))
  rw [val_mul,v0] at this
  exact hX (vA hz) this
theorem Bt.val {u v x:R3} {a b g:Int} (h:Bt u v x a b g) (r:R3):g*Pol.val r x=a*Pol.val r u+b*Pol.val r v:=by
  have:=congrArg (Pol.val r) h.e
  rwa [val_mul,val_add,val_mul,val_mul] at this
theorem Bt.det {u v x:R3} {a b g:Int} (h:Bt u v x a b g) (p q:R3):g*Pol.det p q x=a*Pol.det p q u+b*Pol.det p q v:=by
  have:=congrArg (Pol.det p q) h.e
  rwa [ur,gJ,ur,ur] at this
theorem Bt.kept {u v x:R3} {a b g:Int} (h:Bt u v x a b g) {r:R3} (hu:Pol.val r u≤0) (hv:Pol.val r v≤0):Pol.val r x≤0:=by
  have:=h.val r
  have:=pn (Int.le_of_lt h.pa) hu
  have:=pn (Int.le_of_lt h.pb) hv
  exact fH h.pg (by omega)
theorem Bt.tight {u v x:R3} {a b g:Int} (h:Bt u v x a b g) {r:R3} (hu:Pol.val r u=0) (hv:Pol.val r v=0):Pol.val r x=0:=by
  have:=h.val r
  rw [hu,hv] at this
  exact hX h.pg (by omega)
theorem unlike {r s u v:R3} (hs:s.1≠0∨s.2.1≠0) (hu:0 < u.2.2) (hv:0 < v.2.2) (su:val s u=0) (sv:val s v=0) (h:val r u*val r v < 0):turn s r≠0:=by
  intro z
  have e:s.1*(val r u*v.2.2-val r v*u.2.2)=r.1*(val s u*v.2.2-val s v*u.2.2)+turn s r*(u.2.1*v.2.2-v.2.1*u.2.2):=by simp only [val,turn]; grind
  have e':s.2.1*(val r u*v.2.2-val r v*u.2.2)=r.2.1*(val s u*v.2.2-val s v*u.2.2)-turn s r*(u.1*v.2.2-v.1*u.2.2):=by simp only [val,turn]; grind
  rw [z,su,sv] at e e'
  have k:val r u*v.2.2-val r v*u.2.2=0:=by
    rcases hs with c | c
    · have e:s.1*(val r u*v.2.2-val r v*u.2.2)=0:=by rw [e]; grind
      exact (Int.mul_eq_zero.mp e).resolve_left c
    · have e':s.2.1*(val r u*v.2.2-val r v*u.2.2)=0:=by rw [e']; grind
      exact (Int.mul_eq_zero.mp e').resolve_left c
  rcases Int.lt_trichotomy (val r u) 0 with c | c | c
  · have d:0 < val r v:=by
      rcases Int.lt_or_le 0 (val r v) with d | d
      · exact d
      · have:=nn (Int.le_of_lt c) d; omega
    have:=Int.mul_neg_of_neg_of_pos c hv
    have:=pp d hu
    omega
  · rw [c] at h; simp at h
  · have d:val r v < 0:=by
      rcases Int.lt_or_le (val r v) 0 with d | d
      · exact d
      · have:=pz (Int.le_of_lt c) d; omega
    have:=Int.mul_neg_of_neg_of_pos d hu
    have:=pp c hv
    omega
end Pol
namespace Pol
def seg (r:R3) (p:R3 × R3):List R3:=(if val r p.1*val r p.2 < 0 then [xA r p.1 p.2] else [])++(if val r p.2≤0 then [p.2] else [])
def ar (r:R3) (l:List R3):List R3:=(cyc l).flatMap (seg r)
theorem rN (r:R3) (a b:List R3):∃ c d,ar r (a++b)=c++d∧ar r (b++a)=d++c:=by
  obtain ⟨c,d,e1,e2⟩:=bf a b
  exact ⟨c.flatMap (seg r),d.flatMap (seg r),by unfold ar; rw [e1,List.flatMap_append],by unfold ar; rw [e2,List.flatMap_append]⟩
theorem jF {r:R3}:∀ {p:R3} {P:List R3},0 < val r p→(∀ v∈P,0 < val r v)→(chain p P).flatMap (seg r)=[]
  | p,[],_,_=>rfl
  | p,x::P,hp,h=>by
    have hx:=h x List.mem_cons_self
    show seg r (p,x)++(chain x P).flatMap (seg r)=[]
    rw [jF hx fun v hv=>h v (List.mem_cons_of_mem _ hv),List.append_nil]
    unfold seg
    rw [if_neg (show ¬ val r p*val r x < 0 by have:=pp hp hx; omega),if_neg (show ¬ val r x≤0 by omega)]; rfl
theorem jq {r:R3}:∀ {p:R3} {Q:List R3},val r p≤0→(∀ v∈Q,val r v≤0)→(chain p Q).flatMap (seg r)=Q
  | p,[],_,_=>rfl
  | p,x::Q,hp,h=>by
    have hx:=h x List.mem_cons_self
    show seg r (p,x)++(chain x Q).flatMap (seg r)=x::Q
    rw [jq hx fun v hv=>h v (List.mem_cons_of_mem _ hv)]
    unfold seg
    rw [if_neg (show ¬ val r p*val r x < 0 by have:=nn hp hx; omega),if_pos (show val r (p,x).2≤0 from hx)]; rfl
def bef (r p q:R3):List R3:=if val r q < 0 then [xA r p q] else []
theorem xbs {r p q:R3} (hp:0 < val r p) (hq:val r q≤0):seg r (p,q)=bef r p q++[q]:=by
  unfold seg bef
  rw [if_pos (show val r (p,q).2≤0 from hq)]
  by_cases c:val r q < 0
  · rw [if_pos c,if_pos (show val r (p,q).1*val r (p,q).2 < 0 from Int.mul_neg_of_pos_of_neg hp c)]
  · rw [if_neg c,if_neg (show ¬ val r (p,q).1*val r (p,q).2 < 0 from by
      have e:val r q=0:=by omega
      show ¬ val r p*val r q < 0
      rw [e]; simp)]
theorem lp {r p q:R3} (hp:0 < val r p) (hq:val r q≤0):seg r (q,p)=bef r p q:=by
  unfold seg bef
  rw [if_neg (show ¬ val r (q,p).2≤0 from by show ¬ val r p≤0; omega),List.append_nil]
  by_cases c:val r q < 0
  · rw [if_pos c,if_pos (show val r (q,p).1*val r (q,p).2 < 0 from Int.mul_neg_of_neg_of_pos c hp)]
    unfold xA; rw [bx]
  · rw [if_neg c,if_neg (show ¬ val r (q,p).1*val r (q,p).2 < 0 from by
      have e:val r q=0:=by omega
      show ¬ val r q*val r p < 0
      rw [e]; simp)]
theorem j5 {r p1 q1:R3} {P Q:List R3} (hP:∀ v∈p1::P,0 < val r v) (hQ:∀ v∈q1::Q,val r v≤0) :
    ar r ((p1::P)++(q1::Q))=bef r p1 (xu q1 Q)++(bef r (xu p1 P) q1++q1::Q):=by
  unfold ar
  rw [kl,List.flatMap_append]
  have h1:=hP p1 List.mem_cons_self
  have h2:=hQ q1 List.mem_cons_self
  have h3:=hQ _ (yh q1 Q)
  have h4:=hP _ (yh p1 P)
  have e1:(chain (xu q1 Q) (p1::P)).flatMap (seg r)=bef r p1 (xu q1 Q):=by
    show seg r (xu q1 Q,p1)++(chain p1 P).flatMap (seg r)=_
    rw [jF h1 fun v hv=>hP v (List.mem_cons_of_mem _ hv),List.append_nil,lp h1 h3]
  have e2:(chain (xu p1 P) (q1::Q)).flatMap (seg r)=bef r (xu p1 P) q1++q1::Q:=by
    show seg r (xu p1 P,q1)++(chain q1 Q).flatMap (seg r)=_
    rw [jq h2 fun v hv=>hQ v (List.mem_cons_of_mem _ hv),xbs h4 h2,List.append_assoc]; rfl
  rw [e1,e2]
structure Good (Ls l:List R3):Prop where
  ccw:Ccw l
  bot:∀ v∈l,0 < v.2.2
  prim:∀ v∈l,uh v=1
  kept:∀ v∈l,∀ s∈Ls,val s v≤0
  edge:∀ u v,(u,v)∈cyc l→u≠v→∃ s∈Ls,val s u=0∧val s v=0
  two:∀ v∈l,∃ s∈Ls,∃ t∈Ls,val s v=0∧val t v=0∧turn s t≠0
  all:∀ p:R3,0 < p.2.2→(∀ s∈Ls,val s p≤0)→InC l p
theorem Good.rot {Ls a b:List R3} (h:Good Ls (a++b)):Good Ls (b++a) where
  ccw:=h.ccw.rot
  bot:=fun v hv=>h.bot v (by simpa [or_comm] using hv)
  prim:=fun v hv=>h.prim v (by simpa [or_comm] using hv)
  kept:=fun v hv=>h.kept v (by simpa [or_comm] using hv)
  edge:=fun u v e=>h.edge u v (ai e)
  two:=fun v hv=>h.two v (by simpa [or_comm] using hv)
  all:=fun p h0 h1=>by
    obtain ⟨m,hm,c⟩:=h.all p h0 h1
    exact ⟨m,hm,c.mono fun v hv=>.mem (by simpa [or_comm] using hv)⟩
theorem cg {a b:R3}:∀ {l:List R3},List.Sublist [a,b] l→3≤l.length→∃ c,List.Sublist [c,a,b] l∨List.Sublist [a,c,b] l∨List.Sublist [a,b,c] l
  | [],_,h=>absurd h (by simp)
  | x::l,s,h=>by
    cases s with
    | cons _ s =>
      exact ⟨x,.inl (s.cons_cons x)⟩
    | cons_cons _ s =>
      have hl:2≤l.length:=by simpa using h
      have hb:b∈l:=List.singleton_sublist.mp s
      obtain ⟨s1,s2,e⟩:=List.append_of_mem hb
      cases s1 with
      | cons c s1 =>
        refine ⟨c,.inr (.inl ?_)⟩
        rw [e]
        have:List.Sublist [c,b] (c::s1++b::s2):=(List.singleton_sublist.mpr List.mem_cons_self).append (List.singleton_sublist.mpr List.mem_cons_self)
        exact this.cons_cons a
      | nil =>
        cases s2 with
        | nil=>rw [e] at hl; simp at hl
        | cons c s2 =>
          refine ⟨c,.inr (.inr ?_)⟩
          rw [e]
          simp
theorem kC {l:List R3} (h:∀ u v w:R3,List.Sublist [u,v,w] l→0 < det u v w) (h3:3≤l.length):l.Nodup:=by
  refine List.pairwise_iff_forall_sublist.mpr fun {a b} s e=>?_
  subst e
  obtain ⟨c,s | s | s⟩:=cg s h3
  · have:=h _ _ _ s; rw [ui] at this; omega
  · have:=h _ _ _ s; rw [vb] at this; omega
  · have:=h _ _ _ s; rw [vf] at this; omega
end Pol
namespace Pol
theorem fW {p:R3} {P:List R3} (h:P≠[]):List.Sublist [p,xu p P] (p::P):=by
  cases P with
  | nil=>exact absurd rfl h
  | cons y ys=>exact (List.singleton_sublist.mpr (show xu p (y::ys)∈y::ys from yh y ys)).cons_cons p
structure Bw (u v x:R3) (a b g:Int):Prop where
  pa:0≤a
  pb:0 < b
  pg:0 < g
  e:mul g x=add (mul a u) (mul b v)
theorem Bt.w {u v x:R3} {a b g:Int} (h:Bt u v x a b g):Bw u v x a b g:=⟨Int.le_of_lt h.pa,h.pb,h.pg,h.e⟩
theorem Bw.self (u v:R3):Bw u v v 0 1 1:=⟨by omega,by omega,by omega,by apply ext3 <;> simp [mul,add]⟩
theorem Bw.det {u v x:R3} {a b g:Int} (h:Bw u v x a b g) (p q:R3):g*Pol.det p q x=a*Pol.det p q u+b*Pol.det p q v:=by
  have:=congrArg (Pol.det p q) h.e
  rwa [ur,gJ,ur,ur] at this
section
variable {Ls P Q:List R3} {r p1 q1:R3}
structure oy (Ls:List R3) (r p1 q1:R3) (P Q:List R3):Prop where
  good:Good Ls ((p1::P)++(q1::Q))
  hP:∀ v∈p1::P,0 < val r v
  hQ:∀ v∈q1::Q,val r v≤0
  three:P≠[]∨Q≠[]
  dir:∀ s∈Ls,s.1≠0∨s.2.1≠0
namespace oy
variable (S:oy Ls r p1 q1 P Q)
include S
theorem q1le:val r q1≤0:=S.hQ q1 List.mem_cons_self
theorem qmle:val r (xu q1 Q)≤0:=S.hQ _ (yh q1 Q)
theorem p1gt:0 < val r p1:=S.hP p1 List.mem_cons_self
theorem pkgt:0 < val r (xu p1 P):=S.hP _ (yh p1 P)
theorem botQ {v:R3} (h:v∈q1::Q):0 < v.2.2:=S.good.bot v (List.mem_append_right _ h)
theorem botP {v:R3} (h:v∈p1::P):0 < v.2.2:=S.good.bot v (List.mem_append_left _ h)
theorem pqq {p x y:R3} (hp:p∈p1::P) (s:List.Sublist [x,y] (q1::Q)):0 < det p x y:=S.good.ccw.tri p x y ((List.singleton_sublist.mpr hp).append s)
theorem ppq {p p' x:R3} (hp:List.Sublist [p,p'] (p1::P)) (hx:x∈q1::Q):0 < det p p' x:=S.good.ccw.tri p p' x (hp.append (List.singleton_sublist.mpr hx))
theorem qqq {x y z:R3} (s:List.Sublist [x,y,z] (q1::Q)):0 < det x y z:=S.good.ccw.tri x y z (s.trans (List.sublist_append_right _ _))
theorem q1xy {x y:R3} (s:List.Sublist [x,y] (q1::Q)):0≤det q1 x y:=by
  cases s with
  | cons _ s=>exact Int.le_of_lt (S.qqq (s.cons_cons q1))
  | cons_cons _ s=>rw [vf]; exact Int.le_refl _
theorem xyqm {x y:R3} (s:List.Sublist [x,y] (q1::Q)):0≤det x y (xu q1 Q):=by
  obtain ⟨ys,e⟩:=jJ q1 Q
  have s':=s
  rw [e] at s'
  obtain ⟨l1,l2,e2,s1,s2⟩:=List.sublist_append_iff.mp s'
  cases l2 with
  | nil =>
    rw [List.append_nil] at e2
    subst e2
    have:=S.qqq (x:=x) (y:=y) (z:=xu q1 Q) (by rw [e]; exact s1.append (List.Sublist.refl [xu q1 Q]))
    omega
  | cons b l2 =>
    have hb:b=xu q1 Q∧l2=[]:=by
      cases s2 with
      | cons _ s2=>cases s2
      | cons_cons _ s2=>cases s2; exact ⟨rfl,rfl⟩
    obtain ⟨hb,rfl⟩:=hb
    have:y=b:=by
      cases l1 with
      | nil=>cases e2
      | cons c l1 =>
        cases l1 with
        | nil=>injection e2 with _ e2; injection e2
        | cons d l1 =>
          injection e2 with _ e2
          injection e2 with _ e2
          simp at e2
    rw [this,hb,ui]; exact Int.le_refl _
theorem nd:((p1::P)++(q1::Q)).Nodup:=S.good.ccw.nd
theorem p1pkx {x:R3} (hx:x∈q1::Q):0≤det p1 (xu p1 P) x∧(P≠[]→0 < det p1 (xu p1 P) x):=by
  by_cases h:P=[]
  · subst h
    exact ⟨by show 0≤det p1 p1 x; rw [vf]; exact Int.le_refl _,fun z=>absurd rfl z⟩
  · have:=S.ppq (fW h) hx
    exact ⟨by omega,fun _=>this⟩
theorem pq1x {p x:R3} (hp:p∈p1::P) (hx:x∈q1::Q):0≤det p q1 x∧(x≠q1→0 < det p q1 x):=by
  rcases List.mem_cons.mp hx with rfl | hx
  · exact ⟨by rw [ui]; exact Int.le_refl _,fun z=>absurd rfl z⟩
  · have:=S.pqq hp ((List.singleton_sublist.mpr hx).cons_cons q1)
    exact ⟨by omega,fun _=>this⟩
theorem pxqm {p x:R3} (hp:p∈p1::P) (hx:x∈q1::Q):0≤det p x (xu q1 Q)∧(x≠xu q1 Q→0 < det p x (xu q1 Q)):=by
  obtain ⟨ys,e⟩:=jJ q1 Q
  rw [e] at hx
  rcases List.mem_append.mp hx with hx | hx
  · have:=S.pqq (x:=x) (y:=xu q1 Q) hp (by rw [e]; exact (List.singleton_sublist.mpr hx).append (List.Sublist.refl [xu q1 Q]))
    exact ⟨by omega,fun _=>this⟩
  · have:x=xu q1 Q:=by simpa using hx
    rw [this]
    exact ⟨by rw [ui]; exact Int.le_refl _,fun z=>absurd rfl z⟩
theorem q1xqm {x:R3} (hx:x∈q1::Q):0≤det q1 x (xu q1 Q):=by
  rcases List.mem_cons.mp hx with rfl | hx
  · rw [vf]; exact Int.le_refl _
  · exact S.xyqm ((List.singleton_sublist.mpr hx).cons_cons q1)
theorem q1ne (h:Q≠[]):q1≠xu q1 Q:=by
  have s:=fW (p:=q1) h
  have nd:=(List.nodup_append.mp S.nd).2.1
  exact List.pairwise_iff_forall_sublist.mp nd s
def w1 (r p1 q1:R3) (P:List R3):R3:=if val r q1 < 0 then xA r (xu p1 P) q1 else q1
def u1 (r p1 q1:R3) (Q:List R3):R3:=if val r (xu q1 Q) < 0 then xA r p1 (xu q1 Q) else xu q1 Q
theorem X1 (h:val r q1 < 0):Bt (xu p1 P) q1 (xA r (xu p1 P) q1) (abs (val r q1)) (abs (val r (xu p1 P))) (uh (cw r (xu p1 P) q1))∧val r (xA r (xu p1 P) q1)=0∧0 < (xA r (xu p1 P) q1).2.2∧uh (xA r (xu p1 P) q1)=1 :=
  vz (S.botP (yh p1 P)) (S.botQ List.mem_cons_self) (Int.mul_neg_of_pos_of_neg S.pkgt h)
theorem X2 (h:val r (xu q1 Q) < 0):Bt p1 (xu q1 Q) (xA r p1 (xu q1 Q)) (abs (val r (xu q1 Q))) (abs (val r p1)) (uh (cw r p1 (xu q1 Q)))∧val r (xA r p1 (xu q1 Q))=0∧0 < (xA r p1 (xu q1 Q)).2.2∧uh (xA r p1 (xu q1 Q))=1 :=
  vz (S.botP List.mem_cons_self) (S.botQ (yh q1 Q)) (Int.mul_neg_of_pos_of_neg S.p1gt h)
theorem w1b:∃ a b g,Bw (xu p1 P) q1 (w1 r p1 q1 P) a b g∧(val r q1 < 0→0 < a)∧val r (w1 r p1 q1 P)=0:=by
  unfold w1
  by_cases h:val r q1 < 0
  · rw [if_pos h]
    obtain ⟨b,z,_⟩:=S.X1 h
    exact ⟨_,_,_,b.w,fun _=>b.pa,z⟩
  · rw [if_neg h]
    exact ⟨_,_,_,Bw.self _ _,fun z=>absurd z h,by have:=S.q1le; omega⟩
theorem u1b:∃ a b g,Bw p1 (xu q1 Q) (u1 r p1 q1 Q) a b g∧(val r (xu q1 Q) < 0→0 < a)∧val r (u1 r p1 q1 Q)=0:=by
  unfold u1
  by_cases h:val r (xu q1 Q) < 0
  · rw [if_pos h]
    obtain ⟨b,z,_⟩:=S.X2 h
    exact ⟨_,_,_,b.w,fun _=>b.pa,z⟩
  · rw [if_neg h]
    exact ⟨_,_,_,Bw.self _ _,fun z=>absurd z h,by have:=S.qmle; omega⟩
theorem close {p:R3} (hc:val r q1 < 0∨Q≠[]) (hp:val r p≤0):0≤det (u1 r p1 q1 Q) (w1 r p1 q1 P) p:=by
  obtain ⟨a,b,g,bw,ha,hw⟩:=S.w1b
  obtain ⟨c,d,g',bu,hcc,hu⟩:=S.u1b
  have e1:=bu.det p1 (w1 r p1 q1 P)
  rw [vb,Int.mul_zero,Int.zero_add] at e1
  have e2:=bw.det (xu q1 Q) p1
  have d1:det (xu q1 Q) p1 (xu p1 P)=det p1 (xu p1 P) (xu q1 Q):=zO _ _ _
  have d2:det (xu q1 Q) p1 q1=det p1 q1 (xu q1 Q):=zO _ _ _
  rw [d1,d2] at e2
  obtain ⟨f1,f2⟩:=S.p1pkx (yh q1 Q)
  obtain ⟨f3,f4⟩:=S.pq1x (p:=p1) List.mem_cons_self (yh q1 Q)
  have k1:0 < det (xu q1 Q) p1 (w1 r p1 q1 P):=by
    refine zr bw.pg ?_
    rw [e2]
    have n1:=pz bw.pa f1
    have n2:=pz (Int.le_of_lt bw.pb) f3
    by_cases hq:Q=[]
    · have hp':P≠[]:=S.three.resolve_right (fun z=>z hq)
      have h0:val r q1 < 0:=hc.resolve_right (fun z=>z hq)
      have:=pp (ha h0) (f2 hp')
      omega
    · have:=pp bw.pb (f4 (Ne.symm (S.q1ne hq)))
      omega
  have d3:det p1 (w1 r p1 q1 P) (xu q1 Q)=det (xu q1 Q) p1 (w1 r p1 q1 P):=wY _ _ _
  rw [d3] at e1
  have k2:0 < det p1 (w1 r p1 q1 P) (u1 r p1 q1 Q):=by
    refine zr bu.pg ?_
    rw [e1]; exact pp bu.pb k1
  have e3:=cX r (u1 r p1 q1 Q) (w1 r p1 q1 P) p1 p hu hw
  have d4:det (u1 r p1 q1 Q) (w1 r p1 q1 P) p1 = - det p1 (w1 r p1 q1 P) (u1 r p1 q1 Q):=by
    rw [wY,rq]
  rw [d4] at e3
  refine yV S.p1gt ?_
  rw [← e3]
  exact nn hp (by omega)
def left (r p1 q1:R3) (P Q:List R3):List R3:=bef r (xu p1 P) q1++(q1::Q)++bef r p1 (xu q1 Q)
theorem mem_left {v:R3} (h:v∈left r p1 q1 P Q):(v∈q1::Q)∨(val r q1 < 0∧v=xA r (xu p1 P) q1)∨(val r (xu q1 Q) < 0∧v=xA r p1 (xu q1 Q)):=by
  unfold left bef at h
  rcases List.mem_append.mp h with h | h
  · rcases List.mem_append.mp h with h | h
    · split at h
      · exact .inr (.inl ⟨by assumption,by simpa using h⟩)
      · simp at h
    · exact .inl h
  · split at h
    · exact .inr (.inr ⟨by assumption,by simpa using h⟩)
    · simp at h
theorem sub_bef {p q:R3} {l:List R3} (h:List.Sublist l (bef r p q)):l=[]∨(val r q < 0∧l=[xA r p q]):=by
  unfold bef at h
  split at h
  · cases h with
    | cons _ h=>cases h; exact .inl rfl
    | cons_cons _ h=>cases h; exact .inr ⟨by assumption,rfl⟩
  · cases h; exact .inl rfl
theorem tri {u v w:R3} (s:List.Sublist [u,v,w] (left r p1 q1 P Q)):0 < det u v w:=by
  unfold left at s
  rw [List.append_assoc] at s
  obtain ⟨l1,l2,e,s1,s2⟩:=List.sublist_append_iff.mp s
  obtain ⟨l3,l4,e2,s3,s4⟩:=List.sublist_append_iff.mp s2
  have b1:=S.sub_bef s1
  have b4:=S.sub_bef s4
  subst e2
  rcases b1 with rfl | ⟨h1,rfl⟩
  · rcases b4 with rfl | ⟨h4,rfl⟩
    · have:[u,v,w]=l3:=by simpa using e
      subst this
      exact S.qqq s3
    · -- q q X2
      obtain ⟨bt,_⟩:=S.X2 h4
      have:l3=[u,v]∧w=xA r p1 (xu q1 Q):=by
        rcases pI (show [u,v,w]=l3++[xA r p1 (xu q1 Q)] from e) with ⟨_,z⟩ | ⟨_,z⟩ | ⟨z1,z⟩ | ⟨_,z⟩
        · cases z
        · cases z
        · cases z; exact ⟨z1,rfl⟩
        · cases z
      obtain ⟨rfl,rfl⟩:=this
      have e3:=bt.det u v
      have k1:0 < det u v p1:=by rw [wY]; exact S.pqq List.mem_cons_self s3
      have k2:=S.xyqm s3
      have:=pp bt.pa k1
      have:=pz (Int.le_of_lt bt.pb) k2
      exact zr bt.pg (by omega)
  · obtain ⟨bt,_⟩:=S.X1 h1
    rcases b4 with rfl | ⟨h4,rfl⟩
    · have:u=xA r (xu p1 P) q1∧l3=[v,w]:=by
        injection e with e1 e2
        exact ⟨e1,by simpa using e2.symm⟩
      obtain ⟨rfl,rfl⟩:=this
      have e3:=bt.det v w
      have k1:0 < det v w (xu p1 P):=by rw [wY]; exact S.pqq (yh p1 P) s3
      have k2:0≤det v w q1:=by rw [wY]; exact S.q1xy s3
      have:=pp bt.pa k1
      have:=pz (Int.le_of_lt bt.pb) k2
      rw [zO]
      exact zr bt.pg (by omega)
    · obtain ⟨bu,_⟩:=S.X2 h4
      have:u=xA r (xu p1 P) q1∧l3=[v]∧w=xA r p1 (xu q1 Q):=by
        injection e with e1 e
        have e:[v,w]=l3++[xA r p1 (xu q1 Q)]:=e
        cases l3 with
        | nil=>cases e
        | cons a l3 =>
          injection e with e2 e
          cases l3 with
          | nil=>injection e with e3 _; exact ⟨e1,by rw [e2],e3⟩
          | cons b l3=>injection e with _ e; simp at e
      obtain ⟨rfl,rfl,rfl⟩:=this
      have hv:v∈q1::Q:=List.singleton_sublist.mp s3
      have e3:=bu.det (xA r (xu p1 P) q1) v
      have e4:=bt.det v p1
      have e5:=bt.det v (xu q1 Q)
      have r1:det v p1 (xu p1 P)=det p1 (xu p1 P) v:=zO _ _ _
      have r2:det v p1 q1=det p1 q1 v:=zO _ _ _
      have r3:det v (xu q1 Q) (xu p1 P)=det (xu p1 P) v (xu q1 Q):=wY _ _ _
      have r4:det v (xu q1 Q) q1=det q1 v (xu q1 Q):=wY _ _ _
      rw [r1,r2] at e4
      rw [r3,r4] at e5
      obtain ⟨f1,f2⟩:=S.p1pkx hv
      obtain ⟨f3,f4⟩:=S.pq1x (p:=p1) List.mem_cons_self hv
      obtain ⟨f5,f6⟩:=S.pxqm (p:=xu p1 P) (yh p1 P) hv
      have f7:=S.q1xqm hv
      have n1:=pz (Int.le_of_lt bt.pa) f1
      have n2:=pz (Int.le_of_lt bt.pb) f3
      have n3:=pz (Int.le_of_lt bt.pa) f5
      have n4:=pz (Int.le_of_lt bt.pb) f7
      have g1:0≤det v p1 (xA r (xu p1 P) q1):=yV bt.pg (by omega)
      have g2:0≤det v (xu q1 Q) (xA r (xu p1 P) q1):=yV bt.pg (by omega)
      have some:0 < det v p1 (xA r (xu p1 P) q1)∨0 < det v (xu q1 Q) (xA r (xu p1 P) q1):=by
        by_cases hq:Q=[]
        · have hp':P≠[]:=S.three.resolve_right (fun z=>z hq)
          left
          have:=pp bt.pa (f2 hp')
          exact zr bt.pg (by omega)
        · by_cases hv1:v=q1
          · right
            have:=pp bt.pa (f6 (by rw [hv1]; exact S.q1ne hq))
            exact zr bt.pg (by omega)
          · left
            have:=pp bt.pb (f4 hv1)
            exact zr bt.pg (by omega)
      have m1:det (xA r (xu p1 P) q1) v p1=det v p1 (xA r (xu p1 P) q1):=zO _ _ _
      have m2:det (xA r (xu p1 P) q1) v (xu q1 Q)=det v (xu q1 Q) (xA r (xu p1 P) q1):=zO _ _ _
      rw [m1,m2] at e3
      refine zr bu.pg ?_
      rw [e3]
      have t1:=pz (Int.le_of_lt bu.pa) g1
      have t2:=pz (Int.le_of_lt bu.pb) g2
      rcases some with z | z
      · have:=pp bu.pa z; omega
      · have:=pp bu.pb z; omega
end oy
end
end Pol
namespace Pol
section
variable {Ls P Q:List R3} {r p1 q1:R3}
namespace oy
variable (S:oy Ls r p1 q1 P Q)
include S
theorem pairs {u v:R3} (h:(u,v)∈cyc (left r p1 q1 P Q)):(u=u1 r p1 q1 Q∧v=w1 r p1 q1 P)∨(val r q1 < 0∧u=xA r (xu p1 P) q1∧v=q1)∨(val r (xu q1 Q) < 0∧u=xu q1 Q∧v=xA r p1 (xu q1 Q))∨(u,v)∈chain q1 Q:=by
  unfold left bef at h
  unfold u1 w1
  by_cases h1:val r q1 < 0
  · by_cases h2:val r (xu q1 Q) < 0
    · simp only [if_pos h1,if_pos h2,List.cons_append,List.nil_append] at h ⊢
      have e:cyc (xA r (xu p1 P) q1::q1::(Q++[xA r p1 (xu q1 Q)]))=(xA r p1 (xu q1 Q),xA r (xu p1 P) q1)::(xA r (xu p1 P) q1,q1)::(chain q1 Q++[(xu q1 Q,xA r p1 (xu q1 Q))]):=by
        show (xu q1 (Q++[_]),_)::(_,q1)::chain q1 (Q++[_])=_
        rw [j_,qu]; rfl
      rw [e] at h
      rcases List.mem_cons.mp h with h | h
      · injection h with a b; exact .inl ⟨a,b⟩
      · rcases List.mem_cons.mp h with h | h
        · injection h with a b; exact .inr (.inl ⟨h1,a,b⟩)
        · rcases List.mem_append.mp h with h | h
          · exact .inr (.inr (.inr h))
          · have h:=List.mem_singleton.mp h
            injection h with a b; exact .inr (.inr (.inl ⟨h2,a,b⟩))
    · simp only [if_pos h1,if_neg h2,List.cons_append,List.nil_append,List.append_nil] at h ⊢
      have e:cyc (xA r (xu p1 P) q1::q1::Q)=(xu q1 Q,xA r (xu p1 P) q1)::(xA r (xu p1 P) q1,q1)::chain q1 Q:=rfl
      rw [e] at h
      rcases List.mem_cons.mp h with h | h
      · injection h with a b; exact .inl ⟨a,b⟩
      · rcases List.mem_cons.mp h with h | h
        · injection h with a b; exact .inr (.inl ⟨h1,a,b⟩)
        · exact .inr (.inr (.inr h))
  · by_cases h2:val r (xu q1 Q) < 0
    · simp only [if_neg h1,if_pos h2,List.cons_append,List.nil_append] at h ⊢
      have e:cyc (q1::(Q++[xA r p1 (xu q1 Q)]))=(xA r p1 (xu q1 Q),q1)::(chain q1 Q++[(xu q1 Q,xA r p1 (xu q1 Q))]):=by
        show (xu q1 (Q++[_]),_)::chain q1 (Q++[_])=_
        rw [j_,qu]; rfl
      rw [e] at h
      rcases List.mem_cons.mp h with h | h
      · injection h with a b; exact .inl ⟨a,b⟩
      · rcases List.mem_append.mp h with h | h
        · exact .inr (.inr (.inr h))
        · have h:=List.mem_singleton.mp h
          injection h with a b; exact .inr (.inr (.inl ⟨h2,a,b⟩))
    · simp only [if_neg h1,if_neg h2,List.cons_append,List.nil_append,List.append_nil] at h ⊢
      have e:cyc (q1::Q)=(xu q1 Q,q1)::chain q1 Q:=rfl
      rw [e] at h
      rcases List.mem_cons.mp h with h | h
      · injection h with a b; exact .inl ⟨a,b⟩
      · exact .inr (.inr (.inr h))
theorem old1:(xu p1 P,q1)∈cyc ((p1::P)++(q1::Q)):=by
  rw [kl]; exact List.mem_append_right _ List.mem_cons_self
theorem old2:(xu q1 Q,p1)∈cyc ((p1::P)++(q1::Q)):=by
  rw [kl]; exact List.mem_append_left _ List.mem_cons_self
theorem old3 {u v:R3} (h:(u,v)∈chain q1 Q):(u,v)∈cyc ((p1::P)++(q1::Q)):=by
  rw [kl]; exact List.mem_append_right _ (List.mem_cons_of_mem _ h)
theorem pk_ne:xu p1 P≠q1:=fun e=>by have:=S.pkgt; have:=S.q1le; rw [e] at *; omega
theorem p1_ne:xu q1 Q≠p1:=fun e=>by have:=S.p1gt; have:=S.qmle; rw [e] at *; omega
theorem len_left:(val r q1 < 0∨val r (xu q1 Q) < 0∨2≤Q.length)→3≤(left r p1 q1 P Q).length:=by
  intro h
  unfold left bef
  by_cases hq:Q=[]
  · subst hq
    have h':val r q1 < 0:=by
      rcases h with h | h | h
      · exact h
      · exact h
      · simp at h
    rw [if_pos h',if_pos (show val r (xu q1 []) < 0 from h')]; simp
  · have l1:1≤Q.length:=by
      cases Q with
      | nil=>exact absurd rfl hq
      | cons _ _=>simp
    rcases h with h | h | h
    · rw [if_pos h]; simp; omega
    · rw [if_pos h]; simp; omega
    · simp; omega
theorem small (h:¬ (val r q1 < 0∨val r (xu q1 Q) < 0∨2≤Q.length)):left r p1 q1 P Q=q1::Q∧∀ v∈q1::Q,val r v=0:=by
  have h1:¬ val r q1 < 0:=fun z=>h (.inl z)
  have h2:¬ val r (xu q1 Q) < 0:=fun z=>h (.inr (.inl z))
  have h3:¬ 2≤Q.length:=fun z=>h (.inr (.inr z))
  refine ⟨by unfold left bef; rw [if_neg h1,if_neg h2]; simp,fun v hv=>?_⟩
  have a:=S.q1le
  have b:=S.qmle
  rcases List.mem_cons.mp hv with rfl | hv
  · omega
  · match Q,hv,h3,b,h2 with
    | [x],hv,_,b,h2 =>
      have:v=x:=by simpa using hv
      subst this
      have b:val r v≤0:=b
      have h2:¬ val r v < 0:=h2
      omega
    | _::_::_,_,h3,_,_=>exact absurd (by simp) h3
theorem good_left:Good (Ls++[r]) (left r p1 q1 P Q):=by
  have keptOld:∀ s∈Ls,∀ v∈(p1::P)++(q1::Q),val s v≤0:=fun s hs v hv=>S.good.kept v hv s hs
  have mP:∀ {v},v∈p1::P→v∈(p1::P)++(q1::Q):=fun h=>List.mem_append_left _ h
  have mQ:∀ {v},v∈q1::Q→v∈(p1::P)++(q1::Q):=fun h=>List.mem_append_right _ h
  refine ⟨⟨fun u v w s=>S.tri s,?_⟩,fun v hv=>?_,fun v hv=>?_,fun v hv s hs=>?_,fun u v he hne=>?_,fun v hv=>?_,fun p h0 hp=>?_⟩
  · by_cases c:val r q1 < 0∨val r (xu q1 Q) < 0∨2≤Q.length
    · exact kC (fun u v w s=>S.tri s) (S.len_left c)
    · rw [(S.small c).1]; exact (List.nodup_append.mp S.nd).2.1
  · rcases S.mem_left hv with hv | ⟨h,rfl⟩ | ⟨h,rfl⟩
    · exact S.botQ hv
    · exact (S.X1 h).2.2.1
    · exact (S.X2 h).2.2.1
  · rcases S.mem_left hv with hv | ⟨h,rfl⟩ | ⟨h,rfl⟩
    · exact S.good.prim v (mQ hv)
    · exact (S.X1 h).2.2.2
    · exact (S.X2 h).2.2.2
  · rcases List.mem_append.mp hs with hs | hs
    · rcases S.mem_left hv with hv | ⟨h,rfl⟩ | ⟨h,rfl⟩
      · exact keptOld s hs v (mQ hv)
      · exact (S.X1 h).1.kept (keptOld s hs _ (mP (yh p1 P))) (keptOld s hs _ (mQ List.mem_cons_self))
      · exact (S.X2 h).1.kept (keptOld s hs _ (mP List.mem_cons_self)) (keptOld s hs _ (mQ (yh q1 Q)))
    · have:s=r:=by simpa using hs
      subst this
      rcases S.mem_left hv with hv | ⟨h,rfl⟩ | ⟨h,rfl⟩
      · exact S.hQ v hv
      · rw [(S.X1 h).2.1]; exact Int.le_refl _
      · rw [(S.X2 h).2.1]; exact Int.le_refl _
  · rcases S.pairs he with ⟨rfl,rfl⟩ | ⟨h,rfl,rfl⟩ | ⟨h,rfl,rfl⟩ | h
    · obtain ⟨_,_,_,_,_,e1⟩:=S.w1b
      obtain ⟨_,_,_,_,_,e2⟩:=S.u1b
      exact ⟨r,by simp,e2,e1⟩
    · obtain ⟨s,hs,a,b⟩:=S.good.edge _ _ S.old1 S.pk_ne
      exact ⟨s,List.mem_append_left _ hs,(S.X1 h).1.tight a b,b⟩
    · obtain ⟨s,hs,a,b⟩:=S.good.edge _ _ S.old2 S.p1_ne
      exact ⟨s,List.mem_append_left _ hs,a,(S.X2 h).1.tight b a⟩
    · obtain ⟨s,hs,a,b⟩:=S.good.edge _ _ (S.old3 h) hne
      exact ⟨s,List.mem_append_left _ hs,a,b⟩
  · rcases S.mem_left hv with hv | ⟨h,rfl⟩ | ⟨h,rfl⟩
    · obtain ⟨s,hs,t,ht,a,b,c⟩:=S.good.two v (mQ hv)
      exact ⟨s,List.mem_append_left _ hs,t,List.mem_append_left _ ht,a,b,c⟩
    · obtain ⟨s,hs,a,b⟩:=S.good.edge _ _ S.old1 S.pk_ne
      exact ⟨s,List.mem_append_left _ hs,r,by simp,(S.X1 h).1.tight a b,(S.X1 h).2.1,unlike (S.dir s hs) (S.botP (yh p1 P)) (S.botQ List.mem_cons_self) a b (Int.mul_neg_of_pos_of_neg S.pkgt h)⟩
    · obtain ⟨s,hs,a,b⟩:=S.good.edge _ _ S.old2 S.p1_ne
      exact ⟨s,List.mem_append_left _ hs,r,by simp,(S.X2 h).1.tight b a,(S.X2 h).2.1,unlike (S.dir s hs) (S.botP List.mem_cons_self) (S.botQ (yh q1 Q)) b a (Int.mul_neg_of_pos_of_neg S.p1gt h)⟩
  · have hpL:∀ s∈Ls,val s p≤0:=fun s hs=>hp s (List.mem_append_left _ hs)
    have hpr:val r p≤0:=hp r (by simp)
    obtain ⟨m,hm,cn⟩:=S.good.all p h0 hpL
    by_cases c:val r q1 < 0∨val r (xu q1 Q) < 0∨2≤Q.length
    · have he:∀ u v,(u,v)∈cyc ((p1::P)++(q1::Q))→0≤det u v p:=fun u v h=>by
        have:=cn.det u v fun w hw=>S.good.ccw.edge h hw
        rw [ur] at this
        exact yV hm this
      refine Ccw.incone ⟨fun u v w s=>S.tri s,kC (fun u v w s=>S.tri s) (S.len_left c)⟩ (S.len_left c) fun u v hm'=>?_
      rcases S.pairs hm' with ⟨e1,e2⟩ | ⟨h,e1,e2⟩ | ⟨h,e1,e2⟩ | h
      · rw [e1,e2]
        refine S.close ?_ hpr
        rcases c with c | c | c
        · exact .inl c
        · by_cases hq:Q=[]
          · subst hq; exact .inl c
          · exact .inr hq
        · right; intro z; subst z; simp at c
      · rw [e1,e2]
        have bt:=(S.X1 h).1
        have e:=bt.det q1 p
        have r1:det q1 p (xu p1 P)=det (xu p1 P) q1 p:=wY _ _ _
        rw [r1,vb,Int.mul_zero,Int.add_zero] at e
        have k:=pz (Int.le_of_lt bt.pa) (he _ _ S.old1)
        rw [zO]
        exact yV bt.pg (by omega)
      · rw [e1,e2]
        have bt:=(S.X2 h).1
        have e:=bt.det p (xu q1 Q)
        have r1:det p (xu q1 Q) p1=det (xu q1 Q) p1 p:=zO _ _ _
        rw [r1,ui,Int.mul_zero,Int.add_zero] at e
        have k:=pz (Int.le_of_lt bt.pa) (he _ _ S.old2)
        rw [wY]
        exact yV bt.pg (by omega)
      · exact he u v (S.old3 h)
    · obtain ⟨e,z⟩:=S.small c
      refine ⟨m,hm,?_⟩
      have ge:∀ v∈(p1::P)++(q1::Q),0≤val r v:=fun v hv=>by
        rcases List.mem_append.mp hv with hv | hv
        · have:=S.hP v hv; omega
        · have:=z v hv; omega
      have:=cn.zeros r ge (by rw [val_mul]; exact pn (Int.le_of_lt hm) hpr)
      rw [e]
      refine this.mono fun v hv=>?_
      obtain ⟨hv,hv0⟩:=List.mem_filter.mp hv
      have hv0:val r v=0:=by simpa using hv0
      rcases List.mem_append.mp hv with hv | hv
      · have:=S.hP v hv; omega
      · exact .mem hv
end oy
end
end Pol
namespace Pol
def yg (r:R3) (left:List R3) (p:R3 × R3):List R3 :=
  let l1:=if val r p.1*val r p.2 < 0 then (if xA r p.1 p.2∈left then left else left++[xA r p.1 p.2]) else left
  if val r p.2≤0 then l1++[p.2] else l1
def yA (l:List R3) (r:R3):List R3:=(cyc l).foldl (yg r) []
theorem cS {r:R3} {acc:List R3} {p:R3 × R3} (h:(acc++seg r p).Nodup):yg r acc p=acc++seg r p:=by
  unfold yg seg at *
  by_cases c:val r p.1*val r p.2 < 0
  · rw [if_pos c] at h ⊢
    have hn:xA r p.1 p.2∉acc:=fun z=>by
      have:=(List.nodup_append.mp h).2.2 _ z _ (List.mem_append_left _ (List.mem_singleton.mpr rfl))
      exact this rfl
    simp only [if_neg hn]
    split <;> simp
  · rw [if_neg c] at h ⊢
    simp only
    split <;> simp
theorem rj {r:R3}:∀ {ps:List (R3 × R3)} {acc:List R3},(acc++ps.flatMap (seg r)).Nodup→ps.foldl (yg r) acc=acc++ps.flatMap (seg r)
  | [],acc,_=>by simp
  | p::ps,acc,h=>by
    have h':(acc++(seg r p++ps.flatMap (seg r))).Nodup:=h
    rw [← List.append_assoc] at h'
    rw [List.foldl_cons,cS (List.nodup_append.mp h').1,rj h',List.append_assoc]; rfl
theorem fO {r:R3} {l:List R3} (h:(ar r l).Nodup):yA l r=ar r l:=by
  unfold yA
  rw [rj (by simpa [ar] using h)]; rfl
theorem va {r:R3} {l:List R3} (h:∀ v∈l,val r v≤0):ar r l=l:=by
  cases l with
  | nil=>rfl
  | cons x xs=>exact jq (h _ (yh x xs)) h
theorem u5 {r:R3} {l:List R3} (h:∀ v∈l,0 < val r v):ar r l=[]:=by
  cases l with
  | nil=>rfl
  | cons x xs=>exact jF (h _ (yh x xs)) h
theorem qv {Ls l:List R3} {r:R3} (g:Good Ls l) (h:∀ v∈l,val r v≤0):Good (Ls++[r]) l where
  ccw:=g.ccw
  bot:=g.bot
  prim:=g.prim
  kept:=fun v hv s hs=>by
    rcases List.mem_append.mp hs with hs | hs
    · exact g.kept v hv s hs
    · have:s=r:=by simpa using hs
      subst this
      exact h v hv
  edge:=fun u v he hn=>by
    obtain ⟨s,hs,a⟩:=g.edge u v he hn
    exact ⟨s,List.mem_append_left _ hs,a⟩
  two:=fun v hv=>by
    obtain ⟨s,hs,t,ht,a⟩:=g.two v hv
    exact ⟨s,List.mem_append_left _ hs,t,List.mem_append_left _ ht,a⟩
  all:=fun p h0 hp=>g.all p h0 fun s hs=>hp s (List.mem_append_left _ hs)
theorem uc {Ls l l':List R3} {r:R3} (g:Good Ls l) (h:∀ v∈l,0≤val r v) (hs:List.Sublist l' l) (hl:l'.length≤1) (h0:∀ v∈l',val r v=0) (h1:∀ v∈l,val r v=0→v∈l'):Good (Ls++[r]) l' where
  ccw:=⟨fun u v w s=>by
    have:=s.length_le
    simp at this
    omega,g.ccw.nd.sublist hs⟩
  bot:=fun v hv=>g.bot v (hs.subset hv)
  prim:=fun v hv=>g.prim v (hs.subset hv)
  kept:=fun v hv s hs'=>by
    rcases List.mem_append.mp hs' with h' | h'
    · exact g.kept v (hs.subset hv) s h'
    · have:s=r:=by simpa using h'
      subst this
      rw [h0 v hv]; exact Int.le_refl _
  edge:=fun u v he hn=>by
    exfalso
    match l',hl,he with
    | [x],_,he =>
      have:(u,v)=(x,x):=by simpa [cyc,chain,xu] using he
      injection this with a b
      exact hn (by rw [a,b])
    | [],_,he=>simp [cyc] at he
    | _::_::_,hl,_=>simp at hl
  two:=fun v hv=>by
    obtain ⟨s,hs',t,ht,a⟩:=g.two v (hs.subset hv)
    exact ⟨s,List.mem_append_left _ hs',t,List.mem_append_left _ ht,a⟩
  all:=fun p hz hp=>by
    obtain ⟨m,hm,c⟩:=g.all p hz fun s hs=>hp s (List.mem_append_left _ hs)
    refine ⟨m,hm,(c.zeros r h ?_).mono fun v hv=>?_⟩
    · rw [val_mul]; exact pn (Int.le_of_lt hm) (hp r (by simp))
    · obtain ⟨a,b⟩:=List.mem_filter.mp hv
      exact .mem (h1 v a (by simpa using b))
theorem kE {Ls:List R3} {r u v x:R3} (g:Good Ls [u,v]) (dir:∀ s∈Ls,s.1≠0∨s.2.1≠0) (hu:0 < val r u) (hv:val r v < 0) (hx:x=xA r u v):Good (Ls++[r]) [x,v]:=by
  subst hx
  have bu:=g.bot u (by simp)
  have bv:=g.bot v (by simp)
  obtain ⟨bt,x0,xb,xp⟩:=vz (r:=r) bu bv (Int.mul_neg_of_pos_of_neg hu hv)
  have ne:u≠v:=fun e=>by rw [e] at hu; omega
  obtain ⟨s,hs,su,sv⟩:=g.edge u v (by simp [cyc,chain,xu]) ne
  have nx:xA r u v≠v:=fun e=>by rw [e] at x0; omega
  have sx:=bt.tight su sv
  refine ⟨⟨fun a b c h=>by have:=h.length_le; simp at this,by simp [nx]⟩,fun w hw=>?_,fun w hw=>?_,fun w hw t ht=>?_,fun a b he hn=>?_,fun w hw=>?_,fun p hz hp=>?_⟩
  · simp only [List.mem_cons,List.not_mem_nil,or_false] at hw
    rcases hw with rfl | rfl
    · exact xb
    · exact bv
  · simp only [List.mem_cons,List.not_mem_nil,or_false] at hw
    rcases hw with rfl | rfl
    · exact xp
    · exact g.prim w (by simp)
  · simp only [List.mem_cons,List.not_mem_nil,or_false] at hw
    rcases List.mem_append.mp ht with ht | ht
    · rcases hw with rfl | rfl
      · exact bt.kept (g.kept u (by simp) t ht) (g.kept v (by simp) t ht)
      · exact g.kept w (by simp) t ht
    · have:t=r:=by simpa using ht
      subst this
      rcases hw with rfl | rfl
      · rw [x0]; exact Int.le_refl _
      · exact Int.le_of_lt hv
  · have he:(a,b)=(v,xA r u v)∨(a,b)=(xA r u v,v):=by simpa [cyc,chain,xu] using he
    rcases he with e | e <;> injection e with e1 e2 <;> subst e1 e2
    · exact ⟨s,List.mem_append_left _ hs,sv,sx⟩
    · exact ⟨s,List.mem_append_left _ hs,sx,sv⟩
  · simp only [List.mem_cons,List.not_mem_nil,or_false] at hw
    rcases hw with rfl | rfl
    · exact ⟨s,List.mem_append_left _ hs,r,by simp,sx,x0,unlike (dir s hs) bu bv su sv (Int.mul_neg_of_pos_of_neg hu hv)⟩
    · obtain ⟨s,hs',t,ht,a⟩:=g.two w (by simp)
      exact ⟨s,List.mem_append_left _ hs',t,List.mem_append_left _ ht,a⟩
  · obtain ⟨m,hm,c⟩:=g.all p hz fun s hs=>hp s (List.mem_append_left _ hs)
    obtain ⟨a,b,a0,b0,e⟩:=c.pair
    have hr:val r (mul m p)≤0:=by rw [val_mul]; exact pn (Int.le_of_lt hm) (hp r (by simp))
    rw [e,val_add,val_mul,val_mul] at hr
    have av:abs (val r v) = - val r v:=by unfold abs; rw [if_pos hv]
    have au:abs (val r u)=val r u:=by unfold abs; rw [if_neg (by omega)]
    refine ⟨(- val r v)*m,pp (by omega) hm,?_⟩
    have e2:mul ((- val r v)*m) p=add (mul (a*(uh (cw r u v):Int)) (xA r u v)) (mul (b*(- val r v)-a*val r u) v):=by
      have e3:mul ((- val r v)*m) p=mul (- val r v) (mul m p):=by apply ext3 <;> simp only [mul] <;> grind
      have e4:mul (a*(uh (cw r u v):Int)) (xA r u v)=mul a (mul (uh (cw r u v)) (xA r u v)):=by apply ext3 <;> simp only [mul] <;> grind
      rw [e3,e,e4,bt.e,av,au]
      apply ext3 <;> simp only [mul,add] <;> grind
    rw [e2]
    have k:0≤b*(- val r v)-a*val r u:=by
      have:b*(- val r v)-a*val r u = - (a*val r u+b*val r v):=by grind
      omega
    exact ((Cn.mem (by simp)).smul (pz a0 (Int.le_of_lt bt.pg))).add ((Cn.mem (by simp)).smul k)
theorem Good.sw {Ls:List R3} {u v:R3} (g:Good Ls [u,v]):Good Ls [v,u]:=Good.rot (a:=[u]) (b:=[v]) g
theorem aU {Ls l:List R3} {r:R3} (g:Good Ls l) (dir:∀ s∈Ls,s.1≠0∨s.2.1≠0):Good (Ls++[r]) (yA l r):=by
  match l,g with
  | [],g =>
    show Good (Ls++[r]) []
    exact qv g fun v hv=>by simp at hv
  | [v],g =>
    by_cases h:val r v≤0
    · have hk:∀ w∈[v],val r w≤0:=fun w hw=>by rw [List.mem_singleton.mp hw]; exact h
      rw [fO (by rw [va hk]; simp),va hk]
      exact qv g hk
    · have hk:∀ w∈[v],0 < val r w:=fun w hw=>by rw [List.mem_singleton.mp hw]; omega
      rw [fO (by rw [u5 hk]; simp),u5 hk]
      exact uc g (fun w hw=>Int.le_of_lt (hk w hw)) (List.nil_sublist _) (by simp) (fun w hw=>by simp at hw) fun w hw h0=>by have:=hk w hw; omega
  | [u,v],g =>
    have ne:u≠v:=by
      have:=g.ccw.nd
      simp at this
      exact this
    have cy:cyc [u,v]=[(v,u),(u,v)]:=rfl
    unfold yA
    rw [cy]
    simp only [List.foldl_cons,List.foldl_nil]
    by_cases c:val r u*val r v < 0
    · have c':val r v*val r u < 0:=by rw [Int.mul_comm]; exact c
      have ex:xA r v u=xA r u v:=by unfold xA; rw [bx]
      have hu0:val r u≠0:=fun z=>by rw [z] at c; simp at c
      have hv0:val r v≠0:=fun z=>by rw [z] at c; simp at c
      by_cases hu:val r u≤0
      · have hv:0 < val r v:=by
          rcases Int.lt_or_le 0 (val r v) with z | z
          · exact z
          · have:=nn hu z; omega
        have e1:yg r [] (v,u)=[xA r v u,u]:=by
          unfold yg
          simp only [if_pos c',if_pos hu]
          simp
        have e2:yg r [xA r v u,u] (u,v)=[xA r v u,u]:=by
          unfold yg
          simp only [if_pos c,if_neg (show ¬ val r v≤0 by omega)]
          rw [if_pos (by rw [← ex]; simp)]
        rw [e1,e2]
        exact kE g.sw dir hv (by omega) rfl
      · have hv:val r v < 0:=by
          rcases Int.lt_or_le (val r v) 0 with z | z
          · exact z
          · have:=pz (by omega:0≤val r u) z; omega
        have e1:yg r [] (v,u)=[xA r v u]:=by
          unfold yg
          simp only [if_pos c',if_neg hu]
          simp
        have e2:yg r [xA r v u] (u,v)=[xA r v u,v]:=by
          unfold yg
          simp only [if_pos c,if_pos (show val r v≤0 by omega)]
          rw [if_pos (by rw [← ex]; simp)]; rfl
        rw [e1,e2]
        exact kE g dir (by omega) hv ex
    · have c':¬ val r v*val r u < 0:=by rw [Int.mul_comm]; exact c
      have e1:yg r [] (v,u)=if val r u≤0 then [u] else []:=by
        unfold yg
        simp only [if_neg c']
        split <;> simp
      have e2:∀ l,yg r l (u,v)=if val r v≤0 then l++[v] else l:=fun l=>by
        unfold yg
        simp only [if_neg c]
      rw [e1,e2]
      by_cases hu:val r u≤0
      · rw [if_pos hu]
        by_cases hv:val r v≤0
        · rw [if_pos hv]
          show Good (Ls++[r]) [u,v]
          exact qv g fun w hw=>by
            simp only [List.mem_cons,List.not_mem_nil,or_false] at hw
            rcases hw with rfl | rfl <;> assumption
        · rw [if_neg hv]
          have hu0:val r u=0:=by
            rcases Int.lt_or_le (val r u) 0 with z | z
            · have:=Int.mul_neg_of_neg_of_pos z (show 0 < val r v by omega); omega
            · omega
          exact uc g (fun w hw=>by
            simp only [List.mem_cons,List.not_mem_nil,or_false] at hw
            rcases hw with rfl | rfl <;> omega) (by simp) (by simp) (fun w hw=>by rw [List.mem_singleton.mp hw]; exact hu0) fun w hw h0=>by
              simp only [List.mem_cons,List.not_mem_nil,or_false] at hw
              rcases hw with rfl | rfl
              · simp
              · omega
      · rw [if_neg hu]
        by_cases hv:val r v≤0
        · rw [if_pos hv]
          have hv0:val r v=0:=by
            rcases Int.lt_or_le (val r v) 0 with z | z
            · have:=Int.mul_neg_of_pos_of_neg (show 0 < val r u by omega) z; omega
            · omega
          exact uc g (fun w hw=>by
            simp only [List.mem_cons,List.not_mem_nil,or_false] at hw
            rcases hw with rfl | rfl <;> omega) (by simp) (by simp) (fun w hw=>by
              have:w=v:=by simpa using hw
              rw [this]; exact hv0) fun w hw h0=>by
              simp only [List.mem_cons,List.not_mem_nil,or_false] at hw
              rcases hw with rfl | rfl
              · omega
              · simp
        · rw [if_neg hv]
          exact uc g (fun w hw=>by
            simp only [List.mem_cons,List.not_mem_nil,or_false] at hw
            rcases hw with rfl | rfl <;> omega) (by simp) (by simp) (fun w hw=>by simp at hw) fun w hw h0=>by
              simp only [List.mem_cons,List.not_mem_nil,or_false] at hw
              rcases hw with rfl | rfl <;> omega
  | x::y::z::t,g =>
    obtain ⟨a,b,P,Q,e1,e2,hP,hQ⟩:=g.ccw.parts r
    have e0:x::y::z::t=a++b:=e1
    rw [e0] at g ⊢
    have gr:Good Ls (b++a):=g.rot
    have mem:∀ v,v∈a++b→v∈P++Q:=fun v hv=>by rw [← e2]; simpa [or_comm] using hv
    have hlen:(P++Q).length=t.length+3:=by
      rw [← e2,List.length_append,Nat.add_comm,← List.length_append,← e0]; simp
    cases P with
    | nil =>
      have hk:∀ v∈a++b,val r v≤0:=fun v hv=>hQ v (by simpa using mem v hv)
      rw [fO (by rw [va hk]; exact g.ccw.nd),va hk]
      exact qv g hk
    | cons p1 P =>
      cases Q with
      | nil =>
        have hk:∀ v∈a++b,0 < val r v:=fun v hv=>hP v (by simpa using mem v hv)
        rw [fO (by rw [u5 hk]; simp),u5 hk]
        exact uc g (fun w hw=>Int.le_of_lt (hk w hw)) (List.nil_sublist _) (by simp) (fun w hw=>by simp at hw) fun w hw h0=>by have:=hk w hw; omega
      | cons q1 Q =>
        have S:oy Ls r p1 q1 P Q:=⟨by rw [← e2]; exact gr,hP,hQ,by
          rcases Classical.em (P=[]) with h | h
          · right
            intro h'
            subst h h'
            simp at hlen
          · exact .inl h,dir⟩
        have gl:=S.good_left
        unfold oy.left at gl
        have g2:=Good.rot (a:=bef r (xu p1 P) q1++q1::Q) (b:=bef r p1 (xu q1 Q)) gl
        rw [← j5 hP hQ,← e2] at g2
        obtain ⟨c,d,f1,f2⟩:=rN r a b
        rw [f2] at g2
        have g3:=g2.rot
        rw [← f1] at g3
        rw [fO g3.ccw.nd]
        exact g3
end Pol
namespace Pol
def FAR:Int:=60001
def box:List R3:=[(-FAR,-FAR,1),(FAR,-FAR,1),(FAR,FAR,1),(-FAR,FAR,1)]
def nF:List R3:=[(-1,0,FAR),(1,0,FAR),(0,-1,FAR),(0,1,FAR)]
theorem xdu {a b c d u v w:R3} (s:List.Sublist [u,v,w] [a,b,c,d]):(u=a∧v=b∧w=c)∨(u=a∧v=b∧w=d)∨(u=a∧v=c∧w=d)∨(u=b∧v=c∧w=d):=by
  have full:∀ {x y z u v w:R3},List.Sublist [u,v,w] [x,y,z]→u=x∧v=y∧w=z:=fun {x y z u v w} s=>by
    have:=s.eq_of_length (by simp)
    injection this with h1 h2
    injection h2 with h2 h3
    injection h3 with h3 _
    exact ⟨h1,h2,h3⟩
  cases s with
  | cons _ s=>exact .inr (.inr (.inr (full s)))
  | cons_cons _ s =>
    have two:∀ {x y z v w:R3},List.Sublist [v,w] [x,y,z]→(v=x∧w=y)∨(v=x∧w=z)∨(v=y∧w=z):=fun {x y z v w} s=>by
      cases s with
      | cons _ s =>
        have:=s.eq_of_length (by simp)
        injection this with h1 h2
        injection h2 with h2 _
        exact .inr (.inr ⟨h1,h2⟩)
      | cons_cons _ s =>
        have:w∈[y,z]:=List.singleton_sublist.mp s
        simp only [List.mem_cons,List.not_mem_nil,or_false] at this
        rcases this with rfl | rfl
        · exact .inl ⟨rfl,rfl⟩
        · exact .inr (.inl ⟨rfl,rfl⟩)
    rcases two s with ⟨h1,h2⟩ | ⟨h1,h2⟩ | ⟨h1,h2⟩
    · exact .inl ⟨rfl,h1,h2⟩
    · exact .inr (.inl ⟨rfl,h1,h2⟩)
    · exact .inr (.inr (.inl ⟨rfl,h1,h2⟩))
theorem bp:Ccw box:=by
  refine ⟨fun u v w s=>?_,by decide⟩
  rcases xdu s with ⟨rfl,rfl,rfl⟩ | ⟨rfl,rfl,rfl⟩ | ⟨rfl,rfl,rfl⟩ | ⟨rfl,rfl,rfl⟩ <;> decide
theorem rC:Good nF box:=by
  refine ⟨bp,by decide,by decide,by decide,fun u v h _=>?_,by decide,fun p hz hp=>?_⟩
  · have h:(u,v)∈[((-FAR,FAR,1),(-FAR,-FAR,1)),((-FAR,-FAR,1),(FAR,-FAR,1)),((FAR,-FAR,1),(FAR,FAR,1)),((FAR,FAR,1),(-FAR,FAR,1))]:=h
    simp only [List.mem_cons,List.not_mem_nil,or_false] at h
    rcases h with h | h | h | h <;> injection h with h1 h2 <;> subst h1 h2
    · exact ⟨(-1,0,FAR),by decide,by decide,by decide⟩
    · exact ⟨(0,-1,FAR),by decide,by decide,by decide⟩
    · exact ⟨(1,0,FAR),by decide,by decide,by decide⟩
    · exact ⟨(0,1,FAR),by decide,by decide,by decide⟩
  · have h1:=hp (-1,0,FAR) (by decide)
    have h2:=hp (1,0,FAR) (by decide)
    have h3:=hp (0,-1,FAR) (by decide)
    have h4:=hp (0,1,FAR) (by decide)
    simp only [val,FAR] at h1 h2 h3 h4
    refine bp.incone (by decide) fun u v h=>?_
    have h:(u,v)∈[((-FAR,FAR,1),(-FAR,-FAR,1)),((-FAR,-FAR,1),(FAR,-FAR,1)),((FAR,-FAR,1),(FAR,FAR,1)),((FAR,FAR,1),(-FAR,FAR,1))]:=h
    simp only [List.mem_cons,List.not_mem_nil,or_false] at h
    rcases h with h | h | h | h <;> injection h with h5 h6 <;> subst h5 h6 <;> simp only [det,FAR] <;> omega
def pieces (rows:List R3):List R3:=rows.foldl yA box
theorem fy:∀ (rows Ls l:List R3),Good Ls l→(∀ s∈Ls,s.1≠0∨s.2.1≠0)→(∀ s∈rows,s.1≠0∨s.2.1≠0)→Good (Ls++rows) (rows.foldl yA l)
  | [],Ls,l,g,_,_=>by simpa using g
  | r::rows,Ls,l,g,d1,d2=>by
    rw [List.foldl_cons]
    have:=fy rows (Ls++[r]) (yA l r) (aU g d1) (fun s hs=>by
      rcases List.mem_append.mp hs with h | h
      · exact d1 s h
      · rw [List.mem_singleton.mp h]; exact d2 r List.mem_cons_self) (fun s hs=>d2 s (List.mem_cons_of_mem _ hs))
    rwa [List.append_assoc] at this
theorem kX {rows:List R3} (d:∀ s∈rows,s.1≠0∨s.2.1≠0):Good (nF++rows) (pieces rows):=fy rows nF box rC (by decide) d
def GR (rows:List R3):Prop:=∀ u v:Int,(u≠0∨v≠0)→∃ r∈rows,0 < r.1*u+r.2.1*v
def sd (r:R3):Prop:=((-30≤r.1∧r.1≤30)∧(-30≤r.2.1∧r.2.1≤30))∧(-1000≤r.2.2∧r.2.2≤1000)
structure IsC (rows:List R3) (p:R3):Prop where
  kept:∀ r∈rows,val r p≤0
  two:∃ s∈rows,∃ t∈rows,val s p=0∧val t p=0∧turn s t≠0
section
variable {rows more:List R3}
structure xcu (rows more:List R3):Prop where
  box:∀ {p:R3},0 < p.2.2→(∀ r∈more,val r p≤0)→∀ s∈nF,val s p < 0
  fr:∀ r∈rows,sd r
  sub:∀ r∈rows,r∈more
  dir:∀ r∈more,r.1≠0∨r.2.1≠0
theorem xcu.corner (F:xcu rows more) {v:R3} (hv:v∈pieces more):0 < v.2.2∧uh v=1∧IsC more v:=by
  have g:=kX F.dir
  have hz:=g.bot v hv
  have hk:∀ r∈more,val r v≤0:=fun r hr=>g.kept v hv r (List.mem_append_right _ hr)
  have nb:=F.box hz hk
  obtain ⟨s,hs,t,ht,a,b,c⟩:=g.two v hv
  have in':∀ x∈nF++more,val x v=0→x∈more:=fun x hx h0=>by
    rcases List.mem_append.mp hx with h | h
    · have:=nb x h; omega
    · exact h
  exact ⟨hz,g.prim v hv,hk,s,in' s hs a,t,in' t ht b,a,b,c⟩
end
end Pol
namespace Pol
def dot (r s:R3):Int:=r.1*s.1+r.2.1*s.2.1
def bA (sg:Int) (last:Option R3) (x:R3):Bool:=match last with | none=>true | some l=>decide (0 < sg*turn l x)
def zx (r:R3) (sg:Int) (last:Option R3) (x:R3):Option R3 :=
  if 0 < sg*turn r x∧bA sg last x=true then some x else last
def far (r:R3) (sg:Int) (rs:List R3):Option R3:=rs.foldl (zx r sg) none
def back (r:R3) (rs:List R3):Bool:=rs.any fun x=>decide (turn r x=0) && decide (dot r x < 0)
def wW:List R3→Bool
  | []=>false
  | r::rs=>match far r 1 (r::rs),far r (-1) (r::rs) with
    | some l,some k=>decide (0 < turn l k) || back r (r::rs)
    | _,_=>false
theorem xbh {a b:Int} (h:0 < a) (k:a*b≤0):b≤0:=by
  rcases Int.lt_or_le 0 b with z | z
  · have:=pp h z; omega
  · exact z
theorem plk (r l k z:R3):turn r l*turn k z-turn r k*turn l z+turn r z*turn l k=0:=by
  obtain ⟨a,b,_⟩:=r; obtain ⟨c,d,_⟩:=l; obtain ⟨e,f,_⟩:=k; obtain ⟨g,h,_⟩:=z
  simp only [turn]; grind
theorem xdc (r l:R3):turn l r = - turn r l:=by
  obtain ⟨a,b,_⟩:=r; obtain ⟨c,d,_⟩:=l
  simp only [turn]; grind
theorem proj (r x z:R3):dot r r*turn x z=dot r x*turn r z-turn r x*dot r z:=by
  obtain ⟨a,b,_⟩:=r; obtain ⟨c,d,_⟩:=x; obtain ⟨g,h,_⟩:=z
  simp only [turn,dot]; grind
theorem sq {a:Int} (h:a≠0):0 < a*a:=by
  rcases Int.lt_or_le 0 a with z | z
  · exact pp z z
  · have:0 < (-a)*(-a):=pp (by omega) (by omega)
    rwa [Int.neg_mul_neg] at this
theorem sq0 (a:Int):0≤a*a:=by
  rcases Int.lt_or_le 0 a with z | z
  · exact pz (by omega) (by omega)
  · exact nn z z
theorem xa7 {r:R3} (h:r.1≠0∨r.2.1≠0):0 < dot r r:=by
  unfold dot
  have h1:=sq0 r.1
  have h2:=sq0 r.2.1
  rcases h with h | h
  · have:=sq h; omega
  · have:=sq h; omega
structure tm (r:R3) (s:Int) (rs:List R3) (l:R3):Prop where
  mem:l∈rs
  left:0 < s*turn r l
  all:∀ x∈rs,0 < s*turn r x→s*turn l x≤0
theorem xdv (s:Int) (r l k z:R3):(s*turn r l)*(s*turn k z)=(s*turn r k)*(s*turn l z)-(s*turn r z)*(s*turn l k):=by
  have:=plk r l k z
  grind
def xcJ (r:R3) (s:Int) (done:List R3):Option R3→Prop
  | none=>∀ x∈done,s*turn r x≤0
  | some l=>tm r s done l
theorem ni {r:R3} {s:Int}:∀ (rs done:List R3) (o:Option R3),xcJ r s done o→xcJ r s (done++rs) (rs.foldl (zx r s) o)
  | [],done,o,h=>by simpa using h
  | y::rs,done,o,h=>by
    rw [List.foldl_cons]
    have ih:=ni (r:=r) (s:=s) rs (done++[y]) (zx r s o y) (by
      unfold zx
      by_cases c:0 < s*turn r y∧bA s o y=true
      · rw [if_pos c]
        obtain ⟨c1,c2⟩:=c
        refine ⟨by simp,c1,fun x hx hp=>?_⟩
        rcases List.mem_append.mp hx with hx | hx
        · cases o with
          | none=>exact absurd (show s*turn r x≤0 from h x hx) (by omega)
          | some l =>
            have h:tm r s done l:=h
            have c2:0 < s*turn l y:=of_decide_eq_true c2
            have hl:s*turn l x≤0:=h.all x hx hp
            have e:=xdv s r l y x
            have p1:=pn (Int.le_of_lt c1) hl
            have p2:=pp hp c2
            exact xbh h.left (by rw [e]; omega)
        · have:x=y:=by simpa using hx
          subst this
          have:turn x x=0:=by unfold turn; grind
          rw [this]; simp
      · rw [if_neg c]
        cases o with
        | none =>
          intro x hx
          rcases List.mem_append.mp hx with hx | hx
          · exact h x hx
          · have:x=y:=by simpa using hx
            subst this
            have c':¬ 0 < s*turn r x:=fun z=>c ⟨z,rfl⟩
            omega
        | some l =>
          have h:tm r s done l:=h
          refine ⟨List.mem_append_left _ h.mem,h.left,fun x hx hp=>?_⟩
          rcases List.mem_append.mp hx with hx | hx
          · exact h.all x hx hp
          · have:x=y:=by simpa using hx
            subst this
            have c':¬ 0 < s*turn l x:=fun z=>c ⟨hp,decide_eq_true z⟩
            omega)
    rwa [List.append_assoc] at ih
theorem aV {r:R3} {s:Int} {rs:List R3} (h:far r s rs=none):∀ x∈rs,s*turn r x≤0:=by
  have:=ni (r:=r) (s:=s) rs [] none (fun x hx=>by simp at hx)
  unfold far at h
  rw [h] at this
  intro x hx
  exact this x (by simpa using hx)
theorem kT {r l:R3} {s:Int} {rs:List R3} (h:far r s rs=some l):tm r s rs l:=by
  have:=ni (r:=r) (s:=s) rs [] none (fun x hx=>by simp at hx)
  unfold far at h
  rw [h,List.nil_append] at this
  exact this
theorem pe {r l k:R3} {rs:List R3} (r0:∀ x∈rs,x.1≠0∨x.2.1≠0) (hr:r∈rs) (hl:tm r 1 rs l) (hk:tm r (-1) rs k) (h:¬ 0 < turn l k) (hb:back r rs=false):∀ x∈rs,turn l x≤0:=by
  intro x hx
  have l1:0 < turn r l:=by have:=hl.left; omega
  have k1:turn r k < 0:=by have:=hk.left; omega
  rcases Int.lt_trichotomy (turn r x) 0 with c | c | c
  · have kx:0≤turn k x:=by have:=hk.all x hx (by omega); omega
    have e:=plk r l k x
    have p1:=pz (Int.le_of_lt l1) kx
    have p2:=nn (Int.le_of_lt c) (by omega:turn l k≤0)
    have p3:0≤turn r k*turn l x:=by omega
    rcases Int.lt_or_le 0 (turn l x) with z | z
    · have p4:turn r k*turn l x < 0:=Int.mul_neg_of_neg_of_pos k1 z
      omega
    · exact z
  · have q:=proj r x l
    rw [c] at q
    simp only [Int.zero_mul,Int.sub_zero] at q
    have d0:0≤dot r x:=by
      rcases Int.lt_or_le (dot r x) 0 with z | z
      · exfalso
        have:back r rs=true:=by
          unfold back
          rw [List.any_eq_true]
          exact ⟨x,hx,by rw [decide_eq_true c,decide_eq_true z]; rfl⟩
        rw [this] at hb; cases hb
      · exact z
    have q1:=pz d0 (Int.le_of_lt l1)
    have q2:=xa7 (r0 r hr)
    have a:=xdc x l
    rw [a]
    have:0≤turn x l:=by
      rcases Int.lt_or_le (turn x l) 0 with z | z
      · have:=Int.mul_neg_of_pos_of_neg q2 z
        omega
      · exact z
    omega
  · have:=hl.all x hx (by omega)
    omega
def RA (rs:List R3):Prop:=∀ z∈rs,∀ s:Int,(s=1∨s = -1)→∃ x∈rs,0 < s*turn z x
theorem xcd {rs:List R3} (r0:∀ x∈rs,x.1≠0∨x.2.1≠0) (h:GR rs):RA rs:=fun z hz s hs=>by
  have key:∀ x:R3,x.1*(s * -z.2.1)+x.2.1*(s*z.1)=s*turn z x:=fun x=>by unfold turn; grind
  obtain ⟨x,hx,p⟩:=h (s * -z.2.1) (s*z.1) (by have:=r0 z hz; rcases hs with e | e <;> subst e <;> omega)
  exact ⟨x,hx,by rw [key x] at p; exact p⟩
theorem cH {rs:List R3} (r0:∀ x∈rs,x.1≠0∨x.2.1≠0) (ne:rs≠[]) (h:RA rs):wW rs=true:=by
  have no:∀ z:R3,z∈rs→∀ s:Int,(s=1∨s = -1)→(∀ x∈rs,s*turn z x≤0)→False:=fun z hz s hs hx=>by
    obtain ⟨x,hxm,p⟩:=h z hz s hs
    have:=hx x hxm
    omega
  cases rs with
  | nil=>exact absurd rfl ne
  | cons r t =>
    have hr:r∈r::t:=List.mem_cons_self
    have e:wW (r::t)=match far r 1 (r::t),far r (-1) (r::t) with
      | some l,some k=>decide (0 < turn l k) || back r (r::t)
      | _,_=>false:=rfl
    rw [e]
    cases e1:far r 1 (r::t) with
    | none=>exact (no r hr 1 (.inl rfl) (aV e1)).elim
    | some l =>
      cases e2:far r (-1) (r::t) with
      | none=>exact (no r hr (-1) (.inr rfl) (aV e2)).elim
      | some k =>
        show (decide (0 < turn l k) || back r (r::t))=true
        have hl:=kT e1
        have hk:=kT e2
        rcases Classical.em ((decide (0 < turn l k) || back r (r::t))=true) with q | q
        · exact q
        · exfalso
          simp only [Bool.or_eq_true,decide_eq_true_eq,not_or,Bool.not_eq_true] at q
          exact no l hl.mem 1 (.inl rfl) (fun x hx=>by have:=pe r0 hr hl hk q.1 q.2 x hx; omega)
theorem xbT {rs:List R3} (h:GR rs):rs≠[]:=fun e=>by
  obtain ⟨r,hr,_⟩:=h 1 0 (.inl (by decide))
  rw [e] at hr; simp at hr
end Pol
namespace Pol
theorem aX (r:R3) (acc:List R3) (p:R3 × R3):(yg r acc p).length≤acc.length+(seg r p).length:=by
  unfold yg seg
  by_cases c:val r p.1*val r p.2 < 0
  · by_cases m:xA r p.1 p.2∈acc
    · simp only [if_pos c,if_pos m]
      split <;> simp <;> omega
    · simp only [if_pos c,if_neg m]
      split <;> simp <;> omega
  · simp only [if_neg c]
    split <;> simp
theorem aJ (r:R3):∀ (ps:List (R3 × R3)) (acc:List R3),(ps.foldl (yg r) acc).length≤acc.length+(ps.flatMap (seg r)).length
  | [],acc=>by simp
  | p::ps,acc=>by
    rw [List.foldl_cons,List.flatMap_cons,List.length_append]
    have:=aJ r ps (yg r acc p)
    have:=aX r acc p
    omega
theorem m6 (r p q:R3):(bef r p q).length≤1:=by unfold bef; split <;> simp
theorem cC {l:List R3} (h:Ccw l) (r:R3):(ar r l).length≤l.length+2:=by
  obtain ⟨a,b,P,Q,e1,e2,hP,hQ⟩:=h.parts r
  obtain ⟨c,d,f1,f2⟩:=rN r a b
  have el:(ar r l).length=(ar r (P++Q)).length:=by
    rw [e1,f1,← e2,f2,List.length_append,List.length_append]; omega
  have ll:l.length=(P++Q).length:=by rw [e1,← e2,List.length_append,List.length_append]; omega
  rw [el,ll]
  cases P with
  | nil =>
    rw [List.nil_append,va hQ]; omega
  | cons p P =>
    cases Q with
    | nil=>rw [List.append_nil,u5 hP]; simp
    | cons q Q =>
      rw [j5 hP hQ]
      simp only [List.length_append,List.length_cons]
      have:=m6 r p (xu q Q)
      have:=m6 r (xu p P) q
      omega
theorem oM {l:List R3} (h:Ccw l) (r:R3):(yA l r).length≤l.length+2:=by
  have:=aJ r (cyc l) []
  have:=cC h r
  unfold yA ar at *
  simp at *
  omega
theorem kF:∀ (rows Ls l:List R3),Good Ls l→(∀ s∈Ls,s.1≠0∨s.2.1≠0)→(∀ s∈rows,s.1≠0∨s.2.1≠0)→(rows.foldl yA l).length≤l.length+2*rows.length
  | [],Ls,l,_,_,_=>by simp
  | r::rows,Ls,l,g,d,d'=>by
    rw [List.foldl_cons]
    have h1:=oM g.ccw r
    have dr:=d' r List.mem_cons_self
    have h2:=kF rows (Ls++[r]) (yA l r) (aU g d) (fun s hs=>by
      rcases List.mem_append.mp hs with h | h
      · exact d s h
      · rw [List.mem_singleton.mp h]; exact dr) (fun s hs=>d' s (List.mem_cons_of_mem _ hs))
    rw [List.length_cons]; omega
theorem r6 {rows:List R3} (d:∀ s∈rows,s.1≠0∨s.2.1≠0):(pieces rows).length≤4+2*rows.length:=kF rows nF box rC (by decide) d
theorem fL (p:R3):∀ l:List R3,(chain p l).length=l.length
  | []=>rfl
  | x::l=>by show (chain x l).length+1=_; rw [fL x l]; rfl
theorem o6:∀ l:List R3,(cyc l).length=l.length
  | []=>rfl
  | x::l=>fL _ _
theorem rz (p:R3):∀ (l:List R3) (i:Nat) (v:R3),l[i]? = some v→∃ u,(p::l)[i]? = some u∧(chain p l)[i]? = some (u,v)
  | [],i,v,h=>by simp at h
  | x::l,0,v,h=>by simp at h; subst h; exact ⟨p,rfl,rfl⟩
  | x::l,i+1,v,h=>by
    have h':l[i]? = some v:=by simpa using h
    obtain ⟨u,e1,e2⟩:=rz x l i v h'
    exact ⟨u,by simpa using e1,by show (chain x l)[i]? = _; exact e2⟩
theorem xa0 {l:List R3} {i:Nat} {v:R3} (h:l[i]? = some v):∃ u,u∈l∧(cyc l)[i]? = some (u,v)∧((i=0∧∃ ys,l=ys++[u])∨(0 < i∧l[i-1]? = some u)):=by
  cases l with
  | nil=>simp at h
  | cons x l =>
    obtain ⟨u,e1,e2⟩:=rz (xu x l) (x::l) i v h
    cases i with
    | zero =>
      have:xu x l=u:=by simpa using e1
      subst this
      obtain ⟨ys,e⟩:=jJ x l
      exact ⟨_,yh x l,e2,.inl ⟨rfl,ys,e⟩⟩
    | succ i =>
      have e1:(x::l)[i]? = some u:=by simpa using e1
      exact ⟨u,List.mem_of_getElem? e1,e2,.inr ⟨by omega,by simpa using e1⟩⟩
theorem kr {α β:Type} (f:β→α→β) (b:β) {l:List α} {i:Nat} {x:α} (h:l[i]? = some x):(l.take (i+1)).foldl f b=f ((l.take i).foldl f b) x:=by
  have hi:=(List.getElem?_eq_some_iff.mp h).1
  rw [List.take_succ,h,List.foldl_append]; rfl
end Pol
namespace Pol
end Pol
namespace L2
open PySem PySem.Spec PyProof.Rows
def Bk (k:Nat) (i:Int):Prop:=i.natAbs < 2 ^ k
theorem Bk.mono {k m:Nat} {i:Int} (h:Bk k i) (hk:k≤m):Bk m i:=Nat.lt_of_lt_of_le h (Nat.pow_le_pow_right (by decide) hk)
theorem Bk.mul {k m:Nat} {i j:Int} (h:Bk k i) (h':Bk m j):Bk (k+m) (i*j):=by
  unfold Bk at *
  rw [Int.natAbs_mul,Nat.pow_add]
  exact Nat.mul_lt_mul'' h h'
theorem Bk.add {k:Nat} {i j:Int} (h:Bk k i) (h':Bk k j):Bk (k+1) (i+j):=by
  unfold Bk at *
  rw [Nat.pow_succ]
  have:=Int.natAbs_add_le i j
  omega
theorem Bk.neg {k:Nat} {i:Int} (h:Bk k i):Bk k (-i):=by unfold Bk at *; rw [Int.natAbs_neg]; exact h
theorem Bk.sub {k:Nat} {i j:Int} (h:Bk k i) (h':Bk k j):Bk (k+1) (i-j):=by rw [Int.sub_eq_add_neg]; exact h.add h'.neg
theorem Bk.bd {k:Nat} {i:Int} (h:Bk k i) (hk:k≤2000:=by decide):Bd i:=h.mono hk
theorem Bk.abs {k:Nat} {i:Int} (h:Bk k i):Bk k (if i < 0 then -i else i):=by split; exact h.neg; exact h
theorem Bk.le {k:Nat} {i j:Int} (h:Bk k i) (hl:j.natAbs≤i.natAbs):Bk k j:=Nat.lt_of_le_of_lt hl h
def B3k (k:Nat) (r:Pol.R3):Prop:=(Bk k r.1∧Bk k r.2.1)∧Bk k r.2.2
theorem B3k.mono {k m:Nat} {r:Pol.R3} (h:B3k k r) (hk:k≤m):B3k m r:=⟨⟨h.1.1.mono hk,h.1.2.mono hk⟩,h.2.mono hk⟩
def B3 (r:Pol.R3):Prop:=(Bd r.1∧Bd r.2.1)∧Bd r.2.2
theorem B3k.b3 {k:Nat} {r:Pol.R3} (h:B3k k r) (hk:k≤2000:=by decide):B3 r:=h.mono hk
theorem B3k.val {k m:Nat} {r p:Pol.R3} (h:B3k k r) (h':B3k m p):Bk (k+m+2) (Pol.val r p) :=
  ((h.1.1.mul h'.1.1).add (h.1.2.mul h'.1.2)).sub ((h.2.mul h'.2).mono (Nat.le_succ _))
def tU:Tr→Bool
  | .int _=>true
  | _=>false
def frT (n d:Int):Tr:=.tup [.int n,.int d]
def dZ (t b:Int):Int:=t / (Int.gcd t b:Int)
def fo (t b:Int):Int:=b / (Int.gcd t b:Int)
def trR (r:Pol.R3):Tr:=.tup [.int r.1,.int r.2.1,.int r.2.2]
def xcr (v:Pol.R3):Tr:=.tup [frT (dZ v.1 v.2.2) (fo v.1 v.2.2),frT (dZ v.2.1 v.2.2) (fo v.2.1 v.2.2)]
theorem tZ (p:Pol.R3):pln (trR p)=true:=rfl
theorem si (p q:Pol.R3):teq (trR p) (trR q)=decide (p=q):=by
  have e:teq (trR p) (trR q)=(decide (p.1=q.1) && (decide (p.2.1=q.2.1) && (decide (p.2.2=q.2.2) && true))):=rfl
  rw [e]
  by_cases h:p=q
  · subst h; simp
  · rw [decide_eq_false h]
    by_cases h1:p.1=q.1
    · by_cases h2:p.2.1=q.2.1
      · by_cases h3:p.2.2=q.2.2
        · exact absurd (Pol.ext3 h1 h2 h3) h
        · simp [h3]
      · simp [h2]
    · simp [h1]
theorem vn {α:Type} (f:α→Tr) (h:∀ x,pln (f x)=true):∀ l:List α,PyData.canLayAll0 (wD (l.map f))=true
  | []=>rfl
  | x::l=>by
    show ((qO (f x)).canLay0 && PyData.canLayAll0 (wD (l.map f)))=true
    rw [vn f h l,show (qO (f x)).canLay0=true from h x]; rfl
theorem bI (l:List Pol.R3) (c:Pol.R3):((l.map trR).any fun u=>teq u (trR c))=decide (c∈l):=by
  rw [Bool.eq_iff_iff,List.any_eq_true,decide_eq_true_eq]
  constructor
  · rintro ⟨u,hu,h⟩
    obtain ⟨x,hx,rfl⟩:=List.mem_map.mp hu
    rw [si,decide_eq_true_eq] at h
    subst h; exact hx
  · intro h
    exact ⟨trR c,List.mem_map_of_mem h,by rw [si]; simp⟩
theorem pC {x y:Int} (hx:0≤x) (hy:0≤y):Int.gcd y (x % y)=Int.gcd x y:=by
  obtain ⟨n,rfl⟩:=Int.eq_ofNat_of_zero_le hy
  obtain ⟨m,rfl⟩:=Int.eq_ofNat_of_zero_le hx
  show Nat.gcd n (((m % n:Nat):Int)).natAbs=Nat.gcd m n
  rw [Int.natAbs_natCast,Nat.gcd_comm m n,Nat.gcd_rec n m,Nat.gcd_comm]
theorem nk {t b:Int} (hb:b≠0) (h:Bd b):Bd (Int.gcd t b:Int):=by
  unfold Bd
  refine Nat.lt_of_le_of_lt ?_ h
  have:=Int.gcd_le_natAbs_right (a:=t) hb
  omega
def j8:TSp:=fun ts KK=>∃ t,ts=[t]∧KK (.bl (tU t))
def dB:TSp:=fun ts KK=>∃ t,ts=[t]∧∃ us,(t=.tup us∨t=.lst us)∧us.length < sizeLine∧KK (.bl (us.all tU))
def pH:TSp:=fun ts KK=>∃ a b:Int,ts=[.int a,.int b]∧KK (.int (Int.gcd a b))
def xcg:TSp:=fun ts KK=>∃ t b:Int,ts=[.int t,.int b]∧b≠0∧Bd b∧KK (frT (dZ t b) (fo t b))
def sO:TSp:=fun ts KK=>∃ r p:Pol.R3,ts=[trR r,trR p]∧B3 r∧B3 p∧KK (.int (Pol.val r p))
def rf:TSp:=fun ts KK=>∃ r u v:Pol.R3,ts=[trR r,trR u,trR v]∧(B3k 100 r∧B3k 800 u∧B3k 800 v)∧(0 < u.2.2∧0 < v.2.2)∧Pol.val r u*Pol.val r v < 0∧KK (trR (Pol.xA r u v))
def ahead (p q:Pol.R3):Bool:=decide (p.1*q.2.2 < q.1*p.2.2∨p.1*q.2.2=q.1*p.2.2∧p.2.1*q.2.2 < q.2.1*p.2.2)
def oj:TSp:=fun ts KK=>∃ p q:Pol.R3,ts=[trR p,trR q]∧B3 p∧B3 q∧KK (.bl (ahead p q))
def k9:TSp:=fun ts KK=>∃ (l:List Pol.R3) (r:Pol.R3),ts=[.lst (l.map trR),trR r]∧B3k 100 r∧(∀ v∈l,B3k 800 v∧0 < v.2.2)∧l.length≤100000∧KK (.lst ((Pol.yA l r).map trR))
def yZ (l:List Pol.R3) (s i:Nat):Nat:=if ahead (l.getD i (0,0,0)) (l.getD s (0,0,0))=true then i else s
def qL (l:List Pol.R3):Nat:=(List.range l.length).foldl (yZ l) 0
def yN (l:List Pol.R3):List Pol.R3:=l.drop (qL l)++l.take (qL l)
def hU:TSp:=fun ts KK=>∃ l:List Pol.R3,ts=[.lst (l.map trR)]∧(∀ v∈l,B3 v)∧l.length≤100000∧KK (.lst ((yN l).map trR))
structure vK (rows:List Pol.R3):Prop where
  dir:∀ r∈rows,r.1≠0∨r.2.1≠0
  sm:∀ r∈rows,B3k 100 r
  len:rows.length≤10000
def rJ:TSp:=fun ts KK=>∃ (t:Tr) (r0 rows:List Pol.R3),ts=[.lst ((Pol.pieces r0).map trR),t]∧(t=.tup (rows.map trR)∨t=.lst (rows.map trR))∧vK (r0++rows)∧KK (.lst ((Pol.pieces (r0++rows)).map trR))
def j9:TSp:=fun ts KK=>∃ (t:Tr) (rows:List Pol.R3),ts=[t]∧(t=.tup (rows.map trR)∨t=.lst (rows.map trR))∧vK rows∧KK (.lst ((Pol.pieces rows).map trR))
def dz:TSp:=fun ts KK=>∃ l:List Pol.R3,ts=[.lst (l.map trR)]∧(∀ v∈l,B3k 800 v∧0 < v.2.2)∧l.length≤100000∧KK (.lst ((yN l).map xcr))
def kv:TSp:=fun ts KK=>∃ (t:Tr) (rows:List Pol.R3),ts=[t]∧(t=.tup (rows.map trR)∨t=.lst (rows.map trR))∧vK rows∧KK (.lst ((yN (Pol.pieces rows)).map xcr))
def kJ:Tr→Option Pol.R3
  | .tup [.int a,.int b,.int c]=>some (a,b,c)
  | _=>none
def wA (t:Tr):Bool:=match kJ t with | some r=>decide (r.1≠0∨r.2.1≠0) | none=>false
def mO:TSp:=fun ts KK=>∃ t,ts=[t]∧KK (.bl (wA t))
def cG:TSp:=fun ts KK=>∃ (a b c d:Int) (x y:List Tr),ts=[.tup (.int a::.int b::x),.tup (.int c::.int d::y)]∧((Bd a∧Bd b)∧Bd c∧Bd d)∧KK (.int (a*d-b*c))
def xbZ:Option Pol.R3→Tr
  | some r=>trR r
  | none=>.non
def fP:TSp:=fun ts KK=>∃ (r:Pol.R3) (rows:List Pol.R3) (s:Int),ts=[trR r,.tup (rows.map trR),.int s]∧(s=1∨s = -1)∧B3k 900 r∧(∀ x∈rows,B3k 900 x)∧KK (xbZ (Pol.far r s rows))
def xa_:TSp:=fun ts KK=>∃ (r:Pol.R3) (rows:List Pol.R3),ts=[trR r,.tup (rows.map trR)]∧B3k 900 r∧(∀ x∈rows,B3k 900 x)∧KK (.bl (Pol.back r rows))
def rA:TSp:=fun ts KK=>∃ rows:List Pol.R3,ts=[.tup (rows.map trR)]∧(∀ x∈rows,B3k 900 x)∧KK (.bl (Pol.wW rows))
instance (r:Pol.R3):Decidable (Pol.sd r):=by unfold Pol.sd; infer_instance
def yS (t:Tr):Bool:=match kJ t with | some r=>decide ((r.1≠0∨r.2.1≠0)∧Pol.sd r) | none=>false
def ju:TSp:=fun ts KK=>∃ t,ts=[t]∧KK (.bl (yS t))
def nearF (n d:Int):Bool:=decide (-(12*d)≤n∧n≤12*d)
def bH:TSp:=fun ts KK=>∃ fs:List (Int × Int),ts=[.tup (fs.map fun f=>frT f.1 f.2)]∧fs.length≤1000∧(∀ f∈fs,Bd f.2)∧KK (.bl (fs.all fun f=>nearF f.1 f.2))
def fc (v:Pol.R3):Bool:=nearF (dZ v.1 v.2.2) (fo v.1 v.2.2) && nearF (dZ v.2.1 v.2.2) (fo v.2.1 v.2.2)
def rowsOf:List Tr→Option (List Pol.R3)
  | []=>some []
  | t::ts=>match kJ t,rowsOf ts with | some r,some rs=>some (r::rs) | _,_=>none
def xG (rows:List Pol.R3):Bool:=decide (3≤rows.length∧rows.length≤8) && (rows.all fun r=>decide ((r.1≠0∨r.2.1≠0)∧Pol.sd r)) && Pol.wW rows && (Pol.pieces rows).all fc
def isField:Tr→Bool
  | .tup us=>match rowsOf us with | some rows=>xG rows | none=>false
  | _=>false
def rD:TSp:=fun ts KK=>∃ t,ts=[t]∧KK (.bl (isField t))
end L2
namespace L2
open PySem PySem.Spec PyProof.Rows
theorem gw {α:Type} (ts:List α) (s:Nat):qp ts (some (s:Int)) none=ts.drop s:=by
  unfold qp
  rw [HT.bK,HT.fe]
  by_cases h:s≤ts.length
  · rw [Nat.min_eq_left h,List.take_of_length_le (by rw [List.length_drop]; omega)]
  · rw [Nat.min_eq_right (by omega),List.drop_eq_nil_of_le (Nat.le_refl _),List.drop_eq_nil_of_le (by omega)]; simp
theorem mx {α:Type} (ts:List α) (s:Nat):qp ts none (some (s:Int))=ts.take s:=by
  unfold qp
  rw [HT.bK,HT.fe,List.drop_zero,Nat.sub_zero]
  by_cases h:s≤ts.length
  · rw [Nat.min_eq_left h]
  · rw [Nat.min_eq_right (by omega),List.take_of_length_le (Nat.le_refl _),List.take_of_length_le (by omega)]
theorem aP {α:Type} {f:α→Tr} {l:List α} {i:Nat} {x:Tr} (h:(vR (l.map f))[i]? = some x):∃ v,l[i]? = some v∧x=.tup [.int i,f v]:=by
  have hi:i < l.length:=by
    have:=(List.getElem?_eq_some_iff.mp h).1
    unfold vR at this
    rw [wj,List.length_map] at this
    exact this
  have e:(l.map f)[i]? = some (f l[i]):=by rw [List.getElem?_map,List.getElem?_eq_getElem hi]; rfl
  unfold vR at h
  rw [qx e] at h
  refine ⟨l[i],List.getElem?_eq_getElem hi,?_⟩
  have:=Option.some.inj h
  rw [← this]; simp
theorem aK {α:Type} (f:α→Tr) (l:List α):(vR (l.map f)).length=l.length:=by unfold vR; rw [wj,List.length_map]
theorem tE {l:List Pol.R3} {i:Nat} {v:Pol.R3} (h:l[i]? = some v):∃ u,u∈l∧(Pol.cyc l)[i]? = some (u,v)∧atT (l.map trR) ((i:Int)-1)=some (trR u):=by
  obtain ⟨u,hu,hc,hw⟩:=Pol.xa0 h
  refine ⟨u,hu,hc,?_⟩
  rcases hw with ⟨rfl,ys,e⟩ | ⟨h0,e⟩
  · rw [e,List.map_append]
    exact rP (ys.map trR) (trR u)
  · rw [show ((i:Int)-1)=((i-1:Nat):Int) by omega,qX,List.getElem?_map,e]; rfl
theorem tM {Ls l:List Pol.R3} (g:Pol.Good Ls l) {k:Nat} (hs:∀ s∈Ls,B3k k s):∀ v∈l,B3k (2*k+1) v:=fun v hv=>by
  obtain ⟨s,hs1,t,ht1,e1,e2,hn⟩:=g.two v hv
  have z:=g.bot v hv
  obtain ⟨b1,b2,b3⟩:=Pol.fu (g.prim v hv) z e1 e2 hn
  have S:=hs s hs1
  have T:=hs t ht1
  have m:∀ {x y z w:Int},Bk k x→Bk k y→Bk k z→Bk k w→Bk (2*k+1) (x*y-z*w):=fun h1 h2 h3 h4=>((h1.mul h2).sub (h3.mul h4)).mono (by omega)
  refine ⟨⟨(m S.2 T.1.2 T.2 S.1.2).le b2,(m T.2 S.1.1 S.2 T.1.1).le b3⟩,?_⟩
  have:=m S.1.1 T.1.2 S.1.2 T.1.1
  refine this.le ?_
  unfold Pol.turn at b1
  omega
theorem bz:∀ s∈Pol.nF,B3k 100 s:=fun s hs=>by
  have h:s∈Pol.nF:=hs
  simp only [Pol.nF,List.mem_cons,List.not_mem_nil,or_false] at h
  unfold B3k Bk
  rcases h with rfl | rfl | rfl | rfl <;> simp only [Pol.FAR] <;> decide
theorem vK.good {rows:List Pol.R3} (h:vK rows) (i:Nat):Pol.Good (Pol.nF++rows.take i) ((rows.take i).foldl Pol.yA Pol.box):=Pol.kX (rows:=rows.take i) fun s hs=>h.dir s (List.mem_of_mem_take hs)
theorem vK.small {rows:List Pol.R3} (h:vK rows) (i:Nat):∀ v∈(rows.take i).foldl Pol.yA Pol.box,B3k 800 v∧0 < v.2.2:=fun v hv=>by
  have g:=h.good i
  refine ⟨(tM g (k:=100) (fun s hs=>?_) v hv).mono (by decide),g.bot v hv⟩
  rcases List.mem_append.mp hs with z | z
  · exact bz s z
  · exact h.sm s (List.mem_of_mem_take z)
theorem vK.plen {rows:List Pol.R3} (h:vK rows) (i:Nat):((rows.take i).foldl Pol.yA Pol.box).length≤100000:=by
  have:=Pol.r6 (rows:=rows.take i) fun s hs=>h.dir s (List.mem_of_mem_take hs)
  unfold Pol.pieces at this
  have l:(rows.take i).length≤rows.length:=by rw [List.length_take]; omega
  have:=h.len
  omega
theorem qE {l:List Pol.R3} {v:Pol.R3} (h:v∈yN l):v∈l:=by
  unfold yN at h
  rcases List.mem_append.mp h with h | h
  · exact List.mem_of_mem_drop h
  · exact List.mem_of_mem_take h
theorem gu (p:Pol.R3→Bool) (l:List Pol.R3):(yN l).all p=l.all p:=by
  unfold yN
  rw [List.all_append,Bool.and_comm,← List.all_append,List.take_append_drop]
theorem qj (l:List Pol.R3):(yN l).length=l.length:=by
  unfold yN
  rw [List.length_append,List.length_drop,List.length_take]; omega
theorem xaK (a b c d:Int):HT.lexLt [a,b] [c,d]=decide (a < c∨a=c∧b < d):=by
  simp only [HT.lexLt]
  by_cases h:a < c
  · simp [h]; omega
  · by_cases h2:a=c
    · subst h2; simp; omega
    · simp [h,h2]
theorem bE {α:Type} {l:List α} {n:Nat} (e:l.length=n) (h:n≤1000000:=by decide):l.length < sizeLine:=sqz (by omega)
theorem oO {i z:Int} (hz:0 < z) (h:Bd z):Bd (fo i z):=by
  unfold fo
  have g:(0:Int) < (Int.gcd i z:Int):=by have:=Int.gcd_pos_of_ne_zero_right i (show z≠0 by omega); omega
  have h1:=Int.ediv_le_self (Int.gcd i z:Int) (show 0≤z by omega)
  have h2:=Int.ediv_nonneg (show 0≤z by omega) (show 0≤(Int.gcd i z:Int) by omega)
  unfold Bd at *
  omega
theorem ue {t:Tr} {r:Pol.R3} (h:kJ t=some r):t=trR r:=by
  unfold kJ at h
  split at h
  · cases h; rfl
  · cases h
theorem qV (rows:List Pol.R3):rowsOf (rows.map trR)=some rows:=by
  induction rows with
  | nil=>rfl
  | cons r rows ih =>
    show (match kJ (trR r),rowsOf (rows.map trR) with | some r,some rs=>some (r::rs) | _,_=>none)=_
    rw [ih]; rfl
theorem um:∀ {us:List Tr} {rows:List Pol.R3},rowsOf us=some rows→us=rows.map trR
  | [],rows,h=>by cases h; rfl
  | t::us,rows,h=>by
    unfold rowsOf at h
    cases e1:kJ t with
    | none=>rw [e1] at h; cases h
    | some r =>
      cases e2:rowsOf us with
      | none=>rw [e1,e2] at h; cases h
      | some rs =>
        rw [e1,e2] at h
        cases h
        rw [ue e1,um e2]; rfl
theorem sX {us:List Tr} (h:us.all yS=true):∃ rows:List Pol.R3,us=rows.map trR∧∀ r∈rows,(r.1≠0∨r.2.1≠0)∧Pol.sd r:=by
  induction us with
  | nil=>exact ⟨[],rfl,fun r hr=>by simp at hr⟩
  | cons t us ih =>
    rw [List.all_cons,Bool.and_eq_true] at h
    obtain ⟨rows,e,hr⟩:=ih h.2
    have ht:=h.1
    unfold yS at ht
    cases e1:kJ t with
    | none=>rw [e1] at ht; cases ht
    | some r =>
      rw [e1] at ht
      have ht:=of_decide_eq_true ht
      refine ⟨r::rows,by rw [ue e1,e]; rfl,fun x hx=>?_⟩
      rcases List.mem_cons.mp hx with z | z
      · rw [z]; exact ht
      · exact hr x z
theorem tD {r:Pol.R3} (h:Pol.sd r):B3k 100 r:=by
  obtain ⟨⟨⟨a,b⟩,c,d⟩,e,f⟩:=h
  refine ⟨⟨?_,?_⟩,?_⟩ <;> unfold Bk <;> omega
theorem jP (rows:List Pol.R3):(rows.map trR).all yS=rows.all fun r=>decide ((r.1≠0∨r.2.1≠0)∧Pol.sd r):=by
  rw [List.all_map]; rfl
theorem tK {us:List Tr} (h:us.all yS=false):isField (.tup us)=false:=by
  show (match rowsOf us with | some rows=>xG rows | none=>false)=false
  cases e:rowsOf us with
  | none=>rfl
  | some rows =>
    rw [um e,jP] at h
    show xG rows=false
    unfold xG
    rw [h]; simp
end L2
namespace Fra
def gd (a b:Int):Int:=(Int.gcd a b:Int)
def low (n d:Int):Int × Int:=(n / gd n d,d / gd n d)
theorem dR (a b:Int):0≤gd a b:=Int.natCast_nonneg _
theorem rm {a b:Int} (h:a≠0∨b≠0):0 < gd a b:=by
  unfold gd
  have:0 < Int.gcd a b:=by
    rcases h with h | h
    · exact Int.gcd_pos_of_ne_zero_left _ h
    · exact Int.gcd_pos_of_ne_zero_right _ h
  omega
theorem jb (a b:Int):gd a b ∣ a:=Int.gcd_dvd_left ..
theorem qF (a b:Int):gd a b ∣ b:=Int.gcd_dvd_right ..
theorem oW (a:Int):gd a 0=if a < 0 then -a else a:=by
  unfold gd
  rw [Int.gcd_zero_right]
  split <;> omega
theorem cz {a b c d:Int} (h:∀ k:Int,(k ∣ a∧k ∣ b)↔(k ∣ c∧k ∣ d)):gd a b=gd c d:=by
  have e1:gd a b ∣ gd c d:=Int.dvd_coe_gcd ((h _).mp ⟨jb a b,qF a b⟩).1 ((h _).mp ⟨jb a b,qF a b⟩).2
  have e2:gd c d ∣ gd a b:=Int.dvd_coe_gcd ((h _).mpr ⟨jb c d,qF c d⟩).1 ((h _).mpr ⟨jb c d,qF c d⟩).2
  exact Int.dvd_antisymm (dR _ _) (dR _ _) e1 e2
theorem lU (a b q:Int):gd b (a-b*q)=gd a b:=by
  refine cz fun k=>⟨fun ⟨h1,h2⟩=>⟨?_,h1⟩,fun ⟨h1,h2⟩=>⟨h2,?_⟩⟩
  · have:=Int.dvd_add h2 (Int.dvd_mul_of_dvd_left (c:=q) h1)
    rwa [Int.sub_add_cancel] at this
  · exact Int.dvd_sub h1 (Int.dvd_mul_of_dvd_left h2)
theorem oV (a b:Int):gd b (a.fmod b)=gd a b:=by
  rw [Int.fmod_def]; exact lU a b _
theorem tR {a b:Int} (h:b≠0):(a.fmod b).natAbs < b.natAbs:=by
  by_cases hb:0 < b
  · have h1:=Int.fmod_nonneg_of_pos a hb
    have h2:=Int.fmod_lt_of_pos a hb
    omega
  · have hn:0 < -b:=by omega
    have e:a.fmod b = - ((-a).fmod (-b)):=by rw [Int.neg_fmod_neg]; omega
    have h1:=Int.fmod_nonneg_of_pos (-a) hn
    have h2:=Int.fmod_lt_of_pos (-a) hn
    omega
theorem nj (n d:Int):(low n d).1*gd n d=n:=Int.ediv_mul_cancel (jb n d)
theorem sV (n d:Int):(low n d).2*gd n d=d:=Int.ediv_mul_cancel (qF n d)
theorem jL (n d:Int):(low n d).1*d=n*(low n d).2:=by
  have h1:=nj n d
  have h2:=sV n d
  grind
theorem vP {n d:Int} (h:0 < d):0 < (low n d).2:=by
  have h2:=sV n d
  have g:=rm (a:=n) (b:=d) (.inr (by omega))
  generalize gd n d=k at *
  generalize (low n d).2=m at *
  by_cases hm:0 < m
  · exact hm
  · have:m*k≤0:=Int.mul_nonpos_of_nonpos_of_nonneg (by omega) (by omega)
    omega
theorem n5 {n d:Int} (h:0 < d):Int.gcd (low n d).1 (low n d).2=1:=by
  have g:=rm (a:=n) (b:=d) (.inr (by omega))
  unfold low gd at *
  exact Int.gcd_ediv_gcd_ediv_gcd (by omega)
theorem mz {b a d:Int} (h:b ∣ a*d) (g:Int.gcd b a=1):b ∣ d:=by
  have h':b.natAbs ∣ a.natAbs*d.natAbs:=by rw [← Int.natAbs_mul]; exact Int.natAbs_dvd_natAbs.mpr h
  exact Int.natAbs_dvd_natAbs.mp (Nat.Coprime.dvd_of_dvd_mul_left (show Nat.Coprime b.natAbs a.natAbs from g) h')
theorem tf {a b c d:Int} (h1:Int.gcd a b=1) (h2:Int.gcd c d=1) (hb:0 < b) (hd:0 < d) (e:a*d=c*b):a=c∧b=d:=by
  have k1:b ∣ d:=by
    have:b ∣ a*d:=⟨c,by rw [e,Int.mul_comm]⟩
    exact mz this (by rw [Int.gcd_comm]; exact h1)
  have k2:d ∣ b:=by
    have:d ∣ c*b:=⟨a,by rw [← e,Int.mul_comm]⟩
    exact mz this (by rw [Int.gcd_comm]; exact h2)
  have ebd:b=d:=Int.dvd_antisymm (by omega) (by omega) k1 k2
  subst ebd
  exact ⟨Int.eq_of_mul_eq_mul_right (by omega) e,rfl⟩
end Fra
namespace L2
open PySem PySem.Spec PyProof.Rows
abbrev F2:=Int × Int
abbrev P2:=F2 × F2
def fT (f:F2):Tr:=frT f.1 f.2
def lfr (t b:Int):F2:=if b < 0 then Fra.low (-t) (-b) else Fra.low t b
theorem q_ {t b:Int} (h:0 < b):lfr t b=Fra.low t b:=by unfold lfr; rw [if_neg (by omega)]
theorem lj {t b:Int} (h:b < 0):lfr t b=Fra.low (-t) (-b):=by unfold lfr; rw [if_pos h]
def plc (v:Pol.R3):P2:=(Fra.low v.1 v.2.2,Fra.low v.2.1 v.2.2)
def cF (f g:F2):F2:=lfr (f.1*g.1) (f.2*g.2)
def rX (f g:F2):F2:=lfr (f.1*g.2+g.1*f.2) (f.2*g.2)
structure Fk (k:Nat) (f:F2):Prop where
  top:Bk k f.1
  bot:Bk k f.2
  pos:0 < f.2
theorem Fk.mono {k m:Nat} {f:F2} (h:Fk k f) (hk:k≤m):Fk m f:=⟨h.top.mono hk,h.bot.mono hk,h.pos⟩
theorem pX {k:Nat} {t b:Int} (h:0 < b) (ht:Bk k t) (hb:Bk k b):Fk k (Fra.low t b):=by
  have g:=Fra.rm (a:=t) (b:=b) (.inr (by omega))
  refine ⟨ht.le ?_,hb.le ?_,Fra.vP h⟩
  · have e:=Fra.nj t b
    generalize (Fra.low t b).1=x at *
    generalize Fra.gd t b=y at *
    rw [← e,Int.natAbs_mul]
    exact Nat.le_mul_of_pos_right _ (by omega)
  · have e:=Fra.sV t b
    generalize (Fra.low t b).2=x at *
    generalize Fra.gd t b=y at *
    have:b.natAbs=x.natAbs*y.natAbs:=by rw [← Int.natAbs_mul,e]
    rw [this]
    exact Nat.le_mul_of_pos_right _ (by omega)
theorem nX {k:Nat} {t b:Int} (h:b≠0) (ht:Bk k t) (hb:Bk k b):Fk k (lfr t b):=by
  unfold lfr
  split
  · exact pX (by omega) ht.neg hb.neg
  · exact pX (by omega) ht hb
structure Sd (f:F2) (N D:Int):Prop where
  pf:0 < f.2
  pd:0 < D
  e:f.1*D=N*f.2
theorem p9 {t b:Int} (h:0 < b):Sd (Fra.low t b) t b:=⟨Fra.vP h,h,Fra.jL t b⟩
theorem lz {f:F2} (h:0 < f.2):Sd f f.1 f.2:=⟨h,h,rfl⟩
theorem Sd.lfr {f:F2} {t b N D:Int} (hb:0 < b) (hD:0 < D) (e:t*D=N*b) (hf:f=L2.lfr t b):Sd f N D:=by
  subst hf
  rw [q_ hb]
  refine ⟨Fra.vP hb,hD,?_⟩
  have h:=Fra.jL t b
  generalize (Fra.low t b).1=x at *
  generalize (Fra.low t b).2=y at *
  have:(x*D)*b=(N*y)*b:=by grind
  exact Int.eq_of_mul_eq_mul_right (by omega) this
theorem vD {a b k:Int} (hk:0 < k):a*k≤b*k↔a≤b:=⟨fun h=>Int.le_of_mul_le_mul_right h hk,fun h=>Int.mul_le_mul_of_nonneg_right h (by omega)⟩
theorem tI {a b k:Int} (hk:0 < k):a*k < b*k↔a < b:=⟨fun h=>Int.lt_of_mul_lt_mul_right h (by omega),fun h=>Int.mul_lt_mul_of_pos_right h hk⟩
theorem kA {a k:Int} (hk:0 < k):a*k < 0↔a < 0:=by
  have:=tI (a:=a) (b:=0) hk
  rwa [Int.zero_mul] at this
theorem Sd.le {f:F2} {N D:Int} (h:Sd f N D) (c:Int):f.1≤c*f.2↔N≤c*D:=by
  have e:=h.e
  rw [← vD h.pd,e,show c*f.2*D=(c*D)*f.2 by grind,vD h.pf]
theorem Sd.neg {f:F2} {N D:Int} (h:Sd f N D):f.1 < 0↔N < 0:=by
  have e:=h.e
  rw [← kA h.pd,e,kA h.pf]
section
variable {p q v w:Pol.R3}
end
theorem p7 (f:F2):pln (fT f)=true:=rfl
end L2
namespace L2
open PySem PySem.Spec PyProof.Rows
theorem fR {α:Type} {dg:DG} {dc:DT} {de:DE} {τi:TSt} {KK:List Tr→Prop} {f:α→Tr} {l:List α} (p:α→Bool) (g:α→Tr)
    (h1:∀ a∈l,∀ (N:Tr→Prop) (M:Prop),(p a=true→N (g a))→(p a=false→M)→dg (f a) τi fun τ2=>dc τ2 fun b=>if b=true then de τ2 N else M) (h0:KK ((l.filter p).map g)):tV dg dc de τi KK (l.map f) []:=by
  refine uH (fun ys acc=>∃ zs us,l=zs++us∧ys=us.map f∧acc=(zs.filter p).map g) (fun acc ⟨zs,us,e,ey,e2⟩=>?_) (fun x ys acc N ⟨zs,us,e,ey,e2⟩ hN=>?_) _ [] ⟨[],l,rfl,rfl,rfl⟩
  · cases us with
    | nil=>rw [List.append_nil] at e; subst e e2; exact h0
    | cons u us=>cases ey
  · cases us with
    | nil=>cases ey
    | cons u us =>
      injection ey with ex ey
      subst ex ey e2
      have hu:u∈l:=by rw [e]; simp
      refine h1 u hu (fun y=>N ((zs.filter p).map g++[y])) (N ((zs.filter p).map g)) (fun hp=>hN _ ⟨zs++[u],us,by rw [e]; simp,rfl,?_⟩) (fun hp=>hN _ ⟨zs++[u],us,by rw [e]; simp,rfl,?_⟩)
      · rw [List.filter_append,List.filter_cons_of_pos hp]; simp
      · rw [List.filter_append,List.filter_cons_of_neg (by rw [hp]; exact Bool.false_ne_true)]; simp
theorem mB {α:Type} {dg:DG} {de:DE} {τi:TSt} {KK:List Tr→Prop} {f:α→Tr} {l:List α} (g:α→Tr) (h1:∀ a∈l,∀ N:Tr→Prop,N (g a)→dg (f a) τi fun τ2=>de τ2 N) (h0:KK (l.map g)):tV dg me de τi KK (l.map f) []:=by
  refine uH (fun ys acc=>∃ zs us,l=zs++us∧ys=us.map f∧acc=zs.map g) (fun acc ⟨zs,us,e,ey,e2⟩=>?_) (fun x ys acc N ⟨zs,us,e,ey,e2⟩ hN=>?_) _ [] ⟨[],l,rfl,rfl,rfl⟩
  · cases us with
    | nil=>rw [List.append_nil] at e; subst e e2; exact h0
    | cons u us=>cases ey
  · cases us with
    | nil=>cases ey
    | cons u us =>
      injection ey with ex ey
      subst ex ey e2
      exact h1 u (by rw [e]; simp) (fun y=>N (zs.map g++[y])) (hN _ ⟨zs++[u],us,by rw [e]; simp,rfl,by simp⟩)
theorem lJ (xs:List Tr):teq (.lst xs) (.lst [])=xs.isEmpty:=by cases xs <;> rfl
theorem cB {xs:List Tr} (h:PyData.canLayAll0 (wD xs)=true):xaf (.lst xs) (.lst []):=⟨h,rfl,Nat.le_trans (Nat.min_le_right _ _) (by decide)⟩
theorem n9 {neg:Bool} {xs:List Tr} {KK:Tr→Prop} (h:PyData.canLayAll0 (wD xs)=true) (k:KK (.bl (if neg then !xs.isEmpty else xs.isEmpty))):xai neg (.lst xs) (.lst []) KK:=⟨cB h,by rw [lJ]; exact k⟩
theorem filter_empty {α:Type} (p:α→Bool) (l:List α):(l.filter p).isEmpty=l.all fun x=>!p x:=by
  induction l with
  | nil=>rfl
  | cons x l ih =>
    by_cases h:p x=true
    · rw [List.filter_cons_of_pos h,List.all_cons,h]; rfl
    · rw [List.filter_cons_of_neg h,ih,List.all_cons]
      have:p x=false:=by simpa using h
      rw [this]; rfl
def cM:TSp:=fun ts KK=>∃ t b:Int,ts=[.int t,.int b]∧b≠0∧Bd b∧KK (fT (lfr t b))
def p_:TSp:=fun ts KK=>∃ f g:F2,ts=[fT f,fT g]∧Fk 900 f∧Fk 900 g∧KK (fT (rX f g))
def mW:TSp:=fun ts KK=>∃ f g:F2,ts=[fT f,fT g]∧Fk 900 f∧Fk 900 g∧KK (fT (cF f g))
structure xcs (rows:List Pol.R3):Prop where
  fine:Pol.xcu rows rows
  len:rows.length≤8
theorem p8 {t b:Int} (h:b≠0):0 < (lfr t b).2:=by
  unfold lfr
  split
  · exact Fra.vP (by omega)
  · exact Fra.vP (by omega)
theorem fw {r:Pol.R3} (h:Pol.sd r):B3k 10 r:=by
  obtain ⟨⟨⟨a,b⟩,c,d⟩,e,f⟩:=h
  refine ⟨⟨?_,?_⟩,?_⟩ <;> unfold Bk <;> omega
end L2
namespace L2
open PySem PySem.Spec PyProof.Rows
end L2
namespace L2
open PySem PySem.Spec PyProof.Rows
theorem xZ {A B:DS} {G:k_} {τ:TSt} (P:TSt→Prop) (hB:∀ τ',P τ'→B G τ') (hA:∀ N:TSt→Prop,(∀ τ',P τ'→N τ')→A { G with nx:=N } τ):xag A B G τ:=hA (B G) hB
theorem vB {di:DI} {dg:DG} {body:DS} {G:k_} {τ:TSt} (all:List Tr) (W:Nat→TSt→Prop) (hd:∀ KK:List Tr→Prop,KK all→di τ KK) (w0:W 0 τ)
    (h1:∀ i x τ (N:TSt→Prop),all[i]? = some x→W i τ→(∀ τ',W (i+1) τ'→N τ')→dg x τ fun τ'=>body { G with nx:=N,ct:=N,bk:=G.nx } τ')
    (h0:∀ τ,W all.length τ→G.nx τ):xb9 di dg body G τ:=hd _ (wG W w0 h1 h0)
abbrev TV9:=TV × TV × TV × TV × TV × TV × TV × TV × TV
theorem rM {α β:Type} (f:α→β) (l:List α) (x:α):(l++[x]).map f=l.map f++[f x]:=by rw [List.map_append]; rfl
theorem wL {i:Int} (h:-1000000≤i∧i≤1000000):Bd i:=lW (by omega) (by omega)
theorem y3 {i j:Int} (h:-1000000≤i∧i≤1000000) (h':-1000000≤j∧j≤1000000):CM i j:=⟨wL h,wL h'⟩
theorem tk {m:Int} (h:0 < m∧m < 1000000):0 < m∧m < 2 ^ 128:=⟨h.1,by omega⟩
structure LF0 (rows:List Pol.R3):Prop where
  l3:3≤rows.length
  l8:rows.length≤8
  sm:∀ r∈rows,((-14≤r.1∧r.1≤14)∧(-14≤r.2.1∧r.2.1≤14))∧(-100≤r.2.2∧r.2.2≤100)
  dir:∀ r∈rows,r.1≠0∨r.2.1≠0
  gr:Pol.GR rows
  near:∀ p:Pol.R3,0 < p.2.2→(∀ r∈rows,Pol.val r p≤0)→(-(9*p.2.2)≤p.1∧p.1≤9*p.2.2)∧(-(9*p.2.2)≤p.2.1∧p.2.1≤9*p.2.2)
structure LF (rows:List Pol.R3):Prop where
  l3:3≤rows.length
  l8:rows.length≤8
  sm:∀ r∈rows,((-14≤r.1∧r.1≤14)∧(-14≤r.2.1∧r.2.1≤14))∧(-200≤r.2.2∧r.2.2≤200)
  dir:∀ r∈rows,r.1≠0∨r.2.1≠0
  gr:Pol.GR rows
  near:∀ p:Pol.R3,0 < p.2.2→(∀ r∈rows,Pol.val r p≤0)→(-(12*p.2.2)≤p.1∧p.1≤12*p.2.2)∧(-(12*p.2.2)≤p.2.1∧p.2.1≤12*p.2.2)
def m5:TSp:=fun ts KK=>ts=[]∧∀ rows,LF rows→KK (.tup (rows.map trR))
def gY (u v:Int) (r:Pol.R3):Pol.R3:=(r.1,r.2.1,r.2.2+r.1*u+r.2.1*v)
theorem ay {a b m n:Int} (h1:-m≤a) (h2:a≤m) (h3:-n≤b) (h4:b≤n) (hm:0≤m) (hn:0≤n):-(m*n)≤a*b∧a*b≤m*n:=by
  have key:(a*b).natAbs≤(m*n).natAbs:=by
    rw [Int.natAbs_mul,Int.natAbs_mul]
    exact Nat.mul_le_mul (by omega) (by omega)
  have:=Pol.pz hm hn
  omega
theorem LF0.moved {rows:List Pol.R3} (h:LF0 rows) {u v:Int} (hu:-3≤u∧u≤3) (hv:-3≤v∧v≤3):LF (rows.map (gY u v)) where
  l3:=by rw [List.length_map]; exact h.l3
  l8:=by rw [List.length_map]; exact h.l8
  sm:=fun r hr=>by
    obtain ⟨s,hs,rfl⟩:=List.mem_map.mp hr
    obtain ⟨⟨⟨a1,a2⟩,b1,b2⟩,c1,c2⟩:=h.sm s hs
    have x:=ay a1 a2 hu.1 hu.2 (by decide) (by decide)
    have y:=ay b1 b2 hv.1 hv.2 (by decide) (by decide)
    simp only [gY]
    omega
  dir:=fun r hr=>by
    obtain ⟨s,hs,rfl⟩:=List.mem_map.mp hr
    exact h.dir s hs
  gr:=fun x y hn=>by
    obtain ⟨r,hr,p⟩:=h.gr x y hn
    exact ⟨gY u v r,List.mem_map_of_mem hr,p⟩
  near:=fun p hz hk=>by
    have:=h.near (p.1-u*p.2.2,p.2.1-v*p.2.2,p.2.2) hz fun r hr=>by
      have:=hk _ (List.mem_map_of_mem hr)
      have e:Pol.val r (p.1-u*p.2.2,p.2.1-v*p.2.2,p.2.2)=Pol.val (gY u v r) p:=by simp only [Pol.val,gY]; grind
      rw [e]; exact this
    simp only at this
    have x:=Int.mul_le_mul_of_nonneg_right hu.1 (show 0≤p.2.2 by omega)
    have x':=Int.mul_le_mul_of_nonneg_right hu.2 (show 0≤p.2.2 by omega)
    have y:=Int.mul_le_mul_of_nonneg_right hv.1 (show 0≤p.2.2 by omega)
    have y':=Int.mul_le_mul_of_nonneg_right hv.2 (show 0≤p.2.2 by omega)
    omega
theorem LF.rot {rows:List Pol.R3} (h:LF rows) (n:Nat):LF (rows.drop n++rows.take n):=by
  have mem:∀ r,r∈rows.drop n++rows.take n↔r∈rows:=fun r=>by rw [List.mem_append,Or.comm,← List.mem_append,List.take_append_drop]
  have len:(rows.drop n++rows.take n).length=rows.length:=by rw [List.length_append,List.length_drop,List.length_take]; omega
  exact ⟨by rw [len]; exact h.l3,by rw [len]; exact h.l8,fun r hr=>h.sm r ((mem r).mp hr),fun r hr=>h.dir r ((mem r).mp hr),
    fun u v hn=>let ⟨r,hr,p⟩:=h.gr u v hn; ⟨r,(mem r).mpr hr,p⟩,fun p hz hk=>h.near p hz fun r hr=>hk r ((mem r).mpr hr)⟩
theorem LF.frow {rows:List Pol.R3} (h:LF rows):∀ r∈rows,Pol.sd r:=fun r hr=>by have:=h.sm r hr; unfold Pol.sd; omega
theorem LF.fine {rows:List Pol.R3} (h:LF rows):xcs rows:=⟨⟨fun {p} hz hp s hs=>by
  have:=h.near p hz hp
  simp only [Pol.nF,List.mem_cons,List.not_mem_nil,or_false] at hs
  rcases hs with rfl | rfl | rfl | rfl <;> simp only [Pol.val,Pol.FAR] <;> omega,h.frow,fun _ h=>h,h.dir⟩,h.l8⟩
theorem dP {n d:Int} (hd:0 < d):nearF (dZ n d) (fo n d)=true↔-(12*d)≤n∧n≤12*d:=by
  have s:=p9 (t:=n) (b:=d) hd
  unfold nearF
  rw [decide_eq_true_iff]
  have h1:=s.le 12
  have h2:-(12*fo n d)≤dZ n d↔-(12*d)≤n:=by
    have e:=s.e
    have p:=s.pf
    show -(12*(Fra.low n d).2)≤(Fra.low n d).1↔_
    rw [← vD hd,e,show -(12*(Fra.low n d).2)*d=(-(12*d))*(Fra.low n d).2 by grind,vD p]
  have h3:dZ n d≤12*fo n d↔n≤12*d:=h1
  rw [h2,h3]
theorem mh {v:Pol.R3} (hz:0 < v.2.2):fc v=true↔(-(12*v.2.2)≤v.1∧v.1≤12*v.2.2)∧(-(12*v.2.2)≤v.2.1∧v.2.1≤12*v.2.2):=by
  unfold fc
  rw [Bool.and_eq_true,dP hz,dP hz]
theorem LF.field {rows:List Pol.R3} (h:LF rows):isField (.tup (rows.map trR))=true:=by
  show (match rowsOf (rows.map trR) with | some rows=>xG rows | none=>false)=true
  rw [qV]
  show xG rows=true
  unfold xG
  rw [decide_eq_true ⟨h.l3,h.l8⟩,Pol.cH h.dir (Pol.xbT h.gr) (Pol.xcd h.dir h.gr)]
  have e1:(rows.all fun r=>decide ((r.1≠0∨r.2.1≠0)∧Pol.sd r))=true:=by
    rw [List.all_eq_true]; intro r hr; exact decide_eq_true ⟨h.dir r hr,h.frow r hr⟩
  have e2:(Pol.pieces rows).all fc=true:=by
    rw [List.all_eq_true]
    intro v hv
    obtain ⟨hz,_,hc⟩:=h.fine.fine.corner hv
    exact (mh hz).mpr (h.near v hz hc.kept)
  rw [e1,e2]; rfl
structure xcv (b1 c1 b2 c2 b3 c3 b4 c4:Int):Prop where
  h1:(1≤b1∧b1≤3)∧0≤c1∧c1≤5*b1
  h2:(1≤b2∧b2≤3)∧0≤c2∧c2≤5*b2
  h3:(1≤b3∧b3≤3)∧0≤c3∧c3≤5*b3
  h4:(1≤b4∧b4≤3)∧0≤c4∧c4≤5*b4
theorem xbJ {b c x z:Int} (hb:1≤b) (hc:c≤5*b) (hz:0 < z) (h:b*x≤c*z):x≤5*z:=by
  have h1:c*z≤5*b*z:=Int.mul_le_mul_of_nonneg_right hc (by omega)
  have h2:b*x≤b*(5*z):=by
    have:b*(5*z)=5*b*z:=by grind
    omega
  exact Int.le_of_mul_le_mul_left h2 (by omega)
def Extra (r:Pol.R3):Prop:=(((-6≤r.1∧r.1≤6)∧(-6≤r.2.1∧r.2.1≤6))∧(-40≤r.2.2∧r.2.2≤40))∧(r.1≠0∨r.2.1≠0)
theorem xcv.lf {b1 c1 b2 c2 b3 c3 b4 c4:Int} (B:xcv b1 c1 b2 c2 b3 c3 b4 c4) {ex:List Pol.R3} (hx:∀ r∈ex,Extra r) (hl:ex.length≤4):LF0 ([(-b1,0,c1),(b2,0,c2),(0,-b3,c3),(0,b4,c4)]++ex):=by
  obtain ⟨h1,h2,h3,h4⟩:=B
  have four:∀ r∈([(-b1,0,c1),(b2,0,c2),(0,-b3,c3),(0,b4,c4)]++ex:List Pol.R3),r=(-b1,0,c1)∨r=(b2,0,c2)∨r=(0,-b3,c3)∨r=(0,b4,c4)∨Extra r:=fun r hr=>by
    rcases List.mem_append.mp hr with h | h
    · simp only [List.mem_cons,List.not_mem_nil,or_false] at h
      rcases h with h | h | h | h
      · exact .inl h
      · exact .inr (.inl h)
      · exact .inr (.inr (.inl h))
      · exact .inr (.inr (.inr (.inl h)))
    · exact .inr (.inr (.inr (.inr (hx r h))))
  have m1:(-b1,0,c1)∈([(-b1,0,c1),(b2,0,c2),(0,-b3,c3),(0,b4,c4)]++ex:List Pol.R3):=List.mem_append_left _ List.mem_cons_self
  have m2:(b2,0,c2)∈([(-b1,0,c1),(b2,0,c2),(0,-b3,c3),(0,b4,c4)]++ex:List Pol.R3):=List.mem_append_left _ (List.mem_cons_of_mem _ List.mem_cons_self)
  have m3:(0,-b3,c3)∈([(-b1,0,c1),(b2,0,c2),(0,-b3,c3),(0,b4,c4)]++ex:List Pol.R3):=List.mem_append_left _ (List.mem_cons_of_mem _ (List.mem_cons_of_mem _ List.mem_cons_self))
  have m4:(0,b4,c4)∈([(-b1,0,c1),(b2,0,c2),(0,-b3,c3),(0,b4,c4)]++ex:List Pol.R3):=List.mem_append_left _ (List.mem_cons_of_mem _ (List.mem_cons_of_mem _ (List.mem_cons_of_mem _ List.mem_cons_self)))
  refine ⟨by simp,by simp; omega,fun r hr=>?_,fun r hr=>?_,fun u v hn=>?_,fun p hz hk=>?_⟩
  · rcases four r hr with h | h | h | h | h
    · subst h; simp only; omega
    · subst h; simp only; omega
    · subst h; simp only; omega
    · subst h; simp only; omega
    · unfold Extra at h; omega
  · rcases four r hr with h | h | h | h | h
    · subst h; exact .inl (by simp only; omega)
    · subst h; exact .inl (by simp only; omega)
    · subst h; exact .inr (by simp only; omega)
    · subst h; exact .inr (by simp only; omega)
    · exact h.2
  · rcases Int.lt_trichotomy u 0 with c | c | c
    · refine ⟨_,m1,?_⟩
      simp only
      have:=Int.mul_pos (show 0 < b1 by omega) (show 0 < -u by omega)
      grind
    · rcases Int.lt_trichotomy v 0 with d | d | d
      · refine ⟨_,m3,?_⟩
        simp only
        have:=Int.mul_pos (show 0 < b3 by omega) (show 0 < -v by omega)
        grind
      · omega
      · refine ⟨_,m4,?_⟩
        simp only
        have:=Int.mul_pos (show 0 < b4 by omega) d
        grind
    · refine ⟨_,m2,?_⟩
      simp only
      have:=Int.mul_pos (show 0 < b2 by omega) c
      grind
  · have k1:=hk _ m1
    have k2:=hk _ m2
    have k3:=hk _ m3
    have k4:=hk _ m4
    simp only [Pol.val] at k1 k2 k3 k4
    have e1:=xbJ (x:=-p.1) h1.1.1 h1.2.2 hz (by grind)
    have e2:=xbJ (x:=p.1) h2.1.1 h2.2.2 hz (by grind)
    have e3:=xbJ (x:=-p.2.1) h3.1.1 h3.2.2 hz (by grind)
    have e4:=xbJ (x:=p.2.1) h4.1.1 h4.2.2 hz (by grind)
    omega
def uQ (rows:List Pol.R3):Prop:=∃ b1 c1 b2 c2 b3 c3 b4 c4,rows=[(-b1,0,c1),(b2,0,c2),(0,-b3,c3),(0,b4,c4)]∧xcv b1 c1 b2 c2 b3 c3 b4 c4
theorem uQ.last {rows ex:List Pol.R3} (h:uQ rows) (hx:∀ r∈ex,Extra r):∃ ini l,rows++ex=ini++[l]∧Extra (0-l.1,0-l.2.1,0-l.2.2):=by
  obtain ⟨b1,c1,b2,c2,b3,c3,b4,c4,rfl,B⟩:=h
  rcases List.eq_nil_or_concat ex with rfl | ⟨ini,l,rfl⟩
  · refine ⟨[(-b1,0,c1),(b2,0,c2),(0,-b3,c3)],(0,b4,c4),by simp,?_⟩
    have:=B.h4
    unfold Extra
    simp only
    omega
  · rw [List.concat_eq_append] at hx ⊢
    refine ⟨_++ini,l,by rw [List.append_assoc],?_⟩
    have:=hx l (by simp)
    unfold Extra at *
    simp only
    omega
theorem uQ.len {rows:List Pol.R3} (h:uQ rows):rows.length=4:=by
  obtain ⟨b1,c1,b2,c2,b3,c3,b4,c4,rfl,B⟩:=h
  rfl
theorem uQ.lf {rows ex:List Pol.R3} (h:uQ rows) (hx:∀ r∈ex,Extra r) (hl:ex.length≤4):LF0 (rows++ex):=by
  obtain ⟨b1,c1,b2,c2,b3,c3,b4,c4,rfl,B⟩:=h
  exact B.lf hx hl
def bC:List (Int × Int):=[(-1,0),(1,0),(0,-1),(0,1)]
def dT (d:Int × Int):Tr:=.tup [.int d.1,.int d.2]
def rR (i:Nat) (rows:List Pol.R3):Prop:=rows.length=i∧∀ (j:Nat) (r:Pol.R3) (d:Int × Int),rows[j]? = some r→bC[j]? = some d→∃ b c:Int,((1≤b∧b≤3)∧0≤c∧c≤5*b)∧r=(d.1*b,d.2*b,c)
theorem rR.step {i:Nat} {rows:List Pol.R3} (h:rR i rows) {d:Int × Int} (hd:bC[i]? = some d) {b c:Int} (hb:(1≤b∧b≤3)∧0≤c∧c≤5*b):rR (i+1) (rows++[(d.1*b,d.2*b,c)]):=by
  refine ⟨by rw [List.length_append,h.1]; rfl,fun j r d' hr hd'=>?_⟩
  by_cases hj:j < i
  · rw [List.getElem?_append_left (by rw [h.1]; exact hj)] at hr
    exact h.2 j r d' hr hd'
  · have hl:=(List.getElem?_eq_some_iff.mp hr).1
    rw [List.length_append,h.1,List.length_singleton] at hl
    have:j=i:=by omega
    subst this
    rw [List.getElem?_append_right (by rw [h.1]; exact Nat.le_refl _),h.1,Nat.sub_self] at hr
    rw [hd] at hd'
    cases hr; cases hd'
    exact ⟨b,c,hb,rfl⟩
theorem rR.box {rows:List Pol.R3} (h:rR 4 rows):uQ rows:=by
  obtain ⟨hl,h⟩:=h
  rcases rows with _ | ⟨r1,_ | ⟨r2,_ | ⟨r3,_ | ⟨r4,_ | ⟨r5,rs⟩⟩⟩⟩⟩
  · cases hl
  · cases hl
  · cases hl
  · cases hl
  · obtain ⟨b1,c1,g1,e1⟩:=h 0 r1 (-1,0) rfl rfl
    obtain ⟨b2,c2,g2,e2⟩:=h 1 r2 (1,0) rfl rfl
    obtain ⟨b3,c3,g3,e3⟩:=h 2 r3 (0,-1) rfl rfl
    obtain ⟨b4,c4,g4,e4⟩:=h 3 r4 (0,1) rfl rfl
    subst e1 e2 e3 e4
    refine ⟨b1,c1,b2,c2,b3,c3,b4,c4,?_,g1,g2,g3,g4⟩
    simp only [List.cons.injEq,Prod.mk.injEq,and_true]
    omega
  · cases hl
theorem af {i:Nat} {d:Int × Int} (h:bC[i]? = some d):(-1≤d.1∧d.1≤1)∧(-1≤d.2∧d.2≤1):=by
  have:=List.mem_of_getElem? h
  simp only [bC,List.mem_cons,List.not_mem_nil,or_false] at this
  rcases this with rfl | rfl | rfl | rfl <;> decide
def Drawn (d:Int × Int) (y:Tr):Prop:=∃ c:Int,(0≤c∧c < 8)∧y=.tup [.int d.1,.int d.2,.int c]
theorem pS {d1 d2 d3:Int × Int} {ys:List Tr} (h:Paired Drawn [d1,d2,d3] ys):∃ c1 c2 c3:Int,((0≤c1∧c1≤7)∧(0≤c2∧c2≤7)∧(0≤c3∧c3≤7))∧ys=[(d1.1,d1.2,c1),(d2.1,d2.2,c2),(d3.1,d3.2,c3)].map trR:=by
  cases h with
  | cons h1 h =>
    cases h with
    | cons h2 h =>
      cases h with
      | cons h3 h =>
        cases h
        obtain ⟨c1,g1,rfl⟩:=h1
        obtain ⟨c2,g2,rfl⟩:=h2
        obtain ⟨c3,g3,rfl⟩:=h3
        exact ⟨c1,c2,c3,by omega,rfl⟩
theorem du {α:Type} {dg:DG} {de:DE} {τi:TSt} {KK:List Tr→Prop} {f:α→Tr} {l:List α} (R:α→Tr→Prop) (h1:∀ a∈l,∀ N:Tr→Prop,(∀ y,R a y→N y)→dg (f a) τi fun τ2=>de τ2 N)
    (h0:∀ ys,Paired R l ys→KK ys):tV dg me de τi KK (l.map f) []:=by
  refine uH (fun ys acc=>∃ zs us,l=zs++us∧ys=us.map f∧Paired R zs acc) (fun acc ⟨zs,us,e,ey,e2⟩=>?_) (fun x ys acc N ⟨zs,us,e,ey,e2⟩ hN=>?_) _ [] ⟨[],l,rfl,rfl,.nil⟩
  · cases us with
    | nil=>rw [List.append_nil] at e; subst e; exact h0 acc e2
    | cons u us=>cases ey
  · cases us with
    | nil=>cases ey
    | cons u us =>
      injection ey with ex ey
      subst ex ey
      exact h1 u (by rw [e]; simp) (fun y=>N (acc++[y])) fun y hy=>hN _ ⟨zs++[u],us,by rw [e]; simp,rfl,jB e2 hy⟩
theorem pk {k:Int} (h1:1≤k) (h7:k≤7):LF0 [(-1,0,0),(1,-2*k,0),(1,2*k,2*k)]:=by
  refine ⟨by simp,by simp,fun r hr=>?_,fun r hr=>?_,fun u v hn=>?_,fun p hz hk=>?_⟩
  · simp only [List.mem_cons,List.not_mem_nil,or_false] at hr
    rcases hr with rfl | rfl | rfl <;> simp only <;> omega
  · simp only [List.mem_cons,List.not_mem_nil,or_false] at hr
    rcases hr with rfl | rfl | rfl <;> simp only <;> omega
  · rcases Int.lt_or_le u 0 with c | c
    · exact ⟨_,List.mem_cons_self,by simp only; omega⟩
    · rcases Int.lt_trichotomy v 0 with d | d | d
      · refine ⟨(1,-2*k,0),by simp,?_⟩
        simp only
        have:=Int.mul_pos (show 0 < k by omega) (show 0 < -v by omega)
        grind
      · refine ⟨(1,2*k,2*k),by simp,?_⟩
        simp only
        subst d
        omega
      · refine ⟨(1,2*k,2*k),by simp,?_⟩
        simp only
        have:=Int.mul_pos (show 0 < k by omega) d
        grind
  · have k1:=hk (-1,0,0) (by simp)
    have k2:=hk (1,-2*k,0) (by simp)
    have k3:=hk (1,2*k,2*k) (by simp)
    simp only [Pol.val] at k1 k2 k3
    have e2:p.1≤2*(k*p.2.1):=by grind
    have e3:p.1+2*(k*p.2.1)≤2*(k*p.2.2):=by grind
    have kz:k*p.2.2≤7*p.2.2:=Int.mul_le_mul_of_nonneg_right h7 (by omega)
    have y0:0≤p.2.1:=Pol.yV (show 0 < k by omega) (by omega)
    have y1:p.2.1≤p.2.2:=by
      have:k*p.2.1≤k*p.2.2:=by omega
      exact Int.le_of_mul_le_mul_left this (by omega)
    omega
theorem xac {c:Int} (h:0≤c∧c≤7):-100≤c∧c≤100:=by omega
theorem l7 {c1 c2 c3:Int} (h1:0≤c1∧c1≤7) (h2:0≤c2∧c2≤7) (h3:0≤c3∧c3≤7):LF0 [(-2,1,c1),(1,-3,c2),(2,3,c3)]:=by
  refine ⟨by simp,by simp,fun r hr=>?_,fun r hr=>?_,fun u v hn=>?_,fun p hz hk=>?_⟩
  · simp only [List.mem_cons,List.not_mem_nil,or_false] at hr
    rcases hr with rfl | rfl | rfl
    · exact ⟨by simp only; decide,xac h1⟩
    · exact ⟨by simp only; decide,xac h2⟩
    · exact ⟨by simp only; decide,xac h3⟩
  · simp only [List.mem_cons,List.not_mem_nil,or_false] at hr
    rcases hr with rfl | rfl | rfl <;> exact .inl (by simp only; decide)
  · rcases Int.lt_or_le 0 (-2*u+1*v) with c | c
    · exact ⟨(-2,1,c1),by simp,c⟩
    · rcases Int.lt_or_le 0 (1*u+-3*v) with d | d
      · exact ⟨(1,-3,c2),by simp,d⟩
      · exact ⟨(2,3,c3),by simp,by simp only; omega⟩
  · have k1:=hk (-2,1,c1) (by simp)
    have k2:=hk (1,-3,c2) (by simp)
    have k3:=hk (2,3,c3) (by simp)
    simp only [Pol.val] at k1 k2 k3
    have z1:c1*p.2.2≤7*p.2.2:=Int.mul_le_mul_of_nonneg_right h1.2 (by omega)
    have z2:c2*p.2.2≤7*p.2.2:=Int.mul_le_mul_of_nonneg_right h2.2 (by omega)
    have z3:c3*p.2.2≤7*p.2.2:=Int.mul_le_mul_of_nonneg_right h3.2 (by omega)
    omega
theorem o_ {c1 c2 c3:Int} (h1:0≤c1∧c1≤7) (h2:0≤c2∧c2≤7) (h3:0≤c3∧c3≤7):LF0 [(-3,-2,c1),(3,-1,c2),(1,4,c3)]:=by
  refine ⟨by simp,by simp,fun r hr=>?_,fun r hr=>?_,fun u v hn=>?_,fun p hz hk=>?_⟩
  · simp only [List.mem_cons,List.not_mem_nil,or_false] at hr
    rcases hr with rfl | rfl | rfl
    · exact ⟨by simp only; decide,xac h1⟩
    · exact ⟨by simp only; decide,xac h2⟩
    · exact ⟨by simp only; decide,xac h3⟩
  · simp only [List.mem_cons,List.not_mem_nil,or_false] at hr
    rcases hr with rfl | rfl | rfl <;> exact .inl (by simp only; decide)
  · rcases Int.lt_or_le 0 (-3*u+-2*v) with c | c
    · exact ⟨(-3,-2,c1),by simp,c⟩
    · rcases Int.lt_or_le 0 (3*u+-1*v) with d | d
      · exact ⟨(3,-1,c2),by simp,d⟩
      · exact ⟨(1,4,c3),by simp,by simp only; omega⟩
  · have k1:=hk (-3,-2,c1) (by simp)
    have k2:=hk (3,-1,c2) (by simp)
    have k3:=hk (1,4,c3) (by simp)
    simp only [Pol.val] at k1 k2 k3
    have z1:c1*p.2.2≤7*p.2.2:=Int.mul_le_mul_of_nonneg_right h1.2 (by omega)
    have z2:c2*p.2.2≤7*p.2.2:=Int.mul_le_mul_of_nonneg_right h2.2 (by omega)
    have z3:c3*p.2.2≤7*p.2.2:=Int.mul_le_mul_of_nonneg_right h3.2 (by omega)
    omega
end L2
namespace L2
open PySem PySem.Spec PyProof.Rows
theorem vE (us:List Tr):PyData.canLayAll0 (wD us)=true↔∀ u∈us,pln u=true:=by
  induction us with
  | nil=>exact ⟨fun _ u hu=>by simp at hu,fun _=>rfl⟩
  | cons t us ih =>
    show ((qO t).canLay0 && PyData.canLayAll0 (wD us))=true↔_
    rw [Bool.and_eq_true,ih]
    exact ⟨fun h u hu=>(List.mem_cons.mp hu).elim (fun e=>e ▸ h.1) (h.2 u),fun h=>⟨h t List.mem_cons_self,fun u hu=>h u (List.mem_cons_of_mem _ hu)⟩⟩
theorem ka {us:List Tr}:pln (.tup us)=true↔∀ u∈us,pln u=true:=vE us
theorem xaa {us:List Tr}:pln (.lst us)=true↔∀ u∈us,pln u=true:=vE us
theorem aY {ts:List Tr} {r:Int} {KK:Tr→Prop} (h0:0≤r) (h1:r < ts.length) (h:∀ t∈ts,KK t):aj (atT ts r) KK:=by
  rw [xaH h0]
  have hl:r.toNat < ts.length:=by omega
  rw [List.getElem?_eq_getElem hl]
  exact h _ (List.getElem_mem hl)
theorem gO {α:Type} {ts:List α} {lo hi:Option Int} {x:α} (h:x∈qp ts lo hi):x∈ts:=by
  unfold qp at h
  exact List.mem_of_mem_drop (List.mem_of_mem_take h)
theorem aR {α:Type} (ts:List α) (lo hi:Option Int):(qp ts lo hi).length≤ts.length:=by
  unfold qp
  rw [List.length_take,List.length_drop]; omega
theorem kD {rows:List Pol.R3}:isField (.tup (rows.map trR))=xG rows:=by
  show (match rowsOf (rows.map trR) with | some rows=>xG rows | none=>false)=_
  rw [qV]
end L2
namespace L2
open PySem PySem.Spec PyProof.Rows
def DD (K:PySem.W.Frag) (x:Str) (st:Stmt):Prop:=∃ f fd,PySem.W.nsIn K mainGlobals x=some (some (.ref f))∧Fun K x x st f fd
theorem dd {K:PySem.W.Frag} {x:Str} {st:Stmt} {f:Addr} {oc:Value} {od an:Option Addr} {sl:Array (Option Value)} {kV dc pm cd ct:Value} (a:PySem.W.nsIn K mainGlobals x=some (some (.ref f)))
    (l:K.lookup f=some ⟨oc,od,.func (PySem.W.fnOf x x (zM st) (yF st) (xk st) .none kV dc pm an cd ct),sl⟩) (c:PySem.W.codeIn K cd x=true) (k:PySem.W.keepIn K (.ref f)=true):DD K x st:=⟨f,_,a,oG l c k⟩
theorem zT {K:PySem.W.Frag} {x qual p1:Str} {st:Stmt} {f:Addr} {fd:FuncData} (F:Fun K x qual st f fd) (h:∀ (kV doc pm:Value) (an:Option Addr) (cdv ct u1:Value),bindArgs (PySem.W.fnOf x qual (zM st) (yF st) (xk st) .none kV doc pm an cdv ct) ⟨[u1],[]⟩=pure [(p1,u1)]):Binds K fd [p1] [] :=
  F.binds fun a b c d e g us hl=>match us,hl with | [u1],_=>h a b c d e g u1
theorem yO {K:PySem.W.Frag} {x qual p1 p2:Str} {st:Stmt} {f:Addr} {fd:FuncData} (F:Fun K x qual st f fd) (h:∀ (kV doc pm:Value) (an:Option Addr) (cdv ct u1 u2:Value),bindArgs (PySem.W.fnOf x qual (zM st) (yF st) (xk st) .none kV doc pm an cdv ct) ⟨[u1,u2],[]⟩=pure [(p1,u1),(p2,u2)]):Binds K fd [p1,p2] [] :=
  F.binds fun a b c d e g us hl=>match us,hl with | [u1,u2],_=>h a b c d e g u1 u2
theorem oH {K:PySem.W.Frag} {x qual p1 p2 p3:Str} {st:Stmt} {f:Addr} {fd:FuncData} (F:Fun K x qual st f fd) (h:∀ (kV doc pm:Value) (an:Option Addr) (cdv ct u1 u2 u3:Value),bindArgs (PySem.W.fnOf x qual (zM st) (yF st) (xk st) .none kV doc pm an cdv ct) ⟨[u1,u2,u3],[]⟩=pure [(p1,u1),(p2,u2),(p3,u3)]):Binds K fd [p1,p2,p3] [] :=
  F.binds fun a b c d e g us hl=>match us,hl with | [u1,u2,u3],_=>h a b c d e g u1 u2 u3
theorem xaT {K:PySem.W.Frag} {x qual p1 p2 p3 p4:Str} {st:Stmt} {f:Addr} {fd:FuncData} (F:Fun K x qual st f fd) (h:∀ (kV doc pm:Value) (an:Option Addr) (cdv ct u1 u2 u3 u4:Value),bindArgs (PySem.W.fnOf x qual (zM st) (yF st) (xk st) .none kV doc pm an cdv ct) ⟨[u1,u2,u3,u4],[]⟩=pure [(p1,u1),(p2,u2),(p3,u3),(p4,u4)]):Binds K fd [p1,p2,p3,p4] [] :=
  F.binds fun a b c d e g us hl=>match us,hl with | [u1,u2,u3,u4],_=>h a b c d e g u1 u2 u3 u4
def vF:TSp:=fun ts KK=>∃ t,ts=[t]∧isField t=true∧KK .non
def brk (v:Pol.R3):Bool := !decide ((plc v).1.2=1) || !decide ((plc v).2.2=1)
theorem gS {n:Int} (h:-1000000≤n∧n≤1000000):Bk 600 n:=by
  have:Bk 20 n:=by unfold Bk; omega
  exact this.mono (by decide)
theorem xa9 {rows:List Pol.R3} (h:xG rows=true):(3≤rows.length∧rows.length≤8)∧(∀ r∈rows,(r.1≠0∨r.2.1≠0)∧Pol.sd r)∧Pol.wW rows=true∧∀ v∈Pol.pieces rows,fc v=true:=by
  unfold xG at h
  simp only [Bool.and_eq_true,decide_eq_true_eq,List.all_eq_true] at h
  exact ⟨h.1.1.1,h.1.1.2,h.1.2,h.2⟩
theorem zL {rows:List Pol.R3} (h:xG rows=true):isField (.tup (rows.map trR))=true:=by rw [kD]; exact h
theorem LF.isf {rows:List Pol.R3} (h:LF rows):xG rows=true:=by rw [← kD]; exact h.field
theorem bZ {t b:Int} (h:0 < b):frT (dZ t b) (fo t b)=fT (lfr t b):=by rw [q_ h]; rfl
end L2
namespace L2
open PySem PySem.Spec PyProof.Rows
end L2
namespace L2
open PySem PySem.Spec PyProof.Rows
theorem wC.get {P:Program} {w:World} {H:Hp} {h:Heap} {a:Addr} {o:HO} (x:wC P w H h a o):∃ ob,h.get? a=some ob:=by
  cases o with
  | lst xs=>obtain ⟨_,_,_,_,e⟩:=x; exact ⟨_,e⟩
  | tup xs=>obtain ⟨_,_,_,_,e,_⟩:=x; exact ⟨_,e⟩
  | dK kvs=>obtain ⟨_,_,_,_,o,_,_,e,_⟩:=x; exact ⟨_,e⟩
  | dT kvs=>obtain ⟨_,_,_,_,o,_,_,e,_⟩:=x; exact ⟨_,e⟩
  | set S n=>obtain ⟨o,_,_,_,e,_⟩:=x; exact ⟨_,e⟩
  | ins C dx fs=>obtain ⟨_,_,_,e,_⟩:=x; exact ⟨_,e⟩
  | own y=>exact x
  | xd fs=>obtain ⟨_,⟨_,_,_,e,_⟩,_⟩:=x; exact ⟨_,e⟩
  | rng lo hi=>obtain ⟨_,_,_,e⟩:=x; exact ⟨_,e⟩
  | frz ob u=>obtain ⟨e,_⟩:=x; exact ⟨_,e⟩
  | tbl ps=>exact ⟨_,x⟩
  | tb q=>obtain ⟨_,e,_⟩:=x; exact ⟨_,e⟩
  | met f y=>exact ⟨_,x⟩
  | ext φ=>obtain ⟨_,e,_⟩:=x; exact e
structure Fl (P:Program) (w:World) (outer:List Env) (H:Hp) (s:Shared) (ea C:Addr) (H':Hp) (s':Shared):Prop where
  os:s'.os=s.os
  bare:AllBare s'.gens
  un:Un (frs outer) [] H H' s.heap s'.heap
  hok:HOk P w H' s'.heap
  fly:∃ (B:Heap) (t:Addr),Heap.FlyingW B outer ea (.ref C) (.ref t) s'.heap∧(∀ b o,s.heap.get? b=some o→H b=none→b∉frs outer→B.get? b=some o) ∧
    (∀ b o,s.heap.get? b=some o→b∉frs outer→∃ o',B.get? b=some o')∧∀ b u,H' b=some u→∃ o,B.get? b=some o
def CXE (P:Program) (w:World):CXT:=fun outer H s E e s'=>∃ ea C H',e=.ref ea∧Fl P w outer H s ea C H' s'∧E (.ref C) none H'
section
variable {P:Program} {w:World} {K:PySem.W.Frag} {mg:Str→Option Value} {base:Heap} {N:List Str} {qual:Str} {scope:Scope} {f:Addr} {cd:Value} {A:Around} {outer:List Env} {s:Shared} {H H':Hp} {E:XK}
theorem HOk.of_fly {h h' B:Heap} (x:HOk P w H' h) (k:B.StaysIn h) (k':B.StaysIn h') (tr:∀ b u,H' b=some u→∃ o,B.get? b=some o):HOk P w H' h':=fun a o e=>by
  refine (x a o e).stay (fun b u hb q=>?_) (fun _ q=>q) (fun _ _ q=>q) fun _ _ _ q=>q
  have:∃ u,H' b=some u:=by
    rcases hb with rfl | hb
    · exact ⟨_,e⟩
    · exact ⟨_,hb⟩
  obtain ⟨v,hv⟩:=this
  obtain ⟨o',ho⟩:=tr b v hv
  have:=k b o' ho
  rw [q] at this; cases this
  exact k' b _ ho
theorem Inv.old {X:Cx} {pins:List (Addr × Obj)} {σ:St} {H1:Hp} {s1:Shared} (I:Inv X pins σ H1 s1) {b:Addr} {o:Obj} (e:X.s₀.heap.get? b=some o):b≠X.env.locals:=Nat.ne_of_lt (Nat.lt_of_lt_of_le (Heap.lt_size e) I.ok.above)
theorem bT {env:Env} {L:Addr} (hf:env.frame=some L) (l:List Env):frs (env::l)=L::frs l:=by unfold frs; rw [List.filterMap_cons,hf]
theorem xaA {X:Cx} (hst:X.stack=X.env::X.outer) (hfr:X.env.frame=some X.env.locals) (hex:X.ex=[])
    (hxe:∀ e s',wpAny (model X.prog X.w) X.A (leaving X.env e) (fun _ s''=>CXE X.prog X.w X.outer X.H₀ X.s₀ E e s'') (fun e' s''=>CXE X.prog X.w X.outer X.H₀ X.s₀ E e' s'') s'→X.xe e s'):h9 (CXE X.prog X.w) X E:=by
  intro pins σ H1 s1 e s' I h
  obtain ⟨ea,C,H2,rfl,⟨os,bare,un,hok,B,t,fl,kB,tB,trB⟩,q⟩:=h
  have hx:∀ b,b∉X.ex:=fun b z=>by rw [hex] at z; exact absurd z (by simp)
  have ne:∀ b o,X.s₀.heap.get? b=some o→b∉frs X.outer→b∉frs X.stack:=fun b o e nb z=>by
    rcases List.mem_cons.mp (I.stkSub b z) with z | z
    · exact I.old e z
    · exact nb z
  have inS:∀ b,b∈frs X.outer→b∈frs X.stack:=fun b hb=>by rw [hst,bT hfr]; exact List.mem_cons_of_mem _ hb
  have fr:X.A.frames=some (X.env::X.outer):=by rw [← hst]; exact I.ok.frames
  have fl0:=fl
  rw [hst] at fl
  refine hxe _ _ (wpAny_leaves_onW (L:=X.env.locals) fr hfr fl fun h' fl' up=>⟨ea,C,H2,rfl,⟨os.trans I.os,bare,?_,hok.of_fly fl.1 fl'.1 trB,B,t,fl',fun b o e n nb=>?_,fun b o e nb=>?_,trB⟩,q⟩)
  · refine ⟨fun b o e n nb _=>?_,fun b o e n hb _=>?_,fun b o e n _=>?_,fun b o e _=>?_,fun b xs e=>un.tups b xs (I.base.tups b xs e),fun b o u e=>un.frzs b o u (I.base.frzs b o u e),fun b ps e=>?_⟩
    · exact fl'.1 b o (kB b o (I.base.keep b o e n nb (hx b)) (I.base.free b o e n (hx b)) (ne b o e nb))
    · obtain ⟨sl,e1⟩:=I.base.slot b o e n hb (hx b)
      obtain ⟨sl2,e2⟩:=un.slot b _ e1 (I.base.free b o e n (hx b)) (inS b hb) (by simp)
      obtain ⟨_,o',ho',hnf⟩:=I.ok.funs.mem hb
      rw [e] at ho'; cases ho'
      obtain ⟨sl3,e3⟩:=up b _ e2 hnf
      exact ⟨sl3,e3⟩
    · obtain ⟨o',e1⟩:=I.base.there b o e (hx b)
      exact un.free b o' e1 (I.base.free b o e n (hx b)) (by simp)
    · by_cases nb:b∈frs X.outer
      · have n:X.H₀ b=none:=I.ok.frf b nb
        obtain ⟨_,o3,ho3,hnf⟩:=I.ok.funs.mem nb
        rw [e] at ho3; cases ho3
        obtain ⟨sl,e1'⟩:=I.base.slot b o e n nb (hx b)
        obtain ⟨sl2,e2'⟩:=un.slot b _ e1' (I.base.free b o e n (hx b)) (inS b nb) (by simp)
        obtain ⟨sl3,e3⟩:=up b _ e2' hnf
        exact ⟨_,e3⟩
      · obtain ⟨o',e1⟩:=I.base.there b o e (hx b)
        obtain ⟨o2,e2⟩:=tB b o' e1 (ne b o e nb)
        exact ⟨o2,fl'.1 b o2 e2⟩
    · obtain ⟨m1,e1⟩:=I.base.tbls b ps e
      obtain ⟨m2,e2⟩:=un.tbls b _ e1
      exact ⟨m1++m2,by rw [e2,Array.append_assoc]⟩
  · exact kB b o (I.base.keep b o e n nb (hx b)) (I.base.free b o e n (hx b)) (ne b o e nb)
  · obtain ⟨o',e1⟩:=I.base.there b o e (hx b)
    exact tB b o' e1 (ne b o e nb)
theorem oo:h9 (CXE P w) (kK (CXE P w) P w K mg base N qual scope f cd A outer s H E) E:=xaA rfl rfl rfl fun _ _ h=>h
theorem xaD {pins:List (Addr × Obj)} {σ:St} {H1:Hp} {s1:Shared} {h1:Heap} {ea C:Addr} {vs:List Value} (I:Inv (kK (CXE P w) P w K mg base N qual scope f cd A outer s H E) pins σ H1 s1) (hm:Heap.MadeExcOf s1.heap h1 ea (.ref C) vs) (q:E (.ref C) none H1) :
    (kK (CXE P w) P w K mg base N qual scope f cd A outer s H E).xe (.ref ea) { s1 with heap:=h1 }:=by
  have hx:∀ b,b∉(kK (CXE P w) P w K mg base N qual scope f cd A outer s H E).ex:=fun b z=>absurd (show b∈([]:List Addr) from z) (by simp)
  let fs:=frs (kK (CXE P w) P w K mg base N qual scope f cd A outer s H E).stack
  have ne:∀ b o,s.heap.get? b=some o→b∉frs outer→b∉fs:=fun b o e nb z=>by
    rcases List.mem_cons.mp (I.stkSub b z) with z | z
    · exact I.old e z
    · exact nb z
  have hB:(PySem.W.hideAll s1.heap fs).StaysIn s1.heap:=fun b o e=>PySem.W.of_hideAll _ e
  have inB:∀ b o,s1.heap.get? b=some o→b∉fs→(PySem.W.hideAll s1.heap fs).get? b=some o:=fun b o e n=>PySem.W.hideAll_get _ e n
  show wpAny (model P w) _ (leaving _ (.ref ea)) _ _ _
  refine wpAny_leaves_madeW (base:=PySem.W.hideAll s1.heap fs) (h:=s1.heap) (L:=s.heap.objs.size) I.ok.frames rfl hB (PySem.W.funFrames_hide I.stack fun env he b hb=>List.mem_filterMap.mpr ⟨env,he,hb⟩) hm
    fun h' t fl _ _ up=>⟨ea,C,H1,rfl,⟨I.os,I.bare,?_,?_,_,t,fl,fun b o e n nb=>?_,fun b o e nb=>?_,fun b u e=>?_⟩,q⟩
  · refine ⟨fun b o e n nb _=>?_,fun b o e n hb _=>?_,fun b o e n _=>?_,fun b o e _=>?_,I.base.tups,I.base.frzs,I.base.tbls⟩
    · exact fl.1 b o (inB b o (I.base.keep b o e n nb (hx b)) (ne b o e nb))
    · obtain ⟨sl,e1⟩:=I.base.slot b o e n hb (hx b)
      obtain ⟨_,o',ho',hnf⟩:=I.ok.funs.mem hb
      have ho':s.heap.get? b=some o':=ho'
      rw [e] at ho'; cases ho'
      obtain ⟨sl3,e3⟩:=up b _ (hm.keeps b _ e1) hnf
      exact ⟨sl3,e3⟩
    · exact I.base.free b o e n (hx b)
    · by_cases nb:b∈frs outer
      · have n:H b=none:=I.ok.frf b nb
        obtain ⟨sl,e1⟩:=I.base.slot b o e n nb (hx b)
        obtain ⟨_,o',ho',hnf⟩:=I.ok.funs.mem nb
        have ho':s.heap.get? b=some o':=ho'
        rw [e] at ho'; cases ho'
        obtain ⟨sl3,e3⟩:=up b _ (hm.keeps b _ e1) hnf
        exact ⟨_,e3⟩
      · obtain ⟨o',e1⟩:=I.base.there b o e (hx b)
        exact ⟨o',fl.1 b o' (inB b o' e1 (ne b o e nb))⟩
  · refine I.hok.of_fly hB fl.1 fun b u e=>?_
    obtain ⟨o,ho⟩:=(I.hok b u e).get
    exact ⟨o,inB b o ho fun z=>by rw [I.stkFree b z] at e; cases e⟩
  · exact inB b o (I.base.keep b o e n nb (hx b)) (ne b o e nb)
  · obtain ⟨o',e1⟩:=I.base.there b o e (hx b)
    exact ⟨o',inB b o' e1 (ne b o e nb)⟩
  · obtain ⟨o,ho⟩:=(I.hok b u e).get
    exact ⟨o,inB b o ho fun z=>by rw [I.stkFree b z] at e; cases e⟩
def pT (E:XK) (C:Addr) (t:TA):TS:=fun _ σ H=>t σ H fun vs H1=>vs.length≤sizeLine∧E (.ref C) none H1
theorem aw {x:Str} {C:Addr} {e₀:Expr} {rest:List Expr} {np cpos pos:Pos} {t:TA} {bm:List Value} (O:OwnCls x C bm "ValueError.__new__" mg base) (FB:ExcBaseFacts "ValueError" "ValueError.__new__" "ValueError.__init__" bm)
    (ha:PA (kK (CXE P w) P w K mg base N qual scope f cd A outer s H E) (e₀::rest) t)
    (hg:Gl (kK (CXE P w) P w K mg base N qual scope f cd A outer s H E) x:=by rfl) (hdb:(x == ("__debug__" : Str))=false:=by decide)
    (he:starEach (e₀::rest) (kK (CXE P w) P w K mg base N qual scope f cd A outer s H E).env=(false,eval e₀ (kK (CXE P w) P w K mg base N qual scope f cd A outer s H E).env)::starEach rest (kK (CXE P w) P w K mg base N qual scope f cd A outer s H E).env:=by rfl)
    (hpl:(backTo cpos (starEach rest (kK (CXE P w) P w K mg base N qual scope f cd A outer s H E).env)).any (·.1)=false:=by rfl) :
    PS (kK (CXE P w) P w K mg base N qual scope f cd A outer s H E) (.Raise (some (.Call (.Name x np) (e₀::rest) [] cpos)) none pos) (pT E C t):=by
  intro pins s1 σ H1 D I h
  obtain ⟨tl,N',nm,q,bs,hdct,sn,sub,ab,col,dd,k0,k1,k2,k3,k5,mN,hC,hN,hni,T⟩:=O.obj
  refine wpAny_Raise_call_subT (C:=C) (nm:=nm) (q:=q) (N:=N') (bs:=bs) (bm:=tl) (hdct:=hdct) (sn:=sn) (sub:=sub) (ab:=ab) (col:=col) (dd:=dd) (k0:=k0) (k1:=k1) (k2:=k2) (k3:=k3) (k5:=k5)
    FB (mN:=mN) (T.hasType FB.hasBase) (I.ok.hd rfl) (by rw [he]; show (false || (backTo cpos (starEach rest _)).any (·.1))=false; rw [hpl]; rfl) hni (qM I hg O.bound ⟨rfl,?_⟩ hdb)
  have h2:=@ha cpos pins s1 σ H1 _ I h
  rw [he] at h2 ⊢
  refine Calls.evalArgs_plain (wpAny_mono h2 (fun us s2 ⟨vs,H2,I2,r,z,q⟩=>⟨rfl,by rw [← r.length]; exact z,I2.bk _ _ hC,hN.keeps I2.bk,T.keeps I2.bk,fun h' e hm=>xaD I2 hm q⟩) fun _ _ y=>y)
structure sk (P:Program) (w:World) (K:PySem.W.Frag) (mg:Str→Option Value) (base:Heap) (k:Nat) (x:Str) (ps:List Str) (sp:Sp):Prop where
  ex:∃ (f:Addr) (fd:FuncData),gI P w K mg base (CXE P w) k f fd ps sp∧Binds K fd ps []∧PySem.W.keepIn K (.ref f)=true∧mg x=some (.ref f)
theorem sk.mono {j k:Nat} {x:Str} {ps:List Str} {sp:Sp} (h:sk P w K mg base j x ps sp) (hjk:j≤k):sk P w K mg base k x ps sp:=by
  obtain ⟨f,fd,F,b,kp,m⟩:=h.ex
  exact ⟨f,fd,F.mono hjk,b,kp,m⟩
end
def xau (sp:Sp) (E:XK) (t:TA):TE:=fun σ H Q=>t σ H fun vs H1=>sp vs H1 Q E
theorem bJ {X:Cx} {k j:Nat} {x:Str} {ps:List Str} {sp:Sp} {E:XK} {p pos:Pos} {e:Expr} {es:List Expr} {t:TA} (h:sk X.prog X.w X.K X.mg X.base j x ps sp) (hr:qI k X.A) (hx:h9 (CXE X.prog X.w) X E) (ha:PA X (e::es) t) (hjk:j≤k:=by decide) (hg:Gl X x:=by rfl)
    (hdb:(x == ("__debug__" : Str))=false:=by decide) (he:starEach (e::es) X.env=(false,eval e X.env)::starEach es X.env:=by rfl) (hpl:(backTo pos (starEach es X.env)).any (·.1)=false:=by rfl) :
    PE X (.Call (.Name x p) (e::es) [] pos) (xau sp E t):=by
  obtain ⟨f,fd,F,b,kp,m⟩:=(h.mono hjk).ex
  intro pins s σ H Q I q
  refine mK (E:=E) F hr hg m kp b .nil hx ha hdb he hpl s σ H Q I ?_
  have e:(fun (vs:List V) (H1:Hp)=>sp (vs++[]) H1 Q E)=fun vs H1=>sp vs H1 Q E:=by
    funext vs H1; rw [List.append_nil]
  show t σ H fun vs H1=>sp (vs++[]) H1 Q E
  rw [e]; exact q
theorem vy {X:Cx} {b:List Stmt}:PSs X b rL:=fun _ _ _ _ _ _ h=>h.elim
theorem o8 {P:Program} {w:World} {K:PySem.W.Frag} {mg:Str→Option Value} {base:Heap} {k:Nat} {x qual:Str} {st:Stmt} {f:Addr} {fd:FuncData} {N ps:List Str} {sp:Sp} (F:Fun K x qual st f fd) (S:xI N ps (xk st)) (mgx:mg x=some (.ref f)) (b:Binds K fd ps [])
    (len:∀ vs H Q E,sp vs H Q E→vs.length=ps.length)
    (body:∀ (cdv:Value) (A:Around) (outer:List Env) (s:Shared) (H:Hp) (vs:List V) (Q:VK) (E:XK),qI k (A.deeper (envOfC qual (xk st) s.heap.objs.size f cdv))→sp vs H Q E →
      ∃ t,PSs (kK (CXE P w) P w K mg base N qual (xk st) f cdv A outer s H E) (yF st) t∧t { nx:=fun _ H'=>Q .non H',rt:=Q } (start N vs) H):sk P w K mg base (k+1) x ps sp:=by
  have kp:=F.kp
  obtain ⟨oc,od,kV,doc,pm,an,cdv,ct,osl,rfl,lk,hcd⟩:=F.ex
  exact ⟨f,_,xbc lk hcd S len fun A outer s H vs Q E hr hsp=>body cdv A outer s H vs Q E hr hsp,b,kp,mgx⟩
end L2
namespace L2
open PySem PySem.Spec PySem.Calls PyProof.Rows
def xcw (a C:Addr) (h:Heap):Prop:=∃ o,h.get? a=some o∧o.cls=.ref C
section
variable {prog:Program} {w:World} {A:Around} {E:Value→Shared→Prop} {s:Shared} {K:PySem.W.Frag} {ea C:Addr}
theorem xcw.ty {M:Model} {h:Heap} (I:xcw ea C h):PySem.W.Looks M h (typeOf (.ref ea)) (.ref C):=by
  obtain ⟨o,h1,h2⟩:=I
  rw [← h2]
  exact (PySem.W.Looks.ld h1).andThen .now
end
end L2
namespace L2
open PySem PySem.Spec PySem.Calls PyProof.Rows
section
variable {P:Program} {w:World}
theorem xbd {st:List Env} {H H':Hp} {s s':Shared} {B h':Heap} (un:Un (frs st) [] H H' s.heap s'.heap) (kB:∀ b o,s.heap.get? b=some o→H b=none→b∉frs st→B.get? b=some o)
    (tB:∀ b o,s.heap.get? b=some o→b∉frs st→∃ o',B.get? b=some o') (hff:s'.heap.FunFrames B st) (hB:B.StaysIn h') (up:s'.heap.UpToSlots h'):Un (frs st) [] H H' s.heap h' where
  keep:=fun b o e n nb _=>hB b o (kB b o e n nb)
  slot:=fun b o e n hb hx=>by
    obtain ⟨sl,e1⟩:=un.slot b o e n hb hx
    obtain ⟨_,o',ho',hnf⟩:=hff.mem hb
    rw [e1] at ho'; cases ho'
    obtain ⟨sl2,e2⟩:=up b _ e1 hnf
    exact ⟨sl2,e2⟩
  free:=un.free
  there:=fun b o e hx=>by
    by_cases nb:b∈frs st
    · obtain ⟨_,o',ho',hnf⟩:=hff.mem nb
      obtain ⟨sl2,e2⟩:=up b _ ho' hnf
      exact ⟨_,e2⟩
    · obtain ⟨o2,e2⟩:=tB b o e nb
      exact ⟨o2,hB b o2 e2⟩
  tups:=un.tups
  frzs:=un.frzs
  tbls:=un.tbls
variable {X:Cx} {pins:List (Addr × Obj)} {σ:St} {H H':Hp} {s s':Shared} {ea C:Addr}
abbrev Cx.marked (X:Cx) (e:Value):Cx:={ X with A:=X.A.mark (some e),calm:=false,xe:=fun _ _=>False }
theorem Inv.marked {e:Value} (I:Inv X pins σ H s):Inv (X.marked e) pins σ H s :=
  ⟨⟨I.ok.mod,I.ok.kind,I.ok.glob,I.ok.blt,I.ok.above,I.ok.inj,I.ok.has,I.ok.cab,(fun z=>nomatch z),I.ok.frames,I.ok.stk,I.ok.exf,I.ok.bs,I.ok.bsz,I.ok.noex,I.ok.exfs,I.ok.funs,I.ok.frf⟩,
    I.os,I.bare,I.base,I.loc,I.cell,I.free,I.freeC,I.pin,I.hok,I.len⟩
theorem Inv.unmarked {e:Value} (I:Inv (X.marked e) pins σ H s) (hd:X.calm=true→X.A.handled=none):Inv X pins σ H s :=
  ⟨⟨I.ok.mod,I.ok.kind,I.ok.glob,I.ok.blt,I.ok.above,I.ok.inj,I.ok.has,I.ok.cab,hd,I.ok.frames,I.ok.stk,I.ok.exf,I.ok.bs,I.ok.bsz,I.ok.noex,I.ok.exfs,I.ok.funs,I.ok.frf⟩,
    I.os,I.bare,I.base,I.loc,I.cell,I.free,I.freeC,I.pin,I.hok,I.len⟩
end
end L2
namespace L2
open PySem PySem.Spec PySem.Calls PyProof.Rows
section
variable {X:Cx} {pins:List (Addr × Obj)} {σ:St} {H H':Hp} {s s':Shared} {ea C:Addr}
end
end L2
namespace L2
open PySem PySem.Spec PySem.Calls PyProof.Rows
end L2
namespace L2
open PySem PySem.Spec PySem.Calls PyProof.Rows
section
variable {X:Cx} {pins:List (Addr × Obj)} {σ:St} {H:Hp} {s:Shared} {c P:Addr} {params:Arguments} {body:Expr} {scope:Scope} {pos:Pos} {clos:List (Str × Addr)} {E:Value→Shared→Prop} {Q:Value→Shared→Prop} {q:Str}
end
end L2
namespace L2
open PySem PySem.Spec PySem.Calls PyProof.Rows
section
variable {X:Cx} {pins:List (Addr × Obj)} {σ:St} {H:Hp} {s:Shared}
end
end L2
namespace L2
open PySem PySem.Spec PyProof.Rows
def spX (n:Nat) (C:Addr) (R:List Tr→Prop):Sp:=fun vs H _ E=>∃ (F S:Addr→Prop) (ts:List Tr) (us:List V),vs=us∧(∀ a,F a→H a≠none)∧(∀ a,S a→F a)∧(∀ a,S a→sT a H)∧zm F H ts us∧ts.length=n∧R ts ∧
  ∀ H',(∀ a o,H a=some o→¬ S a→H' a=some o)→(∀ a,S a→sT a H')→E (.ref C) none H'
section
variable {K:PySem.W.Frag} {B:FB} {φ:Phi} {σ:St} {τ:TSt} {H H' H'':Hp} {EX:Hp→Prop}
def RXE (K:PySem.W.Frag) (B:FB) (te:TE) (D:TSt→Prop):Prop:=∀ φ σ τ H Q,RS K B φ σ τ H→D τ→te σ H Q
def RXA (K:PySem.W.Frag) (B:FB) (ta:TA) (D:TSt→Prop):Prop:=∀ φ σ τ H Q,RS K B φ σ τ H→D τ→ta σ H Q
def RXS (K:PySem.W.Frag) (B:FB) (T:TS) (D:TSt→Prop):Prop:=∀ φ σ τ H E,RS K B φ σ τ H→D τ→T E σ H
theorem pP.on (R:RS K B φ σ τ H) (k:∀ a o,H a=some o→¬ SA B φ τ a→H' a=some o) (st:∀ a,SA B φ τ a→sT a H'):pP B H':=(R.hx ⟨k,st⟩).extB
theorem nh {b:Bool} {n:Nat} {C:Addr} {R:List Tr→Prop} {E:XK} {ta:TA} {da:DA} (hE:∀ H',pP B H'→E (.ref C) none H') (ha:OkA K b n ta da):RXE K B (xau (spX n C R) E ta) (fun τ=>da τ R):=fun φ σ τ H Q R' hd =>
  ha B φ σ τ H _ _ R' hd fun ts vs H1 x1 k1 l1 r1=>⟨AvB b B φ τ,SA B φ τ,ts,vs,rfl,fun a z=>(R'.hx x1).domB z,fun a z=>R'.sB z,x1.st,r1,l1,k1,fun H2 k st=>hE _ (pP.on (R'.hx x1) k st)⟩
theorem cq {te:TE} {ta:TA} {D:TSt→Prop} (h:RXE K B te D):RXA K B (jh te ta) D:=fun φ σ τ H Q R hd=>h φ σ τ H _ R hd
theorem xaV {sp:Sp} {ta:TA} {D:TSt→Prop} (h:RXA K B ta D):RXE K B (xah sp ta) D:=fun φ σ τ H Q R hd=>h φ σ τ H _ R hd
theorem oq {te:TE} {D:TSt→Prop} (h:RXE K B te D):RXS K B (xae te) D:=fun φ σ τ H E R hd=>h φ σ τ H _ R hd
theorem rn {n:Nat} {C:Addr} {E:XK} {ta:TA} {da:DA} (hE:∀ H',pP B H'→E (.ref C) none H') (ha:OkA K true n ta da) (hn:n≤100:=by decide):RXS K B (pT E C ta) (fun τ=>da τ fun _=>True):=fun φ σ τ H G R hd =>
  ha B φ σ τ H _ _ R hd fun ts vs H1 x1 k1 l1 r1=>⟨by rw [← r1.len,l1]; exact Nat.le_trans hn (by decide),hE _ (R.hx x1).extB⟩
theorem oE {fr:Bool} {T1 T2:TS} {D1:DS} {D2:TSt→Prop} (h1:OkS K fr T1 D1) (h2:RXS K B T2 D2):RXS K B (xad T1 T2) (fun τ=>D1 { nx:=D2,rt:=fun _=>False } τ):=fun φ σ τ H E R hd =>
  h1 B φ σ τ H _ _ R hd ⟨fun φ' σ' τ' H' R' k=>h2 φ' σ' τ' H' _ R' k,fun _ _ _ _ _ z=>z.elim,fun _ _ _ _ _ z=>z.elim,fun _ _ _ _ _ z=>z.elim⟩
theorem pM {T1 T2:TS} {D:TSt→Prop} (h:RXS K B T1 D):RXS K B (xad T1 T2) D:=fun φ σ τ H E R hd=>h φ σ τ H _ R hd
theorem xaQ {tc:TT} {dc:DT} {T1 T2:TS} {D1 D2:TSt→Prop} (hc:OkT K tc dc) (h1:RXS K B T1 D1) (h2:RXS K B T2 D2):RXS K B (xck tc T1 T2) (fun τ=>dc τ fun b=>if b=true then D1 τ else D2 τ):=fun φ σ τ H E R hd =>
  hc B φ σ τ H _ _ R hd fun b H1 x1 k=>by
    cases b with
    | true=>exact tW (h1 φ σ τ H1 _ (R.hx x1) (by simpa using k))
    | false=>exact aC (h2 φ σ τ H1 _ (R.hx x1) (by simpa using k))
theorem rH:RXS K B rL (fun _=>False):=fun _ _ _ _ _ _ h=>h.elim
end
section
variable {P:Program} {w:World} {K:PySem.W.Frag} {mg:Str→Option Value} {base:Heap} {k n:Nat} {x qual:Str} {st:Stmt} {f:Addr} {fd:FuncData} {N ps:List Str} {C:Addr} {R:List Tr→Prop}
theorem qz (F:Fun K x qual st f fd) (S:xI N ps (xk st)) (mgx:mg x=some (.ref f)) (b:Binds K fd ps []) (hn:ps.length=n)
    (body:∀ (cdv:Value) (A:Around) (outer:List Env) (s:Shared) (H:Hp) (E:XK),qI k (A.deeper (envOfC qual (xk st) s.heap.objs.size f cdv)) →
      ∃ T,PSs (kK (CXE P w) P w K mg base N qual (xk st) f cdv A outer s H E) (yF st) T∧∀ B:FB,(∀ H',pP B H'→E (.ref C) none H')→∃ D,RXS K B T D∧∀ ts,ts.length=n→R ts→D (startT N false ts)) :
    sk P w K mg base (k+1) x ps (spX n C R):=by
  have hpl:ps.length≤N.length:=by have:=congrArg List.length S.pre; rw [List.length_take] at this; omega
  refine o8 F S mgx b (fun vs H Q E h=>?_) (fun cdv A outer s H vs Q E hr h=>?_)
  · obtain ⟨F',S',ts,us,e,_,_,_,r,l,_⟩:=h
    subst e
    rw [← r.len,l,hn]
  · obtain ⟨F',S',ts,us,e,hF,hS,hst,r,l,hR,q⟩:=h
    subst e
    obtain ⟨T,ht,h⟩:=body cdv A outer s H E hr
    obtain ⟨D,hd,hD⟩:=h ⟨F',S',H,[]⟩ fun H' x=>q H' x.ext x.st
    exact ⟨T,ht,hd _ _ _ H _ (jH hF hS hst r (by omega)) (hD ts l hR)⟩
end
section
variable {K:PySem.W.Frag}
theorem xc3 {T:TS} {D:DS} {H:Hp} {g:V} {ea:Addr} {j:Int} {Q:VK} (hd:OkS K true T D) (h:D { nx:=fun _=>False,rt:=fun t=>t=.lst [.int j] } [.un,.ob ea,.un,.un])
    (q:∀ H2 a,(∀ b o,H b=some o→H2 b=some o)→H a=none→H2 a=some (.lst [.int j])→Q (.ref a) H2):T { nx:=fun _ H'=>Q .non H',rt:=Q } [some g,some (.ref ea),none,none] H:=by
  refine hd ⟨fun _=>False,fun _=>False,H,[]⟩ (fun _=>none) _ _ H _ _ ⟨fun _ z=>z.elim,fun _ z=>z.elim,fun a o e _=>e,fun a z=>?_,fun i j a ts _ z=>(nomatch z),fun i a z=>(nomatch z),rfl,fun i=>?_,fun p z=>absurd z (by simp)⟩ h ⟨fun _ _ _ _ _ z=>z.elim,fun _ _ _ _ _ z=>z.elim,fun _ _ _ _ _ z=>z.elim,fun t v H2 r x e fl=>?_⟩
  · rcases z with z | ⟨i,z,_⟩
    · exact z.elim
    · cases z
  · match i with
    | 0=>trivial
    | 1=>rfl
    | 2=>trivial
    | 3=>trivial
    | n+4=>trivial
  · obtain ⟨a,ts,ws,rfl,rfl,h1,h2,h3⟩:=fl rfl
    cases e
    obtain ⟨v,vs,rfl,e1,e2⟩:=h3
    cases e1; cases e2
    exact q H2 a (fun b o e=>x.ext b o e fun z=>z) h1 h2
end
section
variable {X:Cx} {ea C D:Addr}
end
end L2
namespace L2
open PySem PySem.Spec PyProof.Rows
theorem gi {K:PySem.W.Frag} {h:Heap} {mg:Str→Option Value} {x:Str} {C:Addr} {bm:List Value} {newId:String} (X:K.In h) (e:mg x=some (.ref C)) (q:PySem.W.excIn K C bm newId=true):OwnCls x C bm newId mg h:=by
  refine ⟨e,?_⟩
  unfold PySem.W.excIn at q
  split at q
  case h_2=>cases q
  rename_i dd cd sl ho
  split at q
  case h_2=>cases q
  rename_i C' tl k0 k1 k2 k3 n k5 hm hs
  simp only [Bool.and_eq_true,beq_iff_eq,Bool.not_eq_true'] at q
  obtain ⟨⟨⟨⟨⟨e1,e2⟩,hdel⟩,ht⟩,hok⟩,hni⟩:=q
  subst e1 e2
  have get:=X _ _ ho
  obtain ⟨nm,bs,mro,ns,qn,hd,sn,sub,ab,col,del⟩:=cd
  obtain ⟨sl⟩:=sl
  dsimp only at hm hdel hok hni hs
  subst hm hdel hs
  exact ⟨tl,ns,nm,qn,bs,hd,sn,sub,ab,col,dd,k0,k1,k2,k3,k5,_,get,.of_isNs (PySem.W.isNs_of_in X hok),PySem.W.nsMap_none_of_in X hok hni,PySem.W.tail_of_in X ht⟩
abbrev xbH:List Value:=[.type "ValueError", .type "Exception", .type "BaseException", .type "object"]
section
variable {P:Program} {w:World} {K:PySem.W.Frag} {mg:Str→Option Value} {base:Heap} {k:Nat} {x qual:Str} {st:Stmt} {f:Addr} {fd:FuncData} {N ps:List Str}
end
end L2
namespace L2
open PySem
def tn (a b c d:Int):Int:=a*d-b*c
theorem ou {a b:Int} {m n:Nat} (h1:-(m:Int)≤a∧a≤m) (h2:-(n:Int)≤b∧b≤n):-((m*n:Nat):Int)≤a*b∧a*b≤((m*n:Nat):Int):=by
  have h:=Int.natAbs_mul a b
  have h3:a.natAbs≤m:=by omega
  have h4:b.natAbs≤n:=by omega
  have h5:=Nat.mul_le_mul h3 h4
  omega
end L2
namespace L2
open PySem
end L2
namespace L2
open PySem PySem.Spec PyProof.Rows
section
variable {X:Cx} {pos:Pos}
end
section
variable {K:PySem.W.Frag} {fr:Bool}
end
end L2
namespace L2
open PySem
def uN:Tr→Bool
  | .tup [.int a,.int b]=>decide (1≤b) && decide (Int.gcd a b=1)
  | _=>false
def wtT:Tr→Bool
  | .tup [.int a,.int b]=>(decide (1≤b) && decide (Int.gcd a b=1)) && decide (0≤a)
  | _=>false
def gv (n:Nat):Tr→Bool
  | .tup us=>decide (us.length=n) && us.all wtT
  | _=>false
structure Wt (w:F2):Prop where
  pos:0 < w.2
  cop:Int.gcd w.1 w.2=1
  nn:0≤w.1
  sm:Fk 40 w
theorem Wt.wtT {w:F2} (h:Wt w):wtT (fT w)=true:=by
  show ((decide (1≤w.2) && decide (Int.gcd w.1 w.2=1)) && decide (0≤w.1))=true
  rw [decide_eq_true (show 1≤w.2 from h.pos),decide_eq_true h.cop,decide_eq_true h.nn]; rfl
theorem lA {ws:List F2} (h:∀ w∈ws,Wt w):gv ws.length (.tup (ws.map fT))=true:=by
  show (decide ((ws.map fT).length=ws.length) && (ws.map fT).all L2.wtT)=true
  rw [decide_eq_true (List.length_map _),Bool.true_and,List.all_eq_true]
  intro u hu
  obtain ⟨w,hw,rfl⟩:=List.mem_map.mp hu
  exact (h w hw).wtT
def Cop (f:F2):Prop:=0 < f.2∧Int.gcd f.1 f.2=1
theorem sy {t b:Int} (h:0 < b):Cop (lfr t b):=by rw [q_ h]; exact ⟨Fra.vP h,Fra.n5 h⟩
theorem Sd.low {f:F2} {N D:Int} (h:Sd f N D) (c:Cop f):L2.lfr N D=f:=by
  rw [q_ h.pd]
  have:=Fra.tf (Fra.n5 h.pd) c.2 (Fra.vP h.pd) c.1 (by
    have e:=h.e
    have l:=Fra.jL N D
    generalize (Fra.low N D).1=x at *
    generalize (Fra.low N D).2=y at *
    have hD:=h.pd
    have:(x*f.2)*D=(f.1*y)*D:=by grind
    exact Int.eq_of_mul_eq_mul_right (by omega) this)
  exact Prod.ext this.1 this.2
theorem Sd.plusD {f g:F2} {N M D:Int} (h:Sd f N D) (h':Sd g M D):Sd (rX f g) (N+M) D:=by
  refine Sd.lfr (Pol.pp h.pf h'.pf) h.pd ?_ rfl
  have:=h.e; have:=h'.e
  grind
def jR (k:Pol.R3→Int) (f:F2) (x:Pol.R3 × F2):F2:=rX f (cF x.2 (k x.1,1))
def wsum (k:Pol.R3→Int) (l:List (Pol.R3 × F2)):F2:=l.foldl (jR k) (0,1)
theorem cO (k:Pol.R3→Int) (l:List (Pol.R3 × F2)) (h:∀ x∈l,0 < x.2.2):Cop (wsum k l):=by
  unfold wsum
  have go:∀ (l:List (Pol.R3 × F2)) (f:F2),Cop f→(∀ x∈l,0 < x.2.2)→Cop (l.foldl (jR k) f):=fun l=>by
    induction l with
    | nil=>exact fun f c _=>c
    | cons x l ih =>
      intro f c h
      refine ih _ ?_ fun y hy=>h y (List.mem_cons_of_mem _ hy)
      have hx:=h x List.mem_cons_self
      have:0 < (cF x.2 (k x.1,1)).2:=p8 (by show x.2.2*1≠0; omega)
      exact sy (Pol.pp c.1 this)
  exact go l (0,1) ⟨by decide,by decide⟩ h
theorem nY {w:F2} {r q D:Int} (hw:0 < w.2) (hD:0 < D) (e:w.2*q=D):Sd (cF w (r,1)) (q*w.1*r) D:=by
  refine Sd.lfr (by show 0 < w.2*1; omega) hD ?_ rfl
  show w.1*r*D=q*w.1*r*(w.2*1)
  rw [← e]; grind
theorem Fk.plus2 {k m:Nat} {f g:F2} (h:Fk k f) (h':Fk m g):Fk (k+m+1) (rX f g):=by
  unfold rX
  refine nX (by have:=Pol.pp h.pos h'.pos; omega) ?_ ?_
  · exact (h.top.mul h'.bot).add ((h'.top.mul h.bot).mono (by omega))
  · exact (h.bot.mul h'.bot).mono (by omega)
theorem Fk.timI {k m:Nat} {f:F2} {r:Int} (h:Fk k f) (hr:Bk m r):Fk (k+m) (cF f (r,1)):=by
  unfold cF
  refine nX (by have:=h.pos; show f.2*1≠0; omega) (h.top.mul hr) ?_
  show Bk (k+m) (f.2*1)
  rw [Int.mul_one]
  exact h.bot.mono (by omega)
theorem g9 (k:Pol.R3→Int):∀ (l:List (Pol.R3 × F2)),(∀ x∈l,Fk 40 x.2∧Bk 10 (k x.1))→Fk (1+51*l.length) (wsum k l):=by
  have go:∀ (l:List (Pol.R3 × F2)) (f:F2) (n:Nat),Fk n f→(∀ x∈l,Fk 40 x.2∧Bk 10 (k x.1))→Fk (n+51*l.length) (l.foldl (jR k) f):=fun l=>by
    induction l with
    | nil=>exact fun f n c _=>c
    | cons x l ih =>
      intro f n c h
      have hx:=h x List.mem_cons_self
      have:=ih (jR k f x) (n+51) (c.plus2 (hx.1.timI hx.2)) fun y hy=>h y (List.mem_cons_of_mem _ hy)
      rw [List.length_cons]
      exact this.mono (by omega)
  exact fun l h=>go l (0,1) 1 ⟨by unfold Bk; decide,by unfold Bk; decide,by decide⟩ h
theorem wsum_snoc (k:Pol.R3→Int) (l:List (Pol.R3 × F2)) (x:Pol.R3 × F2):wsum k (l++[x])=jR k (wsum k l) x:=by unfold wsum; rw [List.foldl_append]; rfl
def k0 (r:Pol.R3):Int:=r.1
def k1 (r:Pol.R3):Int:=r.2.1
def k2 (r:Pol.R3):Int:=r.2.2
def xb7 (l:List (Pol.R3 × F2)):Tr:=.tup [fT (wsum k0 l),fT (wsum k1 l),fT (wsum k2 l)]
structure WS (rows:List Pol.R3) (ws:List F2):Prop where
  len:rows.length=ws.length
  l100:rows.length≤8
  sm:∀ r∈rows,B3k 10 r
  wt:∀ w∈ws,Wt w
theorem WS.zip {rows:List Pol.R3} {ws:List F2} (h:WS rows ws) {x:Pol.R3 × F2} (hx:x∈rows.zip ws):B3k 10 x.1∧Wt x.2:=by
  obtain ⟨a,b⟩:=x
  have:=List.of_mem_zip hx
  exact ⟨h.sm a this.1,h.wt b this.2⟩
def jy:TSp:=fun ts KK=>∃ t,ts=[t]∧KK (.bl (uN t))
def qa:TSp:=fun ts KK=>∃ (rs:List Tr) (t:Tr),ts=[.tup rs,t]∧rs.length≤1000∧KK (.bl (gv rs.length t))
def fV:TSp:=fun ts KK=>∃ (rows:List Pol.R3) (ws:List F2),ts=[.tup (rows.map trR),.tup (ws.map fT)]∧WS rows ws ∧
  ∀ a b c D:Int,Sd (wsum k0 (rows.zip ws)) a D→Sd (wsum k1 (rows.zip ws)) b D→Sd (wsum k2 (rows.zip ws)) c D→Bd D→KK (.tup [.lst [.int a,.int b,.int c],.int D])
def pO:TSp:=fun ts KK=>∃ (rows:List Pol.R3) (ws:List F2),ts=[.tup (rows.map trR),.tup (ws.map fT)]∧WS rows ws∧KK (xb7 (rows.zip ws))
def mH:TSp:=fun ts KK=>∃ (rows:List Pol.R3) (ws:List F2),ts=[.tup (rows.map trR),.tup (ws.map fT)]∧xG rows=true∧WS rows ws∧KK (xb7 (rows.zip ws))
def a_ (ts:List Tr):Prop:=∃ (rows:List Pol.R3) (t:Tr),ts=[.tup (rows.map trR),t]∧xG rows=true∧gv rows.length t=false
def vZ (a b:F2):Prop:=a.2=1∧b.2=1∧¬ (a.1=0∧b.1=0)
def m7:TSp:=fun ts KK=>∃ a b c:F2,ts=[.tup [fT a,fT b,fT c]]∧(0 < c.2∧Bd c.2)∧vZ a b∧KK (trR (a.1,b.1,c.1.fdiv c.2))
def oi (ts:List Tr):Prop:=∃ a b c:F2,ts=[.tup [fT a,fT b,fT c]]∧¬ vZ a b
def oa:TSp:=fun ts KK=>∃ (rows:List Pol.R3) (ws:List F2),ts=[.tup (rows.map trR),.tup (ws.map fT)]∧xG rows=true∧WS rows ws∧vZ (wsum k0 (rows.zip ws)) (wsum k1 (rows.zip ws)) ∧
  KK (trR ((wsum k0 (rows.zip ws)).1,(wsum k1 (rows.zip ws)).1,(wsum k2 (rows.zip ws)).1.fdiv (wsum k2 (rows.zip ws)).2))
def p5 (ts:List Tr):Prop:=∃ (rows:List Pol.R3) (ws:List F2),ts=[.tup (rows.map trR),.tup (ws.map fT)]∧xG rows=true∧WS rows ws∧¬ vZ (wsum k0 (rows.zip ws)) (wsum k1 (rows.zip ws))
def aT:TSp:=fun ts KK=>∃ (rows:List Pol.R3) (ws:List F2),ts=[.tup (rows.map trR),.tup (ws.map fT)]∧WS rows ws∧KK (xb7 (rows.zip ws))
def dQ:TSp:=fun ts KK=>∃ rows:List Pol.R3,ts=[.tup (rows.map trR)]∧LF rows∧∀ ws:List F2,ws.length=rows.length→(∀ w∈ws,Wt w)→KK (.tup (ws.map fT))
theorem gF {α β:Type} (f:α→Tr) (g:β→Tr):∀ (l:List α) (m:List β),rV (l.map f) (m.map g)=(l.zip m).map fun x=>.tup [f x.1,g x.2]
  | [],_=>rfl
  | _::_,[]=>rfl
  | x::l,y::m=>by show Tr.tup [f x,g y]::rV (l.map f) (m.map g)=_; rw [gF f g l m]; rfl
theorem mM {t b:Int} (ht:0≤t∧t≤1000000) (hb:1≤b∧b≤1000000):Wt (lfr t b):=by
  have c:=sy (t:=t) (b:=b) (by omega)
  have s:Sd (lfr t b) t b:=by rw [q_ (by omega)]; exact p9 (by omega)
  refine ⟨c.1,c.2,?_,nX (by omega) (by unfold Bk; omega) (by unfold Bk; omega)⟩
  refine Int.not_lt.mp fun z=>?_
  have:=s.neg.mp z
  omega
theorem rg {t:Int} (ht:0≤t∧t≤1000000):Wt (t,1):=⟨by show (0:Int) < 1; decide,by show Int.gcd t 1=1; simp,ht.1,⟨by unfold Bk; simp only; omega,by show Bk 40 1; unfold Bk; decide,by show (0:Int) < 1; decide⟩⟩
theorem Cop.lfr {f:F2} (c:Cop f):L2.lfr f.1 f.2=f:=Sd.low (lz c.1) c
def rwT (x:Pol.R3 × F2):Tr:=.tup [trR x.1,fT x.2]
def jQ (x:Pol.R3 × F2):Bool := !decide (x.2.1=0)
theorem tF {k:Pol.R3→Int} {f:F2} {x:Pol.R3 × F2} (c:Cop f) (h:Wt x.2) (hz:x.2.1=0):jR k f x=f:=by
  have e:x.2=(0,1):=by
    have g:=h.cop
    rw [hz,Int.gcd_zero_left] at g
    have p:=h.pos
    exact Prod.ext hz (by show x.2.2=1; omega)
  unfold jR
  rw [e]
  have e2:cF (0,1) (k x.1,1)=(0,1):=by
    unfold cF
    show L2.lfr (0*k x.1) (1*1)=(0,1)
    rw [Int.zero_mul]; decide
  rw [e2]
  unfold rX
  show L2.lfr (f.1*1+0*f.2) (f.2*1)=f
  rw [Int.mul_one,Int.zero_mul,Int.add_zero,Int.mul_one]
  exact c.lfr
theorem jG (k:Pol.R3→Int) (l:List (Pol.R3 × F2)) (h:∀ x∈l,Wt x.2):wsum k (l.filter jQ)=wsum k l:=by
  have go:∀ (l:List (Pol.R3 × F2)) (f:F2),Cop f→(∀ x∈l,Wt x.2)→(l.filter jQ).foldl (jR k) f=l.foldl (jR k) f:=fun l=>by
    induction l with
    | nil=>exact fun f c _=>rfl
    | cons x l ih =>
      intro f c h
      have hx:=h x List.mem_cons_self
      have hl:=fun y hy=>h y (List.mem_cons_of_mem x hy)
      have c':Cop (jR k f x):=sy (Pol.pp c.1 (p8 (by have:=hx.pos; show x.2.2*1≠0; omega)))
      by_cases z:x.2.1=0
      · rw [List.filter_cons_of_neg (by simp [jQ,z]),ih f c hl,List.foldl_cons,tF c hx z]
      · rw [List.filter_cons_of_pos (by simp [jQ,z]),List.foldl_cons,List.foldl_cons,ih _ c' hl]
  exact go l (0,1) ⟨by decide,by decide⟩ h
theorem bY {D w:Int} (hD:0 < D) (hw:0 < w):0 < D / (Int.gcd D w:Nat)*w∧D ∣ D / (Int.gcd D w:Nat)*w∧w ∣ D / (Int.gcd D w:Nat)*w∧(D / (Int.gcd D w:Nat)*w).natAbs≤(D*w).natAbs:=by
  have g0:(0:Int) < (Int.gcd D w:Nat):=by have:=Int.gcd_pos_of_ne_zero_right D (show w≠0 by omega); omega
  have dl:=Int.gcd_dvd_left D w
  have dr:=Int.gcd_dvd_right D w
  generalize ((Int.gcd D w:Nat):Int)=g at *
  obtain ⟨q,rfl⟩:=dl
  obtain ⟨p,rfl⟩:=dr
  rw [Int.mul_ediv_cancel_left q (show g≠0 by omega)]
  have q0:0 < q:=Int.pos_of_mul_pos_right hD g0
  refine ⟨Pol.pp q0 hw,⟨p,by grind⟩,Int.dvd_mul_left ..,?_⟩
  rw [Int.natAbs_mul,Int.natAbs_mul (g*q)]
  refine Nat.mul_le_mul_right _ ?_
  have:1*q≤g*q:=Int.mul_le_mul_of_nonneg_right (by omega) (by omega)
  omega
theorem rG {α:Type} (x:α):∀ n:Nat,(List.replicate n [x]).flatten=List.replicate n x
  | 0=>rfl
  | n+1=>by rw [List.replicate_succ,List.flatten_cons,rG x n]; rfl
theorem js {P:F2→Prop}:∀ {xs ys:List Tr},Paired (fun _ y=>∃ w,y=fT w∧P w) xs ys→∃ ws:List F2,ys=ws.map fT∧(∀ w∈ws,P w)∧ws.length=xs.length
  | _,_,.nil=>⟨[],rfl,fun _ h=>(nomatch h),rfl⟩
  | _,_,.cons ⟨w,e,hw⟩ r=>by
    obtain ⟨ws,e2,h,l⟩:=js r
    exact ⟨w::ws,by rw [e,e2]; rfl,fun v hv=>by rcases List.mem_cons.mp hv with rfl | hv; exact hw; exact h v hv,by simp [l]⟩
theorem ph {α:Type} {f:α→Tr} {n:Nat} {l:List α} {w:α} (hn:n < l.length):o7 (l.map f) (f w) (n:Int)=some ((l.set n w).map f):=by
  show (if n < (l.map f).length then some ((l.map f).set n (f w)) else none)=_
  rw [if_pos (by rw [List.length_map]; exact hn),List.map_set]
theorem aM {α:Type} {f:α→Tr} {i n:Nat} {di:DE} {τ:TSt} {KK:TSt→Prop} {l:List α} {w:α} (h:nth τ i=.ow (l.map f)) (hn:n < l.length) (hd:∀ KK':Tr→Prop,KK' (.int n)→di τ KK') (k:KK (τ.set i (.ow ((l.set n w).map f)))):xbA i di (f w) τ KK:=by
  unfold xbA
  rw [h]
  refine hd _ ?_
  have e:o7 (l.map f) (f w) (n:Int)=some ((l.set n w).map f):=by
    show (if n < (l.map f).length then some ((l.map f).set n (f w)) else none)=_
    rw [if_pos (by rw [List.length_map]; exact hn),List.map_set]
  show match o7 (l.map f) (f w) (n:Int) with | some us=>KK (τ.set i (.ow us)) | none=>False
  rw [e]
  exact k
theorem lu {α:Type} (ts:List α):qp ts none (some (-1))=ts.take (ts.length-1):=by
  unfold qp
  have e:HT.sIx ts.length ts.length (some (-1))=ts.length-1:=by
    show (if (-1:Int) < 0 then ((-1:Int)+(ts.length:Int)).toNat else min (-1:Int).toNat ts.length)=_
    rw [if_pos (by decide)]; omega
  rw [e,HT.fe,List.drop_zero,Nat.sub_zero]
theorem pB {α:Type} (ts:List α):(qp ts none (some (-1))).length=ts.length-1:=by
  rw [lu,List.length_take]; omega
instance (a b:F2):Decidable (vZ a b):=by unfold vZ; infer_instance
def jS (l:List (Pol.R3 × F2)):Tr:=trR ((wsum k0 l).1,(wsum k1 l).1,(wsum k2 l).1.fdiv (wsum k2 l).2)
def lx:TSp:=fun ts KK=>∃ (rows:List Pol.R3) (ws:List F2),ts=[.tup (rows.map trR),.tup (ws.map fT)]∧WS rows ws∧KK (if vZ (wsum k0 (rows.zip ws)) (wsum k1 (rows.zip ws)) then jS (rows.zip ws) else .non)
theorem WS.bot {rows:List Pol.R3} {ws:List F2} (H:WS rows ws):0 < (wsum k2 (rows.zip ws)).2∧Bd (wsum k2 (rows.zip ws)).2:=by
  have f:=g9 k2 (rows.zip ws) fun x hx=>⟨(H.zip hx).2.sm,(H.zip hx).1.2⟩
  have:(rows.zip ws).length≤8:=by rw [List.length_zip]; have:=H.l100; omega
  exact ⟨f.pos,(f.bot.mono (show 1+51*(rows.zip ws).length≤500 by omega)).bd⟩
def wsT (ws:List F2):Tr:=.tup (ws.map fT)
def GW (n:Nat) (ws:List F2):Prop:=ws.length=n∧∀ w∈ws,Wt w
theorem LF.ws {rows:List Pol.R3} {ws:List F2} (hF:LF rows) (h:GW rows.length ws):WS rows ws:=⟨h.1.symm,hF.l8,fun r hr=>by
  have:=hF.sm r hr
  exact ⟨⟨by unfold Bk; omega,by unfold Bk; omega⟩,by unfold Bk; omega⟩,h.2⟩
end L2
namespace L2
open PySem PySem.Spec PySem.Calls PyProof.Rows
theorem cJ {B:Heap} {l:List Env} {e:Addr} {cls a0:Value} {h:Heap} (f:Heap.FlyingW B l e cls a0 h) (o:Obj):Heap.FlyingW B l e cls a0 (h.push o):=by
  obtain ⟨h1,h2,h3,oe,vs,T,oT,ts,t1,t2,t3,t4,t5,t6,t7,t8⟩:=f
  have k:∀ b u,h.get? b=some u→(h.push o).get? b=some u:=fun b u q=>Heap.get?_push_of_some _ q
  exact ⟨fun b u q=>k b u (h1 b u q),h2,h3.of_keeps (fun b u q _=>⟨u,k b u q,rfl⟩),oe,vs,T,oT,ts,k _ _ t1,t2,t3,t4,t5,t6,k _ _ t7,t8⟩
section
variable {X:Cx} {pins:List (Addr × Obj)} {σ:St} {H H':Hp} {s s':Shared} {ea C:Addr}
theorem SP.unmarked {e:Value} {D:Ends} {f:Flow} (hd:X.calm=true→X.A.handled=none) (h:SP (X.marked e) pins D f s):SP X pins D f s:=by
  cases f with
  | next=>obtain ⟨a,b,I,q⟩:=h; exact ⟨a,b,I.unmarked hd,q⟩
  | brk=>obtain ⟨a,b,I,q⟩:=h; exact ⟨a,b,I.unmarked hd,q⟩
  | cont=>obtain ⟨a,b,I,q⟩:=h; exact ⟨a,b,I.unmarked hd,q⟩
  | ret u=>obtain ⟨v,a,b,I,r,q⟩:=h; exact ⟨v,a,b,I.unmarked hd,r,q⟩
theorem n6 {ca cb:Str} {DA DB:Addr} {pa pb tp hp:Pos} {tk:Nat} {b₀:Stmt} {bs:List Stmt} {tb:TS} {D:Ends} {E:Value→Shared→Prop} (hst:X.stack=X.env::X.outer) (hfr:X.env.frame=some X.env.locals)
    (hga:Gl X ca) (hma:X.mg ca=some (.ref DA)) (hgb:Gl X cb) (hmb:X.mg cb=some (.ref DB)) (hx:PySem.W.exmAny X.K (.ref C) [.ref DA,.ref DB]=some true)
    (hda:(ca == ("__debug__" : Str))=false) (hdb:(cb == ("__debug__" : Str))=false) (hb:∀ e,PSs (X.marked e) (b₀::bs) tb)
    (I:Inv X pins σ H s) (F:Fl X.prog X.w X.stack H s ea C H' s') (k:tb D σ H') :
    wpAny (model X.prog X.w) X.A (noteFrame (.ref ea) X.env) (fun _ s₂=>wpAny (model X.prog X.w) X.A (setFlight (.ref ea) none) (fun _ s₃ =>
      wpAny (model X.prog X.w) X.A (handleBy (.ref ea) X.env [.ExceptHandler (some (.Tuple [.Name ca pa,.Name cb pb] tk tp)) none (b₀::bs) hp]) (SP X pins D) E s₃) E s₂) E s':=by
  obtain ⟨os,bare,un,hok,B,t,fl,kB,tB,trB⟩:=F
  have fr:X.A.frames=some (X.env::X.outer):=by rw [← hst]; exact I.ok.frames
  have fl0:=fl
  have inv:∀ h,Heap.FlyingW B X.stack ea (.ref C) (.ref t) h→s'.heap.UpToSlots h→Inv X pins σ H' { s' with heap:=h }:=fun h f2 up =>
    I.call' (s':={ s' with heap:=h }) (ch:=[]) os (xbd un kB tB fl0.2.2.1 f2.1 up) (hok.of_fly fl0.1 f2.1 trB) bare (fun b z=>absurd z (by simp))
  have isof:∀ h,Heap.FlyingW B X.stack ea (.ref C) (.ref t) h→xcw ea C h:=fun h f2=>f2.there
  rw [hst] at fl
  refine wpAny_looks_onW fr hfr fl fun h4 held4 up4=>?_
  refine wpAny_landsW held4 fun h5 fl5 up5=>?_
  have up45:=up4.trans up5
  have fl5':Heap.FlyingW B X.stack ea (.ref C) (.ref t) h5:=by rw [hst]; exact fl5
  have I5:=inv h5 fl5' up45
  refine wpAny_handleBy_cons (codeAny_handlers_test ?_) (by intro q; cases q)
  refine Tuple_ ?_
  refine Calls.spliced_cons (qM (X:=X.marked (.ref ea)) (s:={ s' with heap:=h5 }) I5.marked hga hma ?_ hda)
  refine Calls.spliced_cons (qM (X:=X.marked (.ref ea)) (s:={ s' with heap:=h5 }) I5.marked hgb hmb ?_ hdb)
  refine Calls.spliced_nil ?_
  refine wpAny_newObj_type ?_ (by show 2≤sizeLine; decide)
  have fl6:=cJ fl5' { cls:=.type "tuple", data:=.seq [Value.ref DA,Value.ref DB].toArray }
  have up6:s'.heap.UpToSlots (h5.push { cls:=.type "tuple", data:=.seq [Value.ref DA,Value.ref DB].toArray }):=fun b o e n=>by
    obtain ⟨sl,e2⟩:=up45 b o e n
    exact ⟨sl,Heap.get?_push_of_some _ e2⟩
  have I6:=inv _ fl6 up6
  refine PySem.W.Looks.here (s:={ s' with heap:=h5.push { cls:=.type "tuple", data:=.seq [Value.ref DA,Value.ref DB].toArray } }) (PySem.W.exm_tup2 (K:=X.K) I6.kIn (isof _ fl6).ty (Heap.get?_push_size _ rfl) hx) ?_
  show codeAny _ _ (.handlers _ _ X.env) _ _
  refine codeAny_handlers_suite ?_
  have fl6s:=fl6
  rw [hst] at fl6s
  refine lands_againW fl6s fun h7 fl7 up7=>?_
  have fl7':Heap.FlyingW B X.stack ea (.ref C) (.ref t) h7:=by rw [hst]; exact fl7
  have I7:=(inv h7 fl7' (up6.trans up7)).marked (e:=.ref ea)
  exact wpAny_mono (hb (.ref ea) _ σ H' D I7 k) (fun f s8 h8=>h8.unmarked I.ok.hd) (fun _ _ z=>z.elim)
def xa4 (sp:Sp) (C:Addr) (t:TA) (tb:TS):TS:=fun D σ H=>t σ H fun vs H1=>sp vs H1 (fun _ _=>False) fun c _ H'=>c=.ref C∧tb D σ H'
theorem m_ {k j:Nat} {x:Str} {ps:List Str} {sp:Sp} {p cp cmp rp tp0:Pos} {e:Expr} {es:List Expr} {t:TA} {op:CmpOp} {e2:Expr} {ca cb:Str} {DA DB:Addr} {pa pb tp hp:Pos} {tk:Nat} {b₀:Stmt} {bs:List Stmt} {tb:TS}
    (h:sk X.prog X.w X.K X.mg X.base j x ps sp) (hr:qI k X.A) (ha:PA X (e::es) t) (hx0:∀ v s,¬ X.xe v s)
    (hst:X.stack=X.env::X.outer) (hfr:X.env.frame=some X.env.locals)
    (hma:X.mg ca=some (.ref DA)) (hmb:X.mg cb=some (.ref DB)) (hx:PySem.W.exmAny X.K (.ref C) [.ref DA,.ref DB]=some true) (hb:∀ e,PSs (X.marked e) (b₀::bs) tb)
    (hga:Gl X ca:=by rfl) (hgb:Gl X cb:=by rfl) (hda:(ca == ("__debug__" : Str))=false:=by decide) (hdb:(cb == ("__debug__" : Str))=false:=by decide)
    (hjk:j≤k:=by decide) (hg:Gl X x:=by rfl) (hdx:(x == ("__debug__" : Str))=false:=by decide) (he:starEach (e::es) X.env=(false,eval e X.env)::starEach es X.env:=by rfl) (hpl:(backTo cp (starEach es X.env)).any (·.1)=false:=by rfl) (hmk:behindInMarks op e2=false:=by rfl) :
    PS X (.Try [.Return (some (.Compare (.Call (.Name x p) (e::es) [] cp) [op] [e2] cmp)) rp] [.ExceptHandler (some (.Tuple [.Name ca pa,.Name cb pb] tk tp)) none (b₀::bs) hp] [] [] tp0) (xa4 sp C t tb):=by
  obtain ⟨f,fd,F,b,kp,m⟩:=(h.mono hjk).ex
  intro pins s σ H D I q
  refine wpAny_Try_except ?_
  refine wpAny_execs_cons (wpAny_Return_some (wpAny_Compare1 ?_ hmk))
  refine wpAny_Call_Name_kw (qM I hg m ?_ hdx)
  refine PySem.W.callWith_K (h₀:=X.base) I.ok.mod.kin kp (wpAny_mono (@ha cp pins s σ H _ I q) (fun us s1 ⟨vs,H1,I1,r,q1⟩=>⟨I1.kIn,?_⟩) fun v s z=>(hx0 v s z).elim) he hpl
  have hl:us.length=ps.length:=by rw [← r.length]; exact F.len _ _ _ _ q1
  refine wpAny_call (codeAny_mono (F.run X.A X.stack s1 H1 ⟨us,[]⟩ us vs _ _ hr I1.env0 (by have:=b s1 us I1.kIn (by simpa using hl); simpa using this) r q1) fun rr s' hq=>?_)
  cases rr with
  | ok fl =>
    cases fl with
    | ret u=>obtain ⟨_,_,_,_,_,_,_,z⟩:=hq; exact z.elim
    | next=>exact hq.elim
    | brk=>exact hq.elim
    | cont=>exact hq.elim
  | error ee =>
    obtain ⟨ea,C',H',rfl,Fl',q2,q3⟩:=hq
    cases q2
    exact n6 hst hfr hga hma hgb hmb hx hda hdb hb I1 Fl' q3
theorem mY {e:Expr} {te:TE} {rp tp0:Pos} {h₀:ExceptHandler} {hs:List ExceptHandler} (he:PE X e te) (hx0:∀ v s,¬ X.xe v s):PS X (.Try [.Return (some e) rp] (h₀::hs) [] [] tp0) (xae te):=by
  intro pins s σ H D I q
  refine wpAny_Try_except ?_
  refine wpAny_mono ((xl (xN he)) s σ H D I q) (fun f s1 h1=>?_) fun v s z=>(hx0 v s z).elim
  cases f with
  | next=>exact wpAny_execs_nil h1
  | brk=>exact h1
  | cont=>exact h1
  | ret u=>exact h1
end
end L2
namespace L2
open PySem PySem.Spec PyProof.Rows
section
variable {X:Cx} {a b:Expr} {rest:List Expr} {ta tb:TE} {pos:Pos}
def xcX (K:PySem.W.Frag) (ta tb:TE):TE:=fun σ H Q=>ta σ H fun x H1=>∃ k,xbM K x H1 k∧if k=true then Q x H1 else tb σ H1 Q
theorem xaR (K:PySem.W.Frag) (ha:PE X a ta) (hb:PE X (.BoolOp .Or (b::rest) pos) tb) (e:X.K=K:=by rfl):PE X (.BoolOp .Or (a::b::rest) pos) (xcX K ta tb):=by
  subst e
  intro pins s σ H Q I h
  refine BoolOp_or (thn (@ha pins s σ H _ I h) fun v s1 ⟨x,H1,I1,r1,q1⟩=>?_)
  obtain ⟨k,tv,q⟩:=q1
  refine thn (xaj pins s1 σ H1 x v (fun c H2=>c=k∧H2=H1) I1 r1 ⟨k,tv,rfl,rfl⟩) fun c s2 ⟨H2,I2,e1,e2⟩=>?_
  subst e1 e2
  cases c with
  | false=>exact @hb pins s2 σ H2 Q I2 (by simpa using q)
  | true=>exact ⟨x,H2,I2,r1,by simpa using q⟩
end
def trT:Tr→Option Bool
  | .non=>some false
  | .bl b=>some b
  | .int i=>some (i != 0)
  | .tup ts=>some (!ts.isEmpty)
  | .lst ts=>some (!ts.isEmpty)
  | .emp=>some false
  | .str _=>none
section
variable {K:PySem.W.Frag} {fr:Bool}
theorem h_ {F:Addr→Prop} {H:Hp} {ts:List Tr} {ws:List V} (h:zm F H ts ws):(!ts.isEmpty) = !ws.isEmpty:=by
  have:=h.len
  cases ts <;> cases ws <;> simp_all
theorem m9 {F:Addr→Prop} {H:Hp} {t:Tr} {v:V} {k:Bool} (r:Rep F H t v) (h:trT t=some k):xbM K v H k:=by
  cases t with
  | non=>cases (show v=.non from r); cases h; rfl
  | bl b=>cases (show v=.bl b from r); cases h; rfl
  | int i=>cases (show v=.int i from r); cases h; rfl
  | str x=>cases h
  | emp=>obtain ⟨p,e,_,hp⟩:=r; subst e; cases h; exact .inr (.inr ⟨[],hp,rfl⟩)
  | tup ts=>obtain ⟨p,ws,e,_,hp,rl⟩:=r; subst e; cases h; exact .inr (.inl ⟨ws,SqT.of hp,h_ rl⟩)
  | lst ts=>obtain ⟨p,ws,e,_,hp,rl⟩:=r; subst e; cases h; exact .inl ⟨ws,SqL.of hp,h_ rl⟩
def xdp (a b:DE):DE:=fun τ KK=>a τ fun x=>match trT x with | some true=>KK x | some false=>b τ KK | none=>False
theorem xaE {b:Bool} {ta tb:TE} {da db:DE} (ha:OkE K b ta da) (hb:OkE K b tb db):OkE K b (xcX K ta tb) (xdp da db):=fun B φ σ τ H Q KK R hd q =>
  ha B φ σ τ H _ _ R hd fun t v H1 x1 k1 r1=>by
    split at k1
    · rename_i e
      exact ⟨true,m9 r1 e,tW (q _ _ H1 x1 k1 r1)⟩
    · rename_i e
      exact ⟨false,m9 r1 e,aC (hb B φ σ τ H1 _ _ (R.hx x1) k1 fun d w H2 x2 k2 r2=>q d w H2 (x1.trans x2) k2 r2)⟩
    · exact k1.elim
def xbQ (da:DA) (R:List Tr→Prop) (db:DS):DS:=fun G τ=>da τ fun ts=>R ts∧db G τ
theorem aF {b:Bool} {n:Nat} {C:Addr} {R:List Tr→Prop} {ta:TA} {da:DA} {tb:TS} {db:DS} (ha:OkA K b n ta da) (hb:OkS K fr tb db):OkS K fr (xa4 (spX n C R) C ta tb) (xbQ da R db):=fun B φ σ τ H E G Rs hd e =>
  ha B φ σ τ H _ _ Rs hd fun ts vs H1 x1 k1 l1 r1=>⟨AvB b B φ τ,SA B φ τ,ts,vs,rfl,fun a z=>(Rs.hx x1).domB z,fun a z=>Rs.sB z,x1.st,r1,l1,k1.1,fun H2 k st=>⟨rfl,hb B φ σ τ H2 _ _ ((Rs.hx x1).hx ⟨k,st⟩) k1.2 e⟩⟩
end
section
variable {P:Program} {w:World} {K:PySem.W.Frag} {mg:Str→Option Value} {base:Heap} {k n:Nat} {x qual:Str} {st:Stmt} {f:Addr} {fd:FuncData} {N ps:List Str} {fr:Bool} {sp:TSp}
theorem nS (F:Fun K x qual st f fd) (S:xI N ps (xk st)) (mgx:mg x=some (.ref f)) (b:Binds K fd ps []) (hn:ps.length=n)
    (body:∀ (cdv:Value) (A:Around) (outer:List Env) (s:Shared) (H:Hp) (E:XK),qI k (A.deeper (envOfC qual (xk st) s.heap.objs.size f cdv))→∀ ts KK,ts.length=n→sp ts KK →
      ∃ T D,PSs (kK CX0 P w K mg base N qual (xk st) f cdv A outer s H E).nox (yF st) T∧OkS K fr T D∧D { nx:=fun _=>fr=false∧KK .non,rt:=KK } (startT N false ts)) :
    Own P w K mg base (k+1) x ps (spT n false fr sp):=by
  have hpl:ps.length≤N.length:=by have:=congrArg List.length S.pre; rw [List.length_take] at this; omega
  refine hG F S mgx b (fun vs H Q E h=>?_) (fun cdv A outer s H vs Q E hr h=>?_)
  · obtain ⟨F',S',ts,KK,us,e,_,_,_,r,l,_⟩:=h
    cases (show vs=us from e)
    rw [← r.len,l,hn]
  · obtain ⟨F',S',ts,KK,us,e,hF,hS,hst,r,l,hsp,q⟩:=h
    cases (show vs=us from e)
    obtain ⟨T,D,ht,hd,h⟩:=body cdv A outer s H E hr ts KK l hsp
    refine ⟨T,ht,hd _ _ _ _ H _ _ (jH hF hS hst r (by omega)) h ⟨fun φ σ τ H1 R k=>?_,fun _ _ _ _ _ z=>z.elim,fun _ _ _ _ _ z=>z.elim,fun t v H1 r1 x k fl=>?_⟩⟩
    · obtain ⟨k1,k2⟩:=k
      exact q .non .non H1 k2 R.ext (fun a z=>R.sst a (.inl z)) rfl fun z=>by rw [k1] at z; cases z
    · exact q t v H1 k x.ext x.st r1 fl
end
end L2
namespace L2
open PySem
def xc6:Tr→F2
  | .tup [.int a,.int b]=>(a,b)
  | _=>(0,1)
def xbE:Tr→List F2
  | .tup us=>us.map xc6
  | _=>[]
theorem rO (ws:List F2):xbE (wsT ws)=ws:=by
  show (ws.map fT).map xc6=ws
  rw [List.map_map]
  exact (List.map_congr_left (g:=id) fun w _=>rfl).trans (List.map_id _)
def cP (rows:List Pol.R3) (w r:Tr):Bool:=decide (vZ (wsum k0 (rows.zip (xbE w))) (wsum k1 (rows.zip (xbE w)))) && teq (jS (rows.zip (xbE w))) r
def ud (rows:List Pol.R3):Tr→Bool
  | .tup [w,r]=>(wA r && gv rows.length w) && cP rows w r
  | _=>false
def d_ (n:Nat) (t:Tr):Prop:=∀ w r,t=.tup [w,r]→(pln w=true∧pln r=true)∧(gv n w=true→∃ ws,w=wsT ws∧GW n ws)
def aB:TSp:=fun ts KK=>∃ (rows:List Pol.R3) (t:Tr),ts=[.tup (rows.map trR),t]∧xG rows=true∧d_ rows.length t∧KK (.bl (ud rows t))
theorem xa9.ws {rows:List Pol.R3} {ws:List F2} (hf:xG rows=true) (h:GW rows.length ws):WS rows ws:=⟨h.1.symm,(xa9 hf).1.2,fun r hr=>fw ((xa9 hf).2.1 r hr).2,h.2⟩
theorem jl {t:Tr} (h:wA t=true):∃ r:Pol.R3,t=trR r∧(r.1≠0∨r.2.1≠0):=by
  unfold wA at h
  split at h
  · rename_i r e
    exact ⟨r,ue e,of_decide_eq_true h⟩
  · cases h
def pY:TSp:=fun ts KK=>∃ t,ts=[t]∧KK (.bl (uN t))
def nB:TSp:=fun ts KK=>∃ (rows:List Pol.R3) (t:Tr),ts=[.tup (rows.map trR),t]∧(rows.length≤8∧∀ r∈rows,B3k 10 r)∧d_ rows.length t∧KK (.bl (ud rows t))
def rh:TSp:=fun ts KK=>∃ (rows:List Pol.R3) (ws:List F2) (r:Pol.R3),ts=[.tup (rows.map trR),wsT ws,trR r]∧(3≤rows.length∧rows.length≤8)∧GW rows.length ws∧B3k 600 r∧∀ t,d_ rows.length t→KK t
theorem bM {n:Nat} {ws:List F2} {r:Tr} (h:GW n ws) (hr:pln r=true):d_ n (.tup [wsT ws,r]):=fun w r' e=>by
  cases e
  exact ⟨⟨vn fT p7 ws,hr⟩,fun _=>⟨ws,rfl,h⟩⟩
theorem qN {n:Nat} {t:Tr} (h:∀ w r,t≠.tup [w,r]):d_ n t:=fun w r e=>absurd e (h w r)
theorem kM {n:Nat} {w r:Tr} (hw:pln w=true) (hr:pln r=true) (h:gv n w=false):d_ n (.tup [w,r]):=fun w' r' e=>by
  cases e
  exact ⟨⟨hw,hr⟩,fun z=>by rw [h] at z; cases z⟩
theorem aO {n:Nat} {us:List Tr} (h:us.length≠n):gv n (.tup us)=false:=by
  show (decide (us.length=n) && us.all wtT)=false
  rw [decide_eq_false h,Bool.false_and]
theorem aA {n:Nat} {us:List Tr} {u:Tr} (hu:u∈us) (h:wtT u=false):gv n (.tup us)=false:=by
  show (decide (us.length=n) && us.all wtT)=false
  rw [Bool.and_eq_false_iff]
  exact .inr (Bool.eq_false_iff.mpr fun z=>by have:=List.all_eq_true.mp z u hu; rw [h] at this; cases this)
theorem xar {u:Tr}:wtT u=(uN u && match u with | .tup [.int a,.int _]=>decide (0≤a) | _=>false):=by
  unfold wtT uN
  split
  · rfl
  · first
    | rfl
    | (rename_i h
       split
       · rename_i a b
         exact absurd rfl (h a b)
       · rfl)
theorem rY {u:Tr} (h:uN u=true):∃ a b:Int,u=.tup [.int a,.int b]:=by
  unfold uN at h
  split at h
  · exact ⟨_,_,rfl⟩
  · cases h
theorem nM {us:List Tr} (h:us.all tU=true) (l:us.length=3):∃ r:Pol.R3,Tr.tup us=trR r:=by
  match us,l with
  | [x,y,z],_ =>
    simp only [List.all_cons,List.all_nil,Bool.and_true,Bool.and_eq_true] at h
    obtain ⟨h1,h2,h3⟩:=h
    cases x with
    | int a =>
      cases y with
      | int b =>
        cases z with
        | int c=>exact ⟨(a,b,c),rfl⟩
        | _=>exact absurd h3 Bool.false_ne_true
      | _=>exact absurd h2 Bool.false_ne_true
    | _=>exact absurd h1 Bool.false_ne_true
theorem ky {us:List Tr} (h:us.all tU=false∨us.length≠3):wA (.tup us)=false:=by
  refine Bool.eq_false_iff.mpr fun z=>?_
  obtain ⟨r,e,_⟩:=jl z
  injection e with e
  rw [e] at h
  rcases h with h | h
  · cases h
  · exact h rfl
end L2
namespace K10
open PySem L2
def top (i:Nat):Stmt:=PySem.Challenge.pw_roundcuts_k10_papers_looked_over.main.body.getD i (.Pass ⟨0,0,0,0⟩)
abbrev q8:Stmt:=top 6
abbrev uA:Stmt:=top 7
abbrev uC:Stmt:=top 8
abbrev zD:Stmt:=top 9
abbrev fj:Stmt:=top 10
abbrev wX:Stmt:=top 13
abbrev vk:Stmt:=top 14
abbrev qJ:Stmt:=top 15
abbrev uF:Stmt:=top 16
abbrev vY:Stmt:=top 17
abbrev gZ:Stmt:=top 18
abbrev zw:Stmt:=top 19
abbrev ve:Stmt:=top 20
abbrev qU:Stmt:=top 21
abbrev gz:Stmt:=top 23
abbrev jm:Stmt:=top 24
abbrev qY:Stmt:=top 25
abbrev kq:Stmt:=top 26
abbrev uz:Stmt:=top 27
abbrev uf:Stmt:=top 29
abbrev wM:Stmt:=top 30
abbrev qt:Stmt:=top 31
abbrev uS:Stmt:=top 32
abbrev kL:Stmt:=top 34
abbrev wc:Stmt:=top 35
abbrev kR:Stmt:=top 36
abbrev wu:Stmt:=top 37
abbrev qw:Stmt:=top 38
abbrev kP:Stmt:=top 39
abbrev kb:Stmt:=top 40
abbrev wR:Stmt:=top 42
abbrev uZ:Stmt:=top 43
abbrev vV:Stmt:=top 44
abbrev zW:Stmt:=top 45
abbrev wV:Stmt:=top 46
abbrev kh:Stmt:=top 47
abbrev zQ:Stmt:=top 48
abbrev vN:Stmt:=top 49
abbrev uY:Stmt:=top 50
abbrev ux:Stmt:=top 51
abbrev qT:Stmt:=top 52
abbrev uR:Stmt:=top 53
abbrev zI:Stmt:=top 54
abbrev ub:Stmt:=top 55
abbrev vU:Stmt:=top 56
abbrev jO:Stmt:=top 57
theorem sj:xI ["thing"] ["thing"] (xk q8):=⟨rfl,rfl,rfl,by decide +kernel,rfl,by decide +kernel,by decide +kernel⟩
theorem dw:xI ["things"] ["things"] (xk uA):=⟨rfl,rfl,rfl,by decide +kernel,rfl,by decide +kernel,by decide +kernel⟩
theorem wN:xI ["thing", "top", "bottom"] ["thing"] (xk uC):=⟨rfl,rfl,rfl,by decide +kernel,rfl,by decide +kernel,by decide +kernel⟩
theorem zg:xI ["one", "other"] ["one", "other"] (xk zD):=⟨rfl,rfl,rfl,by decide +kernel,rfl,by decide +kernel,by decide +kernel⟩
theorem dI:xI ["top", "bottom", "shared"] ["top", "bottom"] (xk fj):=⟨rfl,rfl,rfl,by decide +kernel,rfl,by decide +kernel,by decide +kernel⟩
theorem jI:xI ["rows"] ["rows"] (xk wX):=⟨rfl,rfl,rfl,by decide +kernel,rfl,by decide +kernel,by decide +kernel⟩
theorem gP:xI ["rows"] ["rows"] (xk vk):=⟨rfl,rfl,rfl,by decide +kernel,rfl,by decide +kernel,by decide +kernel⟩
theorem vQ:xI ["piece", "rows", "row"] ["piece", "rows"] (xk qJ):=⟨rfl,rfl,rfl,by decide +kernel,rfl,by decide +kernel,by decide +kernel⟩
theorem fK:xI ["piece"] ["piece"] (xk uF):=⟨rfl,rfl,rfl,by decide +kernel,rfl,by decide +kernel,by decide +kernel⟩
theorem zk:xI ["piece", "row", "left", "at", "corner", "before", "crossing"] ["piece", "row"] (xk vY):=⟨rfl,rfl,rfl,by decide +kernel,rfl,by decide +kernel,by decide +kernel⟩
theorem we:xI ["row", "corner", "a", "b", "c", "x", "y", "bottom"] ["row", "corner"] (xk gZ):=⟨rfl,rfl,rfl,by decide +kernel,rfl,by decide +kernel,by decide +kernel⟩
theorem yu:xI ["row", "one", "other", "one_off", "other_off", "x", "y", "bottom", "shared"] ["row", "one", "other"] (xk zw):=⟨rfl,rfl,rfl,by decide +kernel,rfl,by decide +kernel,by decide +kernel⟩
theorem zq:xI ["piece", "start", "at", "corner"] ["piece"] (xk ve):=⟨rfl,rfl,rfl,by decide +kernel,rfl,by decide +kernel,by decide +kernel⟩
theorem ao:xI ["one", "other"] ["one", "other"] (xk qU):=⟨rfl,rfl,rfl,by decide +kernel,rfl,by decide +kernel,by decide +kernel⟩
theorem nQ:xI ["thing"] ["thing"] (xk gz):=⟨rfl,rfl,rfl,by decide +kernel,rfl,by decide +kernel,by decide +kernel⟩
theorem tL:xI ["one", "other"] ["one", "other"] (xk jm):=⟨rfl,rfl,rfl,by decide +kernel,rfl,by decide +kernel,by decide +kernel⟩
theorem uo:xI ["rows", "first", "left", "right"] ["rows"] (xk qY):=⟨rfl,rfl,rfl,by decide +kernel,rfl,by decide +kernel,by decide +kernel⟩
theorem uD:xI ["first", "rows", "sign", "last", "row"] ["first", "rows", "sign"] (xk kq):=⟨rfl,rfl,rfl,by decide +kernel,rfl,by decide +kernel,by decide +kernel⟩
theorem vI:xI ["first", "rows", "row"] ["first", "rows"] (xk uz):=⟨rfl,rfl,rfl,by decide +kernel,rfl,by decide +kernel,by decide +kernel⟩
theorem sU:xI ["thing"] ["thing"] (xk uf):=⟨rfl,rfl,rfl,by decide +kernel,rfl,by decide +kernel,by decide +kernel⟩
theorem zB:xI ["thing", "a", "b", "c"] ["thing"] (xk wM):=⟨rfl,rfl,rfl,by decide +kernel,rfl,by decide +kernel,by decide +kernel⟩
theorem tz:xI ["place"] ["place"] (xk qt):=⟨rfl,rfl,rfl,by decide +kernel,rfl,by decide +kernel,by decide +kernel⟩
theorem gC:xI ["thing"] ["thing"] (xk uS):=⟨rfl,rfl,rfl,by decide +kernel,rfl,by decide +kernel,by decide +kernel⟩
theorem f_:xI ["field", "weights"] ["field", "weights"] (xk kL):=⟨rfl,rfl,rfl,by decide +kernel,rfl,by decide +kernel,by decide +kernel⟩
theorem jV:xI ["field", "thing"] ["field", "thing"] (xk wc):=⟨rfl,rfl,rfl,by decide +kernel,rfl,by decide +kernel,by decide +kernel⟩
theorem jC:xI ["rows", "weights", "tops", "bottom"] ["rows", "weights"] (xk kR):=⟨rfl,rfl,rfl,by decide +kernel,rfl,by decide +kernel,by decide +kernel⟩
theorem yp:xI ["rows", "weights", "used", "bottom", "row", "weight", "tops", "many"] ["rows", "weights"] (xk wu):=⟨rfl,rfl,rfl,by decide +kernel,rfl,by decide +kernel,by decide +kernel⟩
theorem jt:xI ["field", "weights"] ["field", "weights"] (xk qw):=⟨rfl,rfl,rfl,by decide +kernel,rfl,by decide +kernel,by decide +kernel⟩
theorem zU:xI ["totals", "a", "b", "c"] ["totals"] (xk kP):=⟨rfl,rfl,rfl,by decide +kernel,rfl,by decide +kernel,by decide +kernel⟩
theorem sA:xI ["field", "thing"] ["field", "thing"] (xk kb):=⟨rfl,rfl,rfl,by decide +kernel,rfl,by decide +kernel,by decide +kernel⟩
theorem ja:xI ["_law_script", "_law_k"] ["_law_script", "_law_k"] (xk wR):=⟨rfl,rfl,rfl,by decide +kernel,rfl,by decide +kernel,by decide +kernel⟩
theorem qo:xI ["_law_script", "_law_k", "_law_cell"] ["_law_script", "_law_k"] (xk uZ):=⟨rfl,rfl,rfl,by decide +kernel,rfl,by decide +kernel,by decide +kernel⟩
theorem wJ:xI ["_law_state_here", "_law_many", "_law_found", "_law_stirred"] ["_law_state_here", "_law_many"] (xk vV):=⟨rfl,rfl,rfl,by decide +kernel,rfl,by decide +kernel,by decide +kernel⟩
theorem xT:xI ["_law_state_here", "_law_way", "_law_rows", "_law_a", "_law_b", "_law_by", "_law_turn", "_law_near", "_law_k", "_law_some", "_law_u", "_law_v"] ["_law_state_here"] (xk zW):=⟨rfl,rfl,rfl,by decide +kernel,rfl,by decide +kernel,by decide +kernel⟩
theorem uW:xI ["_law_one", "_law_other"] ["_law_one", "_law_other"] (xk wV):=⟨rfl,rfl,rfl,by decide +kernel,rfl,by decide +kernel,by decide +kernel⟩
theorem vS:xI ["_law_top", "_law_bottom", "_law_by"] ["_law_top", "_law_bottom"] (xk kh):=⟨rfl,rfl,rfl,by decide +kernel,rfl,by decide +kernel,by decide +kernel⟩
theorem yJ:xI ["_law_state_here", "_law_rows", "_law_many", "_law_found", "_law_way", "_law_one", "_law_other", "_law_by"] ["_law_state_here", "_law_rows"] (xk zQ):=⟨rfl,rfl,rfl,by decide +kernel,rfl,by decide +kernel,by decide +kernel⟩
theorem fA:xI ["_law_one", "_law_other"] ["_law_one", "_law_other"] (xk vN):=⟨rfl,rfl,rfl,by decide +kernel,rfl,by decide +kernel,by decide +kernel⟩
theorem fh:xI ["_law_one", "_law_other"] ["_law_one", "_law_other"] (xk uY):=⟨rfl,rfl,rfl,by decide +kernel,rfl,by decide +kernel,by decide +kernel⟩
theorem zb:xI ["_law_rows", "_law_weights_here", "_law_found", "_law_row", "_law_weight", "_law_at"] ["_law_rows", "_law_weights_here"] (xk ux):=⟨rfl,rfl,rfl,by decide +kernel,rfl,by decide +kernel,by decide +kernel⟩
theorem uu:xI ["_law_rows", "_law_weights_here", "_law_a", "_law_b", "_law_c"] ["_law_rows", "_law_weights_here"] (xk qT):=⟨rfl,rfl,rfl,by decide +kernel,rfl,by decide +kernel,by decide +kernel⟩
theorem fm:xI ["_law_thing"] ["_law_thing"] (xk uR):=⟨rfl,rfl,rfl,by decide +kernel,rfl,by decide +kernel,by decide +kernel⟩
theorem qf:xI ["_law_thing"] ["_law_thing"] (xk zI):=⟨rfl,rfl,rfl,by decide +kernel,rfl,by decide +kernel,by decide +kernel⟩
theorem v9:xI ["_law_field_here", "_law_thing", "_law_weights_here", "_law_row"] ["_law_field_here", "_law_thing"] (xk ub):=⟨rfl,rfl,rfl,by decide +kernel,rfl,by decide +kernel,by decide +kernel⟩
theorem yk:xI ["_law_state_here", "_law_field_here", "_law_weights_here", "_law_row", "_law_a", "_law_b", "_law_c", "_law_at", "_law_odd", "_law_other", "_law_some"] ["_law_state_here", "_law_field_here", "_law_weights_here", "_law_row"] (xk vU):=⟨rfl,rfl,rfl,by decide +kernel,rfl,by decide +kernel,by decide +kernel⟩
theorem qm:xI ["_law_script", "_law_k", "_law_state_here", "_law_field_here", "_law_turn", "_law_weights_here", "_law_row", "_law_thing", "_law_found"] ["_law_script"] (xk jO):=⟨rfl,rfl,rfl,by decide +kernel,rfl,by decide +kernel,by decide +kernel⟩
abbrev bn:List Str:=["len", "range", "max", "min", "abs", "isinstance", "tuple", "list", "int", "bool", "str", "dict", "all", "zip", "enumerate", "ValueError"]
section
variable {P:Program} {w:World} {K:PySem.W.Frag} {mg:Str→Option Value} {base:Heap} {f:Addr} {fd:FuncData}
theorem jn (B:Blt mg bn) (F:Fun K "_law_cell_at" "_law_cell_at" wR f fd) (m:mg "_law_cell_at" = some (.ref f)) (b:Binds K fd ["_law_script", "_law_k"] []):Own P w K mg base 1 "_law_cell_at" ["_law_script", "_law_k"] (pQ K):=by
  refine hG F ja m b (fun vs H Q E h=>?_) (fun cdv A outer s H vs Q E hr h=>?_)
  · obtain ⟨a,ns,k,rfl,_⟩:=h
    rfl
  obtain ⟨a,ns,k,rfl,hS,h63,h0,q⟩:=h
  refine ⟨_,(xj (yK (xQ xby (pv 1) (xC (yf K) rfl (B.get "len") zd (xc (pv 0) xh)) (xR _)) (xl (xN (xP (wI K) (pv 0) (pv 1) (fun _ _=>rfl)))) yb)
    (xl (xN xi))),?_⟩
  refine ⟨_,rfl,_,rfl,a,_,rfl,.inl hS,_,_,rfl,rfl,_,rfl,?_⟩
  have hl:(ns.map V.int).length=ns.length:=List.length_map _
  refine xcP (fun c=>?_) (fun c=>?_)
  · have c':=of_decide_eq_true c
    rw [hl] at c'
    obtain ⟨v,hv⟩:=bX h0 c'
    exact ⟨_,rfl,_,rfl,a,_,_,_,rfl,rfl,hS,hv,q v⟩
  · exact q 0
theorem gx (F:Fun K "_law_state" "_law_state" uZ f fd) (m:mg "_law_state" = some (.ref f)) (b:Binds K fd ["_law_script", "_law_k"] []) (wU:Own P w K mg base 1 "_law_cell_at" ["_law_script", "_law_k"] (pQ K)) :
    Own P w K mg base 2 "_law_state" ["_law_script", "_law_k"] (s9 K):=by
  refine hG F qo m b (fun vs H Q E h=>?_) (fun cdv A outer s H vs Q E hr h=>?_)
  · obtain ⟨a,ns,k,rfl,_⟩:=h
    rfl
  obtain ⟨a,ns,k,rfl,hS,h63,h0,q⟩:=h
  refine ⟨_,(xj (yc (i:=2) qo.nd rfl (Or.inl rfl) (xt wU hr (xc (pv 0) (xc (pv 1) xh))))
    (xj (yK (xQ lh (pv 2) (xF oF xi xi) (xR _)) (xl (xN (yU (xc (xF zy (pv 2) (xF oF xi xi)) (xc zS xh))))) yb)
    (xl (xN (yU (xc (xF j3 (pv 2) xi) (xc zS xh))))))),?_⟩
  refine ⟨_,rfl,_,rfl,a,ns,k,rfl,hS,h63,h0,fun n=>?_⟩
  have pw:xcR 10 18:=⟨by decide,by decide,by decide⟩
  refine ⟨_,rfl,_,_,rfl,rfl,pw,_,_,rfl,rfl,_,rfl,?_⟩
  refine xcP (fun c=>?_) (fun c=>?_)
  · have c':n≥10 ^ (18:Int).toNat:=of_decide_eq_true c
    refine ⟨_,rfl,_,_,rfl,rfl,pw,_,_,rfl,rfl,(by show 2≤sizeLine; decide),fun p hp=>q p _ _ hp ⟨?_,fun z=>by cases z⟩⟩
    show 0≤n-10 ^ (18:Int).toNat
    omega
  · refine ⟨_,rfl,_,_,rfl,rfl,(by show (0:Int) < 2147483647; decide),(by show 2≤sizeLine; decide),fun p hp=>q p _ _ hp ⟨?_,fun _=>?_⟩⟩
    · show 0≤n % 2147483647
      omega
    · show n % 2147483647 < 2147483647
      omega
theorem dJ (F:Fun K "_law_take" "_law_take" vV f fd) (m:mg "_law_take" = some (.ref f)) (b:Binds K fd ["_law_state_here", "_law_many"] []):Own P w K mg base 1 "_law_take" ["_law_state_here", "_law_many"] og:=by
  refine hG F wJ m b (fun vs H Q E h=>?_) (fun cdv A outer s H vs Q E hr h=>?_)
  · obtain ⟨p,k,rfl,_⟩:=h
    rfl
  obtain ⟨p,many,rfl,⟨n,bb,hp,hn,hb⟩,h0,h1,q⟩:=h
  refine ⟨_,(xj (yK (yB (xP (wI K) (pv 0) xi (fun _ _=>rfl))) (xj (yc (i:=2) wJ.nd rfl (Or.inl rfl) (xF j3 (xP (wI K) (pv 0) xi (fun _ _=>rfl)) (pv 1)))
    (xj (zE (xF rQ (xP (wI K) (pv 0) xi (fun _ _=>rfl)) (pv 1)) (hJ (pv 0) xi set_list))
    (xl (xN (pv 2))))) yb)
    (xj (zE (xF j3 (xF zp (xF fD (xP (wI K) (pv 0) xi (fun _ _=>rfl)) xi) xi) xi) (hJ (pv 0) xi set_list))
    (xj (yc (i:=3) wJ.nd rfl (Or.inl rfl) (xF j3 (xF zp (xF zp (xF fD (xP (wI K) (pv 0) xi (fun _ _=>rfl)) (xP (wI K) (pv 0) xi (fun _ _=>rfl))) (xF fD xi (xP (wI K) (pv 0) xi (fun _ _=>rfl)))) xi) xi))
    (xj (yc (i:=3) wJ.nd rfl (Or.inl rfl) (xF j3 (xF zp (xF fD (pv 3) (pv 3)) (xF fD xi (pv 3))) xi))
    (xl (xN (xF j3 (xF rQ (pv 3) xi) (pv 1)))))))),?_⟩
  refine ⟨_,rfl,p,_,_,_,rfl,rfl,SqL.of hp,rfl,bb,rfl,?_⟩
  have fin:∀ (r n':Int),0≤r→r < many→xb2 n' bb→Q (.int r) (upd H p (.lst [.int n',.bl bb])):=fun r n' h2 h3 h4=>q r _ h2 h3 ⟨fun b o hb k=>by rw [xY hb]; exact k,n',bb,x_,h4⟩
  cases bb with
  | true =>
    refine tW ?_
    refine ⟨_,rfl,p,_,_,_,rfl,rfl,SqL.of hp,rfl,_,rfl,_,_,rfl,rfl,h0,?_⟩
    refine ⟨_,rfl,p,_,_,_,rfl,rfl,SqL.of hp,rfl,_,rfl,_,_,rfl,rfl,jD h0 h1,?_⟩
    refine ⟨_,rfl,p,_,_,0,rfl,rfl,hp,rfl,?_⟩
    refine ⟨_,rfl,?_⟩
    exact fin _ _ (Int.emod_nonneg _ (by omega)) (Int.emod_lt_of_pos _ h0) ⟨Int.ediv_nonneg hn (by omega),fun z=>by cases z⟩
  | false =>
    refine aC ?_
    have hb':=hb rfl
    have cm:∀ (i j:Int),0≤i→i < 2147483700→xbD i j:=fun i j a b=>.inl ⟨by omega,by omega⟩
    refine ⟨_,rfl,p,_,_,_,rfl,rfl,SqL.of hp,rfl,_,_,rfl,rfl,cm _ _ hn (by omega),_,_,rfl,rfl,_,_,rfl,rfl,(by show (0:Int) < 2147483647; decide),?_⟩
    refine ⟨_,rfl,p,_,_,0,rfl,rfl,hp,rfl,?_⟩
    have hz:∃ z:Int,(n*48271+29) % 2147483647=z∧0≤z∧z < 2147483647:=⟨_,rfl,by omega,by omega⟩
    obtain ⟨z,ez,z0,z1⟩:=hz
    have hp':(upd H p (.lst [.int z,.bl false])) p=some (.lst [.int z,.bl false]):=x_
    show xad _ _ _ _ (upd H p (.lst [.int ((n*48271+29) % 2147483647),.bl false]))
    rw [ez]
    refine ⟨_,rfl,p,_,_,_,rfl,rfl,SqL.of hp',rfl,_,rfl,p,_,_,_,rfl,rfl,SqL.of hp',rfl,_,_,rfl,rfl,cm _ _ z0 (by omega),?_⟩
    refine ⟨_,rfl,p,_,_,_,rfl,rfl,SqL.of hp',rfl,_,_,rfl,rfl,.inl ⟨by decide,by decide⟩,_,_,rfl,rfl,_,_,rfl,rfl,_,_,rfl,rfl,(by show (0:Int) < 2147483629; decide),?_⟩
    have hy:∃ y:Int,(z*z+39373*z+7) % 2147483629=y∧0≤y∧y < 2147483629:=⟨_,rfl,Int.emod_nonneg _ (by decide),Int.emod_lt_of_pos _ (by decide)⟩
    obtain ⟨y,ey,y0,y1⟩:=hy
    show xad _ _ _ [_,_,_,some (.int ((z*z+39373*z+7) % 2147483629))] _
    rw [ey]
    refine ⟨_,rfl,_,rfl,_,_,rfl,rfl,cm _ _ y0 (by omega),_,rfl,_,_,rfl,rfl,.inl ⟨by decide,by decide⟩,_,_,rfl,rfl,_,_,rfl,rfl,(by show (0:Int) < 2147483587; decide),?_⟩
    refine ⟨_,rfl,_,_,rfl,rfl,jD (by decide) (by decide),_,rfl,_,_,rfl,rfl,h0,?_⟩
    exact fin _ _ (Int.emod_nonneg _ (by omega)) (Int.emod_lt_of_pos _ h0) ⟨z0,fun _=>z1⟩
end
end K10
namespace K10
open PySem L2
section
variable {P:Program} {w:World} {K:PySem.W.Frag} {mg:Str→Option Value} {base:Heap} {f:Addr} {fd:FuncData}
theorem sE (B:Blt mg bn) (F:Fun K "is_whole" "is_whole" q8 f fd) (m:mg "is_whole" = some (.ref f)) (b:Binds K fd ["thing"] [])  :
    Own P w K mg base 1 "is_whole" ["thing"] (spT 1 false false j8):=by
  refine xS F sj m b rfl (fun cdv A outer s H E hr=>⟨_,_,
    (xl (xN (qq (xC yC rfl (B.get "isinstance") xW (xc (pv 0) (xc (yY (v:=V.ty "int") rfl (B.get "int") oI rfl) xh))) (qr (p6 (xC yC rfl (B.get "isinstance") xW (xc (pv 0) (xc (yY (v:=V.ty "bool") rfl (B.get "bool") sC rfl) xh)))))))),
    (xD (ug (zV xf) (nN (zV xf)))),fun ts KK hl h=>?_⟩)
  obtain ⟨t,rfl,k⟩:=h
  cases t <;> exact k
theorem fM (B:Blt mg bn) (F:Fun K "are_whole" "are_whole" uA f fd) (m:mg "are_whole" = some (.ref f)) (b:Binds K fd ["things"] []) (zN:Own P w K mg base 1 "is_whole" ["thing"] (spT 1 false false j8)) :
    Own P w K mg base 2 "are_whole" ["things"] (spT 1 false false dB):=by
  refine xS F dw m b rfl (fun cdv A outer s H E hr=>⟨_,_,
    (xl (xN (xC (w_ K rfl) rfl (B.get "all") fG (xc (wy (yy (N:=["thing"]) (tau:=[none]) (XN:=["things"]) (xs:=xk uA) (by decide +kernel) rfl rfl) rfl (vj rfl) (zF K (pv 0)) (fun _ _ _ _=>(xw (i:=0) (show (["thing"]:List Str).Nodup by decide +kernel) rfl (Or.inl rfl))) (fun _ _ _ _=>zX) (fun _ _ _ _=>(xt zN hr (xc (pv 0) xh)))) xh)))),
    (xD (ym kY (xa (OkF.e (yM (yT xf).c xo zf (xK (xa xf xg)))) xg))),fun ts KK hl h=>?_⟩)
  obtain ⟨t,rfl,us,hs,hz,k⟩:=h
  rcases hs with rfl | rfl
  · refine ⟨hz,uB (fun x=>.bl (tU x)) (fun x _ N hN=>⟨x,rfl,hN⟩) ⟨us.map tU,by rw [List.map_map]; rfl,?_⟩⟩
    simpa using k
  · refine ⟨hz,uB (fun x=>.bl (tU x)) (fun x _ N hN=>⟨x,rfl,hN⟩) ⟨us.map tU,by rw [List.map_map]; rfl,?_⟩⟩
    simpa using k
theorem vX (B:Blt mg bn) (F:Fun K "greatest_divisor" "greatest_divisor" zD f fd) (m:mg "greatest_divisor" = some (.ref f)) (b:Binds K fd ["one", "other"] [])  :
    Own P w K mg base 1 "greatest_divisor" ["one", "other"] (spT 2 false false pH):=by
  refine xS F zg m b rfl (fun cdv A outer s H E hr=>⟨_,_,
    (xj (dM (i:=0) (j:=1) rfl zg.nd rfl rfl (by decide) rfl rfl (xc (xC zP rfl (B.get "abs") vJ (xc (pv 0) xh)) (xc (xC zP rfl (B.get "abs") vJ (xc (pv 1) xh)) xh)) (by rfl))
    (xj (aD PassesOwn.never (xQ (yP hr.units) (pv 1) xi (xR _)) (xl (dM (i:=0) (j:=1) rfl zg.nd rfl rfl (by decide) rfl rfl (xc (pv 1) (xc (xF mo (pv 0) (pv 1)) xh)) (by rfl))))
    (xl (xN (pv 0))))),
    (xn (k6 (xa (ym vL (xa xf xg)) (xa (ym vL (xa xf xg)) xg)))
    (xn (dm (xE (xm zY xf (xB (t:=Tr.int _)))) (k6 (xa xf (xa (xm oC xf xf) xg))))
    (xD xf))),fun ts KK hl h=>?_⟩)
  obtain ⟨a,c,rfl,k⟩:=h
  refine fE (fun n τ=>∃ x y:Int,τ=[.fz (.int x),.fz (.int y)]∧0≤x∧0≤y∧n=y.toNat∧Int.gcd x y=Int.gcd a c) c.natAbs ⟨_,_,rfl,by split <;> omega,by split <;> omega,by split <;> omega,?_⟩ ?_
  · have e1:(if a < 0 then -a else a)=(a.natAbs:Int):=by split <;> omega
    have e2:(if c < 0 then -c else c)=(c.natAbs:Int):=by split <;> omega
    rw [e1,e2]; simp [Int.gcd]
  · rintro n τ N ⟨x,y,rfl,hx,hy,rfl,hg⟩ hN
    refine xX (b := !decide (y=0)) (fun c0=>?_) (fun c0=>?_)
    · have c0:y≠0:=by simpa using c0
      have e:x.fmod y=x % y:=c6 hy
      have l:=Int.emod_lt_of_pos x (show 0 < y by omega)
      have l0:=Int.emod_nonneg x c0
      refine ⟨c0,hN (x % y).toNat _ (by omega) ⟨_,_,rfl,hy,by rw [e]; exact l0,by rw [e],?_⟩⟩
      rw [e,← hg,pC hx hy]
    · have c0:y=0:=by simpa using c0
      subst c0
      have:(Int.gcd a c:Int)=x:=by rw [← hg]; simp [Int.gcd]; omega
      exact this ▸ k
theorem mi (B:Blt mg bn) (F:Fun K "lowest" "lowest" fj f fd) (m:mg "lowest" = some (.ref f)) (b:Binds K fd ["top", "bottom"] []) (xO:Own P w K mg base 1 "greatest_divisor" ["one", "other"] (spT 2 false false pH)) :
    Own P w K mg base 2 "lowest" ["top", "bottom"] (spT 2 false false xcg):=by
  refine xS F dI m b rfl (fun cdv A outer s H E hr=>⟨_,_,
    (xj (yc (i:=2) dI.nd rfl (Or.inl rfl) (xt xO hr (xc (pv 0) (xc (pv 1) xh))))
    (xl (xN (xJ (xc (xF wq (pv 0) (pv 2)) (xc (xF wq (pv 1) (pv 2)) xh)))))),
    (xn (x9 (xK (xa xf (xa xf xg))))
    (xD (xM (b:=true) (xa (xm uP xf xf) (xa (xm uP xf xf) xg))))),fun ts KK hl h=>?_⟩)
  obtain ⟨t,bo,rfl,hb,bd,k⟩:=h
  have gp:(0:Int) < (Int.gcd t bo:Int):=by have:=Int.gcd_pos_of_ne_zero_right t hb; omega
  have gb:=nk (t:=t) hb bd
  refine ⟨t,bo,rfl,⟨by omega,gb⟩,⟨by omega,gb⟩,?_⟩
  show KK (.tup [.int (t.fdiv (Int.gcd t bo)),.int (bo.fdiv (Int.gcd t bo))])
  rw [y2 (by omega),y2 (by omega)]
  exact k
theorem k7 (B:Blt mg bn) (F:Fun K "corners_left" "corners_left" wX f fd) (m:mg "corners_left" = some (.ref f)) (b:Binds K fd ["rows"] []) (v8:Own P w K mg base 3 "places_of" ["piece"] (spT 1 false true dz)) (vc:Own P w K mg base 5 "piece_left" ["rows"] (spT 1 false false j9)) :
    Own P w K mg base 6 "corners_left" ["rows"] (spT 1 false true kv):=by
  refine xS F jI m b rfl (fun cdv A outer s H E hr=>⟨_,_,
    (xl (xN (xt v8 hr (xc (xt vc hr (xc (pv 0) xh)) xh)))),
    (g_ (oP (xa (xK (xa xf xg)) xg))),fun ts KK hl h=>?_⟩)
  obtain ⟨t,rows,rfl,ht,hr,k⟩:=h
  have sm:=hr.small rows.length
  have pl:=hr.plen rows.length
  rw [List.take_of_length_le (Nat.le_refl _)] at sm pl
  exact ⟨t,rows,rfl,ht,hr,_,rfl,sm,pl,k⟩
theorem gQ (B:Blt mg bn) (F:Fun K "piece_left" "piece_left" vk f fd) (m:mg "piece_left" = some (.ref f)) (b:Binds K fd ["rows"] []) {t_FAR:Tok} (jN:mg "FAR" = some (.int 60001 t_FAR)) (qR:Own P w K mg base 4 "cut_down" ["piece", "rows"] (spT 2 false false rJ)) :
    Own P w K mg base 5 "piece_left" ["rows"] (spT 1 false false j9):=by
  refine xS F gP m b rfl (fun cdv A outer s H E hr=>⟨_,_,
    (xl (xN (xt qR hr (xc (yU (xc (xJ (xc (uK zH (vh (v:=V.int 60001) rfl jN ⟨_,rfl⟩)) (xc (uK zH (vh (v:=V.int 60001) rfl jN ⟨_,rfl⟩)) (xc xi xh)))) (xc (xJ (xc (vh (v:=V.int 60001) rfl jN ⟨_,rfl⟩) (xc (uK zH (vh (v:=V.int 60001) rfl jN ⟨_,rfl⟩)) (xc xi xh)))) (xc (xJ (xc (vh (v:=V.int 60001) rfl jN ⟨_,rfl⟩) (xc (vh (v:=V.int 60001) rfl jN ⟨_,rfl⟩) (xc xi xh)))) (xc (xJ (xc (uK zH (vh (v:=V.int 60001) rfl jN ⟨_,rfl⟩)) (xc (vh (v:=V.int 60001) rfl jN ⟨_,rfl⟩) (xc xi xh)))) xh))))) (xc (pv 0) xh))))),
    (xD (xK (xa (zR (b:=true) (xa (xM (b:=true) (xa (zG (xB (t:=Tr.int _))) (xa (zG (xB (t:=Tr.int _))) (xa (xB (t:=Tr.int _)) xg)))) (xa (xM (b:=true) (xa (xB (t:=Tr.int _)) (xa (zG (xB (t:=Tr.int _))) (xa (xB (t:=Tr.int _)) xg)))) (xa (xM (b:=true) (xa (xB (t:=Tr.int _)) (xa (xB (t:=Tr.int _)) (xa (xB (t:=Tr.int _)) xg)))) (xa (xM (b:=true) (xa (zG (xB (t:=Tr.int _))) (xa (xB (t:=Tr.int _)) (xa (xB (t:=Tr.int _)) xg)))) xg))))) (xa xf xg)))),fun ts KK hl h=>?_⟩)
  obtain ⟨t,rows,rfl,ht,hr,k⟩:=h
  exact ⟨t,[],rows,rfl,ht,hr,k⟩
theorem sZ (B:Blt mg bn) (F:Fun K "cut_down" "cut_down" qJ f fd) (m:mg "cut_down" = some (.ref f)) (b:Binds K fd ["piece", "rows"] []) (vW:Own P w K mg base 3 "cut_piece" ["piece", "row"] (spT 2 false false k9)) :
    Own P w K mg base 4 "cut_down" ["piece", "rows"] (spT 2 false false rJ):=by
  refine xS F vQ m b rfl (fun cdv A outer s H E hr=>⟨_,_,
    (xj (wH PassesOwn.never rfl (zF K (pv 1)) (xw (i:=2) vQ.nd rfl (Or.inl rfl)) (xl (yc (i:=0) vQ.nd rfl (Or.inl rfl) (xt vW hr (xc (pv 0) (xc (pv 2) xh))))))
    (xl (xN (pv 0)))),
    (xn (zC (yT xf) xo.g (x9 (xK (xa xf (xa xf xg)))))
    (xD xf)),fun ts KK hl h=>?_⟩)
  obtain ⟨t,r0,rows,rfl,ht,hr,k⟩:=h
  have tk:∀ i,((r0++rows).take (r0.length+i)).foldl Pol.yA Pol.box=(rows.take i).foldl Pol.yA (Pol.pieces r0):=fun i=>by rw [List.take_append,List.take_of_length_le (by omega),show r0.length+i-r0.length=i by omega,List.foldl_append]; rfl
  have main:pj (eName 2) (xcT 0 (l5 k9 (bW (xbl 0) (bW (xbl 2) xas)))) { nx:=xcf (xbl 0) { nx:=fun x=>false=false∧KK Tr.non,rt:=KK },rt:=KK } (rows.map trR) [.fz (.lst ((Pol.pieces r0).map trR)),.fz t,.un]:=by
    refine wG (fun i τ=>∃ x2,τ=[.fz (.lst (((rows.take i).foldl Pol.yA (Pol.pieces r0)).map trR)),.fz t,x2]) ⟨_,rfl⟩ ?_ ?_
    · rintro i x τ N hx ⟨x2,rfl⟩ hN
      obtain ⟨r,hri,rfl⟩:=vT hx
      rw [Pol.kr _ _ hri] at hN
      have sm:=hr.small (r0.length+i)
      have pl:=hr.plen (r0.length+i)
      rw [tk] at sm pl
      exact ⟨_,r,rfl,hr.sm r (List.mem_append_right _ (List.mem_of_getElem? hri)),sm,pl,hN _ ⟨_,rfl⟩⟩
    · rintro τ ⟨x2,rfl⟩
      rw [List.length_map,List.take_of_length_le (Nat.le_refl _)]
      unfold Pol.pieces at k ⊢
      rw [List.foldl_append] at k
      exact k
  rcases ht with rfl | rfl <;> exact main
theorem dA (B:Blt mg bn) (F:Fun K "places_of" "places_of" uF f fd) (m:mg "places_of" = some (.ref f)) (b:Binds K fd ["piece"] []) (uk:Own P w K mg base 2 "lowest" ["top", "bottom"] (spT 2 false false xcg)) (uX:Own P w K mg base 2 "from_least" ["piece"] (spT 1 false true hU)) :
    Own P w K mg base 3 "places_of" ["piece"] (spT 1 false true dz):=by
  refine xS F fK m b rfl (fun cdv A outer s H E hr=>⟨_,_,
    (xl (xN (wy (yy (N:=["x", "y", "bottom"]) (tau:=[none,none,none]) (XN:=["piece"]) (xs:=xk uF) (by decide +kernel) rfl rfl) rfl (wg (yG rfl (yG rfl (yG rfl qg)))) (zF K (xt uX hr (xc (pv 0) xh))) (fun _ _ _ _=>(yr K (n:=3) rfl (xx (xw (i:=0) (show (["x", "y", "bottom"]:List Str).Nodup by decide +kernel) rfl (Or.inl rfl)) (xx (xw (i:=1) (show (["x", "y", "bottom"]:List Str).Nodup by decide +kernel) rfl (Or.inl rfl)) (xx (xw (i:=2) (show (["x", "y", "bottom"]:List Str).Nodup by decide +kernel) rfl (Or.inl rfl)) yo))))) (fun _ _ _ _=>zX) (fun _ _ _ _=>(xJ (xc (xt uk hr (xc (pv 0) (xc (pv 2) xh))) (xc (xt uk hr (xc (pv 1) (xc (pv 2) xh))) xh))))))),
    (g_ (yM (yT (xK (xa xf xg))).c (yt (xr xo (xr xo (xr xo ye)))) zf (xM (b:=true) (xa (xK (xa xf (xa xf xg))) (xa (xK (xa xf (xa xf xg))) xg))))),fun ts KK hl h=>?_⟩)
  obtain ⟨l,rfl,sm,pl,k⟩:=h
  refine ⟨l,rfl,fun v hv=>(sm v hv).1.b3,pl,?_,?_⟩
  · rw [List.length_map,qj]; exact sqz (by omega)
  · refine uB (fun x=>match kJ x with | some v=>xcr v | none=>.non) (fun x hx N hN=>?_) ?_
    · obtain ⟨v,hv,rfl⟩:=List.mem_map.mp hx
      have hb:=sm v (qE hv)
      exact ⟨rfl,_,_,rfl,by omega,hb.1.2.bd,_,_,rfl,by omega,hb.1.2.bd,hN⟩
    · rw [List.map_map]; exact k
theorem fC (B:Blt mg bn) (F:Fun K "cut_piece" "cut_piece" vY f fd) (m:mg "cut_piece" = some (.ref f)) (b:Binds K fd ["piece", "row"] []) (wx:Own P w K mg base 2 "where_crossed" ["row", "one", "other"] (spT 3 false false rf)) (wa:Own P w K mg base 1 "beyond" ["row", "corner"] (spT 2 false false sO)) :
    Own P w K mg base 3 "cut_piece" ["piece", "row"] (spT 2 false false k9):=by
  refine xS F zk m b rfl (fun cdv A outer s H E hr=>⟨_,_,
    (xj (yc (i:=2) zk.nd rfl (Or.inl rfl) (yU xh))
    (xj (wH PassesOwn.never rfl (mL K rfl (B.get "enumerate") (xc (pv 0) xh)) (yr K (n:=2) rfl (xx (xw (i:=3) zk.nd rfl (Or.inl rfl)) (xx (xw (i:=4) zk.nd rfl (Or.inl rfl)) yo))) (xj (yc (i:=5) zk.nd rfl (Or.inl rfl) (xP (xq K) (pv 0) (xF zy (pv 3) xi) (fun _ _=>rfl)))
    (xj (yK (xQ (hZ K hr.units) (xF ya (xt wa hr (xc (pv 1) (xc (pv 5) xh))) (xt wa hr (xc (pv 1) (xc (pv 4) xh)))) xi (xR _)) (xj (yc (i:=6) zk.nd rfl (Or.inl rfl) (xt wx hr (xc (pv 1) (xc (pv 5) (xc (pv 4) xh)))))
    (xl (yK (xQ (ly hr.units) (pv 6) (pv 2) (by with_unfolding_all rfl)) (xl (wk (tY PySem.F.plainAttrs_list PySem.F.slot_list_append PySem.F.type_list_append vd (pv 2) (xc (pv 6) xh)))) yb))) yb)
    (xl (yK (xQ sJ (xt wa hr (xc (pv 1) (xc (pv 4) xh))) xi (xR _)) (xl (wk (tY PySem.F.plainAttrs_list PySem.F.slot_list_append PySem.F.type_list_append vd (pv 2) (xc (pv 4) xh)))) yb)))))
    (xl (xN (pv 2))))),
    (xn (uv (gk xg))
    (xn (zC (rF (xa xf xg)) (yt (xr xo (xr xo ye))).g (xn (x9 (xU xf (xm zK xf (xB (t:=Tr.int _)))))
    (xn (yq (xE (xm gc (xm yl (xK (xa xf (xa xf xg))) (xK (xa xf (xa xf xg)))) (xB (t:=Tr.int _)))) (xn (x9 (xK (xa xf (xa xf (xa xf xg)))))
    (yq (xE (xm xcq xf md)) (jd xf) xV)) xV)
    (yq (xE (xm sL (xK (xa xf (xa xf xg))) (xB (t:=Tr.int _)))) (jd xf) xV))))
    cI)),fun ts KK hl h=>?_⟩)
  obtain ⟨l,r,rfl,hr,hl',hz,k⟩:=h
  refine wG (all:=vR (l.map trR)) (fun i τ=>∃ x3 x4 x5 x6,τ=[.fz (.lst (l.map trR)),.fz (trR r),.ow ((((Pol.cyc l).take i).foldl (Pol.yg r) []).map trR),x3,x4,x5,x6]∧(((Pol.cyc l).take i).foldl (Pol.yg r) []).length≤2*i)
    ⟨_,_,_,_,rfl,Nat.le_refl _⟩ ?_ ?_
  · rintro i x τ N hx ⟨x3,x4,x5,x6,rfl,hlen⟩ hN
    obtain ⟨v,hv,rfl⟩:=aP hx
    obtain ⟨u,hu,hc,ha⟩:=tE hv
    have hvm:=List.mem_of_getElem? hv
    have hi:=(List.getElem?_eq_some_iff.mp hv).1
    have fold:=Pol.kr (Pol.yg r) [] hc
    generalize hacc:((Pol.cyc l).take i).foldl (Pol.yg r) []=acc at fold hlen ⊢
    have leaf:∀ (ts:List Tr) (y6:TV),ts=(Pol.yg r acc (u,v)).map trR→N [.fz (.lst (l.map trR)),.fz (trR r),.ow ts,.fz (.int i),.fz (trR v),.fz (trR u),y6]:=fun ts y6 e=>by
      rw [fold] at hN
      refine hN _ ⟨_,_,_,y6,by rw [e],?_⟩
      · have:=Pol.aX r acc (u,v)
        have s2:(Pol.seg r (u,v)).length≤2:=by unfold Pol.seg; split <;> split <;> simp
        omega
    have bu:=hl' u hu
    have bv:=hl' v hvm
    have len0:∀ n:Nat,n≤acc.length+1→n < sizeLine:=fun n hn=>sqz (by omega)
    refine ⟨rfl,?_⟩
    show aj (atT (l.map trR) ((i:Int)-1)) _
    rw [ha]
    refine ⟨r,u,rfl,hr.b3,bu.1.b3,r,v,rfl,hr.b3,bv.1.b3,⟨(hr.val bu.1).bd,(hr.val bv.1).bd⟩,?_⟩
    refine xX (b:=decide (Pol.val r u*Pol.val r v < 0)) (fun c=>?_) (fun c=>?_)
    · have c:=of_decide_eq_true c
      refine ⟨r,u,v,rfl,⟨hr,bu.1,bv.1⟩,⟨bu.2,bv.2⟩,c,⟨tZ _,vn trR tZ acc,(by show (1:Nat)≤60; decide)⟩,?_⟩
      refine xX (b := !((acc.map trR).any fun t=>teq t (trR (Pol.xA r u v)))) (fun d=>?_) (fun d=>?_)
      · rw [bI] at d
        have d:Pol.xA r u v∉acc:=by simpa using d
        refine ⟨len0 _ (by simp),r,v,rfl,hr.b3,bv.1.b3,?_⟩
        refine xX (b:=decide (Pol.val r v≤0)) (fun e=>?_) (fun e=>?_)
        · have e:=of_decide_eq_true e
          exact ⟨len0 _ (by simp),leaf _ _ (by simp [Pol.yg,c,d,e])⟩
        · have e:=of_decide_eq_false e
          exact leaf _ _ (by simp [Pol.yg,c,d,e])
      · rw [bI] at d
        have d:Pol.xA r u v∈acc:=by simpa using d
        refine ⟨r,v,rfl,hr.b3,bv.1.b3,?_⟩
        refine xX (b:=decide (Pol.val r v≤0)) (fun e=>?_) (fun e=>?_)
        · have e:=of_decide_eq_true e
          exact ⟨len0 _ (by simp),leaf _ _ (by simp [Pol.yg,c,d,e])⟩
        · have e:=of_decide_eq_false e
          exact leaf _ _ (by simp [Pol.yg,c,d,e])
    · have c:=of_decide_eq_false c
      refine ⟨r,v,rfl,hr.b3,bv.1.b3,?_⟩
      refine xX (b:=decide (Pol.val r v≤0)) (fun e=>?_) (fun e=>?_)
      · have e:=of_decide_eq_true e
        exact ⟨len0 _ (by simp),leaf _ _ (by simp [Pol.yg,c,e])⟩
      · have e:=of_decide_eq_false e
        exact leaf _ _ (by simp [Pol.yg,c,e])
  · rintro τ ⟨x3,x4,x5,x6,rfl,hlen⟩
    rw [aK,List.take_of_length_le (by rw [Pol.o6]; exact Nat.le_refl _)]
    exact k
theorem n8 (B:Blt mg bn) (F:Fun K "beyond" "beyond" gZ f fd) (m:mg "beyond" = some (.ref f)) (b:Binds K fd ["row", "corner"] [])  :
    Own P w K mg base 1 "beyond" ["row", "corner"] (spT 2 false false sO):=by
  refine xS F we m b rfl (fun cdv A outer s H E hr=>⟨_,_,
    (xj (zE (pv 0) (yr K (n:=3) rfl (xx (xw (i:=2) we.nd rfl (Or.inl rfl)) (xx (xw (i:=3) we.nd rfl (Or.inl rfl)) (xx (xw (i:=4) we.nd rfl (Or.inl rfl)) yo)))))
    (xj (zE (pv 1) (yr K (n:=3) rfl (xx (xw (i:=5) we.nd rfl (Or.inl rfl)) (xx (xw (i:=6) we.nd rfl (Or.inl rfl)) (xx (xw (i:=7) we.nd rfl (Or.inl rfl)) yo)))))
    (xl (xN (xF zy (xF zp (xF ya (pv 2) (pv 5)) (xF ya (pv 3) (pv 6))) (xF ya (pv 4) (pv 7))))))),
    (xn (yX xf (yt (xr xo (xr xo (xr xo ye)))).g)
    (xn (yX xf (yt (xr xo (xr xo (xr xo ye)))).g)
    (xD (xm zK (xm wK (xm yl xf xf) (xm yl xf xf)) (xm yl xf xf))))),fun ts KK hl h=>?_⟩)
  obtain ⟨r,p,rfl,hr,hp,k⟩:=h
  exact ⟨rfl,rfl,⟨hr.1.1,hp.1.1⟩,⟨hr.1.2,hp.1.2⟩,⟨hr.2,hp.2⟩,k⟩
theorem kI (B:Blt mg bn) (F:Fun K "where_crossed" "where_crossed" zw f fd) (m:mg "where_crossed" = some (.ref f)) (b:Binds K fd ["row", "one", "other"] []) (xO:Own P w K mg base 1 "greatest_divisor" ["one", "other"] (spT 2 false false pH)) (wa:Own P w K mg base 1 "beyond" ["row", "corner"] (spT 2 false false sO)) :
    Own P w K mg base 2 "where_crossed" ["row", "one", "other"] (spT 3 false false rf):=by
  refine xS F yu m b rfl (fun cdv A outer s H E hr=>⟨_,_,
    (xj (zE (xJ (xc (xC zP rfl (B.get "abs") vJ (xc (xt wa hr (xc (pv 0) (xc (pv 1) xh))) xh)) (xc (xC zP rfl (B.get "abs") vJ (xc (xt wa hr (xc (pv 0) (xc (pv 2) xh))) xh)) xh))) (yr K (n:=2) rfl (xx (xw (i:=3) yu.nd rfl (Or.inr rfl)) (xx (xw (i:=4) yu.nd rfl (Or.inr rfl)) yo))))
    (xj (zE (wy (yy (N:=["here", "there", "other_off", "one_off"]) (tau:=[none,none,some 4,some 3]) (XN:=["row", "one", "other", "one_off", "other_off", "x", "y", "bottom", "shared"]) (xs:=xk zw) (by decide +kernel) rfl rfl) rfl (wg (yG rfl (yG rfl qg))) (gy K rfl (B.get "zip") (xc (pv 1) (xc (pv 2) xh))) (fun _ _ _ _=>(yr K (n:=2) rfl (xx (xw (i:=0) (show (["here", "there", "other_off", "one_off"]:List Str).Nodup by decide +kernel) rfl (Or.inl rfl)) (xx (xw (i:=1) (show (["here", "there", "other_off", "one_off"]:List Str).Nodup by decide +kernel) rfl (Or.inl rfl)) yo)))) (fun _ _ _ _=>zX) (fun _ _ _ _=>(xF zp (xF ya (pv 2) (pv 0)) (xF ya (pv 3) (pv 1))))) (lY K (n:=3) rfl (xx (xw (i:=5) yu.nd rfl (Or.inl rfl)) (xx (xw (i:=6) yu.nd rfl (Or.inl rfl)) (xx (xw (i:=7) yu.nd rfl (Or.inl rfl)) yo)))))
    (xj (yc (i:=8) yu.nd rfl (Or.inl rfl) (xt xO hr (xc (xt xO hr (xc (pv 5) (xc (pv 6) xh))) (xc (pv 7) xh))))
    (xl (xN (xJ (xc (xF wq (pv 5) (pv 8)) (xc (xF wq (pv 6) (pv 8)) (xc (xF wq (pv 7) (pv 8)) xh))))))))),
    (xn (yX (xM (b:=true) (xa (ym vL (xa (xK (xa xf (xa xf xg))) xg)) (xa (ym vL (xa (xK (xa xf (xa xf xg))) xg)) xg))) (yt (xr xo (xr xo ye))).g)
    (xn (yX (OkF.e (yM (kS (xa xf (xa xf xg))).c (yt (xr xo (xr xo ye))) zf (xm wK (xm yl xf xf) (xm yl xf xf)))) (lB (xr xo (xr xo (xr xo ye)))).g)
    (xn (x9 (xK (xa (xK (xa xf (xa xf xg))) (xa xf xg))))
    (xD (xM (b:=true) (xa (xm uP xf xf) (xa (xm uP xf xf) (xa (xm uP xf xf) xg)))))))),fun ts KK hl h=>?_⟩)
  obtain ⟨r,u,v,rfl,⟨hr,hu,hv⟩,⟨zu,zv⟩,hn,k⟩:=h
  have au:Bk 1000 (Pol.abs (Pol.val r u)):=((hr.val hu).mono (by decide)).abs
  have av:Bk 1000 (Pol.abs (Pol.val r v)):=((hr.val hv).mono (by decide)).abs
  have cu:∀ {i},Bk 800 i→CM (Pol.abs (Pol.val r v)) i:=fun h=>⟨av.bd,h.bd⟩
  have cv:∀ {i},Bk 800 i→CM (Pol.abs (Pol.val r u)) i:=fun h=>⟨au.bd,h.bd⟩
  obtain ⟨b,_,_,_⟩:=Pol.vz zu zv hn
  have wz:0 < (Pol.cw r u v).2.2:=by
    have h1:=Pol.pp b.pa zu
    have h2:=Pol.pp b.pb zv
    show 0 < Pol.abs (Pol.val r v)*u.2.2+Pol.abs (Pol.val r u)*v.2.2
    omega
  have wb:Bd (Pol.cw r u v).2.2:=((av.mul hu.2).add (au.mul hv.2)).bd
  have gp:=Pol.vA wz
  have gb:Bd (Pol.uh (Pol.cw r u v):Int):=nk (by omega) wb
  refine ⟨r,u,rfl,hr.b3,hu.b3,r,v,rfl,hr.b3,hv.b3,rfl,sqz (show (3:Nat)≤1000000 by decide),rfl,cu hu.1.1,cv hv.1.1,rfl,cu hu.1.2,cv hv.1.2,rfl,cu hu.2,cv hv.2,rfl,_,_,rfl,_,_,rfl,⟨?_,gb⟩,⟨?_,gb⟩,⟨?_,gb⟩,?_⟩
  · show (Pol.uh (Pol.cw r u v):Int)≠0; omega
  · show (Pol.uh (Pol.cw r u v):Int)≠0; omega
  · show (Pol.uh (Pol.cw r u v):Int)≠0; omega
  show KK (.tup [.int ((Pol.cw r u v).1.fdiv (Pol.uh (Pol.cw r u v))),.int ((Pol.cw r u v).2.1.fdiv (Pol.uh (Pol.cw r u v))),.int ((Pol.cw r u v).2.2.fdiv (Pol.uh (Pol.cw r u v)))])
  rw [y2 (by omega),y2 (by omega),y2 (by omega)]
  exact k
theorem gH (B:Blt mg bn) (F:Fun K "from_least" "from_least" ve f fd) (m:mg "from_least" = some (.ref f)) (b:Binds K fd ["piece"] []) (qZ:Own P w K mg base 1 "is_ahead" ["one", "other"] (spT 2 false false oj)) :
    Own P w K mg base 2 "from_least" ["piece"] (spT 1 false true hU):=by
  refine xS F zq m b rfl (fun cdv A outer s H E hr=>⟨_,_,
    (xj (yc (i:=1) zq.nd rfl (Or.inl rfl) xi)
    (xj (wH PassesOwn.never rfl (mL K rfl (B.get "enumerate") (xc (pv 0) xh)) (yr K (n:=2) rfl (xx (xw (i:=2) zq.nd rfl (Or.inl rfl)) (xx (xw (i:=3) zq.nd rfl (Or.inl rfl)) yo))) (xl (yK (yB (xt qZ hr (xc (pv 3) (xc (xP (xq K) (pv 0) (pv 1) (fun _ _=>rfl)) xh)))) (xl (yc (i:=1) zq.nd rfl (Or.inl rfl) (pv 2))) yb)))
    (xl (xN (xF jv (uG (kO K) (pv 0) (v5 (pv 1)) qd) (uG (kO K) (pv 0) qd (v5 (pv 1)))))))),
    (xn (x9 (xB (t:=Tr.int _)))
    (xn (zC (rF (xa xf xg)) (yt (xr xo (xr xo ye))).g (yq (yw (xK (xa xf (xa (xU xf xf) xg)))) (x9 xf) xV))
    (g_ (qW (pK xf (uy xf) uL) (pK xf uL (uy xf)))))),fun ts KK hl h=>?_⟩)
  obtain ⟨l,rfl,hl',hz,k⟩:=h
  refine wG (all:=vR (l.map trR)) (fun i τ=>∃ x2 x3,τ=[.fz (.lst (l.map trR)),.fz (.int ((List.range i).foldl (yZ l) 0:Nat)),x2,x3]∧((List.range i).foldl (yZ l) 0 < l.length∨l=[]))
    ⟨_,_,rfl,?_⟩ ?_ ?_
  · cases l with
    | nil=>exact .inr rfl
    | cons a t=>exact .inl (by simp)
  · rintro i x τ N hx ⟨x2,x3,rfl,hlen⟩ hN
    obtain ⟨v,hv,rfl⟩:=aP hx
    have hvm:=List.mem_of_getElem? hv
    have hi:=(List.getElem?_eq_some_iff.mp hv).1
    have fold:(List.range (i+1)).foldl (yZ l) 0=yZ l ((List.range i).foldl (yZ l) 0) i:=by rw [List.range_succ,List.foldl_append]; rfl
    generalize hs:(List.range i).foldl (yZ l) 0=s at fold hlen ⊢
    have hs':s < l.length:=hlen.resolve_right (fun z=>by rw [z] at hi; simp at hi)
    have eu:atT (l.map trR) (s:Int)=some (trR l[s]):=by rw [qX,List.getElem?_map,List.getElem?_eq_getElem hs']; rfl
    refine ⟨rfl,?_⟩
    show aj (atT (l.map trR) (s:Int)) _
    rw [eu]
    have ev:l.getD i (0,0,0)=v:=by rw [List.getD_eq_getElem?_getD,hv]; rfl
    have es:l.getD s (0,0,0)=l[s]:=by rw [List.getD_eq_getElem?_getD,List.getElem?_eq_getElem hs']; rfl
    refine ⟨v,l[s],rfl,hl' _ hvm,hl' _ (List.getElem_mem hs'),?_⟩
    refine xX (b:=ahead v l[s]) (fun c=>?_) (fun c=>?_)
    · have f2:yZ l s i=i:=by unfold yZ; rw [ev,es,if_pos c]
      rw [fold,f2] at hN
      exact hN _ ⟨_,_,rfl,.inl hi⟩
    · have c':¬ ahead v l[s]=true:=by rw [c]; exact Bool.false_ne_true
      have f2:yZ l s i=s:=by unfold yZ; rw [ev,es,if_neg c']
      rw [fold,f2] at hN
      exact hN _ ⟨_,_,rfl,.inl hs'⟩
  · rintro τ ⟨x2,x3,rfl,hlen⟩
    rw [aK]
    show (qp (l.map trR) (some ((qL l:Nat):Int)) none).length+(qp (l.map trR) none (some ((qL l:Nat):Int))).length≤sizeLine∧KK (.lst (qp (l.map trR) (some ((qL l:Nat):Int)) none++qp (l.map trR) none (some ((qL l:Nat):Int))))
    rw [gw,mx]
    refine ⟨bN (by simp; omega),?_⟩
    unfold yN at k
    rw [List.map_append,List.map_drop,List.map_take] at k
    exact k
theorem sI (B:Blt mg bn) (F:Fun K "is_ahead" "is_ahead" qU f fd) (m:mg "is_ahead" = some (.ref f)) (b:Binds K fd ["one", "other"] [])  :
    Own P w K mg base 1 "is_ahead" ["one", "other"] (spT 2 false false oj):=by
  refine xS F ao m b rfl (fun cdv A outer s H E hr=>⟨_,_,
    (xl (xN (za (hZ K hr.units) (xJ (xc (xF ya (xP (xq K) (pv 0) xi (fun _ _=>rfl)) (xP (xq K) (pv 1) xi (fun _ _=>rfl))) (xc (xF ya (xP (xq K) (pv 0) xi (fun _ _=>rfl)) (xP (xq K) (pv 1) xi (fun _ _=>rfl))) xh))) (xJ (xc (xF ya (xP (xq K) (pv 1) xi (fun _ _=>rfl)) (xP (xq K) (pv 0) xi (fun _ _=>rfl))) (xc (xF ya (xP (xq K) (pv 1) xi (fun _ _=>rfl)) (xP (xq K) (pv 0) xi (fun _ _=>rfl))) xh))) (xR _)))),
    (xD (xm gc (xM (b:=true) (xa (xm yl (xU xf (xB (t:=Tr.int _))) (xU xf (xB (t:=Tr.int _)))) (xa (xm yl (xU xf (xB (t:=Tr.int _))) (xU xf (xB (t:=Tr.int _)))) xg))) (xM (b:=true) (xa (xm yl (xU xf (xB (t:=Tr.int _))) (xU xf (xB (t:=Tr.int _)))) (xa (xm yl (xU xf (xB (t:=Tr.int _))) (xU xf (xB (t:=Tr.int _)))) xg))))),fun ts KK hl h=>?_⟩)
  obtain ⟨p,q,rfl,hp,hq,k⟩:=h
  refine ⟨⟨hp.1.1,hq.2⟩,⟨hp.1.2,hq.2⟩,⟨hq.1.1,hp.2⟩,⟨hq.1.2,hp.2⟩,[p.1*q.2.2,p.2.1*q.2.2],[q.1*p.2.2,q.2.1*p.2.2],rfl,rfl,?_⟩
  rw [xaK]
  exact k
theorem mR (B:Blt mg bn) (F:Fun K "is_row" "is_row" gz f fd) (m:mg "is_row" = some (.ref f)) (b:Binds K fd ["thing"] []) (qh:Own P w K mg base 2 "are_whole" ["things"] (spT 1 false false dB)) :
    Own P w K mg base 3 "is_row" ["thing"] (spT 1 false false mO):=by
  refine xS F nQ m b rfl (fun cdv A outer s H E hr=>⟨_,_,
    (xj (yK (PW.pt (zc (yD (yB (xC yC rfl (B.get "isinstance") xW (xc (pv 0) (xc (yY (v:=V.ty "tuple") rfl (B.get "tuple") yE rfl) xh))))) (zc (xQ (yP hr.units) (xC (yf K) rfl (B.get "len") zd (xc (pv 0) xh)) xi (xR _)) (zj (yD (yB (xt qh hr (xc (pv 0) xh)))))))) (xl (xN zS)) yb)
    (xl (xN (xaU (za (yP hr.units) (xP (xq K) (pv 0) xi (fun _ _=>rfl)) xi (xR _)) (qr (za (yP hr.units) (xP (xq K) (pv 0) xi (fun _ _=>rfl)) xi (xR _))))))),
    (xn (yq (yx (yi (yw (zV xf))) (yx (xE (xm zY (ym zz (xa xf xg)) (xB (t:=Tr.int _)))) (yi (yw (xK (xa xf xg)))))) (xD (xB (t:=Tr.bl _))) xV)
    (xD (om (xm zY (xU xf (xB (t:=Tr.int _))) (xB (t:=Tr.int _))) (xm zY (xU xf (xB (t:=Tr.int _))) (xB (t:=Tr.int _)))))),fun ts KK hl h=>?_⟩)
  obtain ⟨t,rfl,k⟩:=h
  cases t with
  | tup us =>
    refine xX (b := !decide ((us.length:Int)=3)) (fun c=>?_) (fun c=>?_)
    · have c:¬ (us.length:Int)=3:=by simpa using c
      have e:wA (.tup us)=false:=by
        unfold wA
        cases e:kJ (.tup us) with
        | none=>rfl
        | some r =>
          have:=ue e
          unfold trR at this
          injection this with this
          rw [this] at c
          exact absurd rfl c
      rw [e] at k
      exact k
    · have c:us.length=3:=by simp at c; omega
      obtain ⟨x,y,z,rfl⟩:∃ x y z,us=[x,y,z]:=by
        match us,c with
        | [x,y,z],_=>exact ⟨x,y,z,rfl⟩
      refine ⟨_,rfl,_,.inl rfl,bE c,?_⟩
      cases x with
      | int a =>
        cases y with
        | int b =>
          cases z with
          | int d =>
            show if (!decide (a=0))=true then KK (.bl true) else KK (.bl (!decide (b=0)))
            by_cases ha:a=0 <;> by_cases hb:b=0 <;> simp [ha,hb,wA,kJ] at k ⊢ <;> exact k
          | _=>exact k
        | _=>exact k
      | _=>exact k
  | _=>exact k
theorem tw (B:Blt mg bn) (F:Fun K "turn_to" "turn_to" jm f fd) (m:mg "turn_to" = some (.ref f)) (b:Binds K fd ["one", "other"] [])  :
    Own P w K mg base 1 "turn_to" ["one", "other"] (spT 2 false false cG):=by
  refine xS F tL m b rfl (fun cdv A outer s H E hr=>⟨_,_,
    (xl (xN (xF zy (xF ya (xP (xq K) (pv 0) xi (fun _ _=>rfl)) (xP (xq K) (pv 1) xi (fun _ _=>rfl))) (xF ya (xP (xq K) (pv 0) xi (fun _ _=>rfl)) (xP (xq K) (pv 1) xi (fun _ _=>rfl)))))),
    (xD (xm zK (xm yl (xU xf (xB (t:=Tr.int _))) (xU xf (xB (t:=Tr.int _)))) (xm yl (xU xf (xB (t:=Tr.int _))) (xU xf (xB (t:=Tr.int _)))))),fun ts KK hl h=>?_⟩)
  obtain ⟨a,b,c,d,x,y,rfl,hb,k⟩:=h
  exact ⟨⟨hb.1.1,hb.2.2⟩,⟨hb.1.2,hb.2.1⟩,k⟩
theorem sS (B:Blt mg bn) (F:Fun K "go_round" "go_round" qY f fd) (m:mg "go_round" = some (.ref f)) (b:Binds K fd ["rows"] []) (vq:Own P w K mg base 2 "furthest" ["first", "rows", "sign"] (spT 3 false false fP)) (uq:Own P w K mg base 2 "points_back" ["first", "rows"] (spT 2 false false xa_)) (ze:Own P w K mg base 1 "turn_to" ["one", "other"] (spT 2 false false cG)) :
    Own P w K mg base 3 "go_round" ["rows"] (spT 1 false false rA):=by
  refine xS F uo m b rfl (fun cdv A outer s H E hr=>⟨_,_,
    (xj (yK (xQ (zh hr.units) (xC (yf K) rfl (B.get "len") zd (xc (pv 0) xh)) xi (xR _)) (xl (xN zS)) yb)
    (xj (yc (i:=1) uo.nd rfl (Or.inl rfl) (xP (xq K) (pv 0) xi (fun _ _=>rfl)))
    (xj (yc (i:=2) uo.nd rfl (Or.inl rfl) (xt vq hr (xc (pv 1) (xc (pv 0) (xc xi xh)))))
    (xj (yc (i:=3) uo.nd rfl (Or.inl rfl) (xt vq hr (xc (pv 1) (xc (pv 0) (xc (uK zH xi) xh)))))
    (xj (yK (PW.pt (zc (my (mj (pv 2))) (zj (my (mj (pv 3)))))) (xl (xN zS)) yb)
    (xl (xN (xaU (za pG (xt ze hr (xc (pv 2) (xc (pv 3) xh))) xi (xR _)) (qr (xt uq hr (xc (pv 1) (xc (pv 0) xh)))))))))))),
    (xn (yq (xE (xm os_eq (ym zz (xa xf xg)) (xB (t:=Tr.int _)))) (xD (xB (t:=Tr.bl _))) xV)
    (xn (x9 (xU xf (xB (t:=Tr.int _))))
    (xn (x9 (xK (xa xf (xa xf (xa (xB (t:=Tr.int _)) xg)))))
    (xn (x9 (xK (xa xf (xa xf (xa (zG (xB (t:=Tr.int _))) xg)))))
    (xn (yq (yx (yw (mI xf)) (yw (mI xf))) (xD (xB (t:=Tr.bl _))) xV)
    (xD (om (xm c9 (xK (xa xf (xa xf xg))) (xB (t:=Tr.int _))) (xK (xa xf (xa xf xg)))))))))),fun ts KK hl h=>?_⟩)
  obtain ⟨rows,rfl,hx,k⟩:=h
  cases rows with
  | nil=>exact k
  | cons r t =>
    have hr:=hx r List.mem_cons_self
    refine ⟨r,r::t,1,rfl,.inl rfl,hr,hx,r,r::t,-1,rfl,.inr rfl,hr,hx,?_⟩
    have e:Pol.wW (r::t)=match Pol.far r 1 (r::t),Pol.far r (-1) (r::t) with
      | some l,some k=>decide (0 < Pol.turn l k) || Pol.back r (r::t)
      | _,_=>false:=rfl
    rw [e] at k
    cases e1:Pol.far r 1 (r::t) with
    | none=>rw [e1] at k; exact k
    | some l =>
      cases e2:Pol.far r (-1) (r::t) with
      | none=>rw [e1,e2] at k; exact k
      | some q =>
        rw [e1,e2] at k
        have hl2:=hx l (Pol.kT e1).mem
        have hq2:=hx q (Pol.kT e2).mem
        refine ⟨l.1,l.2.1,q.1,q.2.1,_,_,rfl,⟨⟨hl2.1.1.bd,hl2.1.2.bd⟩,hq2.1.1.bd,hq2.1.2.bd⟩,?_⟩
        have k:KK (.bl (decide (0 < Pol.turn l q) || Pol.back r (r::t))):=k
        refine xX (b:=decide (0 < Pol.turn l q)) (fun c=>?_) (fun c=>?_)
        · rw [c] at k; exact k
        · rw [c,Bool.false_or] at k
          exact ⟨r,r::t,rfl,hr,hx,k⟩
theorem sP (B:Blt mg bn) (F:Fun K "furthest" "furthest" kq f fd) (m:mg "furthest" = some (.ref f)) (b:Binds K fd ["first", "rows", "sign"] []) (ze:Own P w K mg base 1 "turn_to" ["one", "other"] (spT 2 false false cG)) :
    Own P w K mg base 2 "furthest" ["first", "rows", "sign"] (spT 3 false false fP):=by
  refine xS F uD m b rfl (fun cdv A outer s H E hr=>⟨_,_,
    (xj (yc (i:=3) uD.nd rfl (Or.inl rfl) fQ)
    (xj (wH PassesOwn.never rfl (zF K (pv 1)) (xw (i:=4) uD.nd rfl (Or.inl rfl)) (xl (yK (PW.pt (j6 (xQ pG (xF ya (pv 2) (xt ze hr (xc (pv 0) (xc (pv 4) xh)))) xi (xR _)) (qK (PW.pt (zc (my (mj (pv 3))) (zj (xQ pG (xF ya (pv 2) (xt ze hr (xc (pv 3) (xc (pv 4) xh)))) xi (xR _)))))))) (xl (yc (i:=3) uD.nd rfl (Or.inl rfl) (pv 4))) yb)))
    (xl (xN (pv 3))))),
    (xn (x9 (xB (t:=Tr.non)))
    (xn (zC (yT xf) xo.g (yq (qQ (xE (xm c9 (xm yl xf (xK (xa xf (xa xf xg)))) (xB (t:=Tr.int _)))) (yx (yw (mI xf)) (xE (xm c9 (xm yl xf (xK (xa xf (xa xf xg)))) (xB (t:=Tr.int _)))))) (x9 xf) xV))
    (xD xf))),fun ts KK hl h=>?_⟩)
  obtain ⟨r,rows,s,rfl,hs,hr,hx,k⟩:=h
  have tb:∀ {p q:Pol.R3},B3k 900 p→B3k 900 q→Bk 1801 (Pol.turn p q):=fun hp hq=>(hp.1.1.mul hq.1.2).sub (hp.1.2.mul hq.1.1)
  have sb:Bd s:=by rcases hs with rfl | rfl <;> exact lW (by decide) (by decide)
  refine wG (all:=rows.map trR) (fun i τ=>∃ x4,τ=[.fz (trR r),.fz (.tup (rows.map trR)),.fz (.int s),.fz (xbZ ((rows.take i).foldl (Pol.zx r s) none)),x4]∧∀ y,(rows.take i).foldl (Pol.zx r s) none=some y→B3k 900 y) ⟨_,rfl,fun y hy=>by cases hy⟩ ?_ ?_
  · rintro i x τ N hxi ⟨x4,rfl,hb⟩ hN
    obtain ⟨y,hyi,rfl⟩:=vT hxi
    have hy:=hx y (List.mem_of_getElem? hyi)
    have fold:=Pol.kr (Pol.zx r s) none hyi
    generalize hacc:(rows.take i).foldl (Pol.zx r s) none=acc at fold hb ⊢
    have leaf:∀ o:Option Pol.R3,o=Pol.zx r s acc y→N [.fz (trR r),.fz (.tup (rows.map trR)),.fz (.int s),.fz (xbZ o),.fz (trR y)]:=fun o e=>by
      rw [fold] at hN
      refine hN _ ⟨_,by rw [e],?_⟩
      · unfold Pol.zx
        split
        · intro z hz; cases hz; exact hy
        · exact hb
    refine ⟨r.1,r.2.1,y.1,y.2.1,_,_,rfl,⟨⟨hr.1.1.bd,hr.1.2.bd⟩,hy.1.1.bd,hy.1.2.bd⟩,⟨sb,(tb hr hy).bd⟩,?_⟩
    refine xX (b:=decide (0 < s*Pol.turn r y)) (fun c=>?_) (fun c=>?_)
    · have c:=of_decide_eq_true c
      cases acc with
      | none=>exact leaf (some y) (by unfold Pol.zx; rw [if_pos ⟨c,rfl⟩])
      | some z =>
        have hz:=hb z rfl
        refine ⟨z.1,z.2.1,y.1,y.2.1,_,_,rfl,⟨⟨hz.1.1.bd,hz.1.2.bd⟩,hy.1.1.bd,hy.1.2.bd⟩,⟨sb,(tb hz hy).bd⟩,?_⟩
        refine xX (b:=decide (0 < s*Pol.turn z y)) (fun d=>?_) (fun d=>?_)
        · exact leaf (some y) (by unfold Pol.zx; rw [if_pos ⟨c,d⟩])
        · refine leaf (some z) ?_
          unfold Pol.zx
          rw [if_neg (fun w=>by have w2:decide (0 < s*Pol.turn z y)=true:=w.2; rw [d] at w2; cases w2)]
    · have c:=of_decide_eq_false c
      exact leaf acc (by unfold Pol.zx; rw [if_neg fun w=>c w.1])
  · rintro τ ⟨x4,rfl,_⟩
    rw [List.length_map,List.take_of_length_le (Nat.le_refl _)]
    exact k
theorem jY (B:Blt mg bn) (F:Fun K "points_back" "points_back" uz f fd) (m:mg "points_back" = some (.ref f)) (b:Binds K fd ["first", "rows"] []) (ze:Own P w K mg base 1 "turn_to" ["one", "other"] (spT 2 false false cG)) :
    Own P w K mg base 2 "points_back" ["first", "rows"] (spT 2 false false xa_):=by
  refine xS F vI m b rfl (fun cdv A outer s H E hr=>⟨_,_,
    (xj (wH PassesOwn.never rfl (zF K (pv 1)) (xw (i:=2) vI.nd rfl (Or.inl rfl)) (xl (yK (PW.pt (j6 (xQ (zh hr.units) (xt ze hr (xc (pv 0) (xc (pv 2) xh))) xi (xR _)) (qK (xQ (hZ K hr.units) (xF zp (xF ya (xP (xq K) (pv 0) xi (fun _ _=>rfl)) (xP (xq K) (pv 2) xi (fun _ _=>rfl))) (xF ya (xP (xq K) (pv 0) xi (fun _ _=>rfl)) (xP (xq K) (pv 2) xi (fun _ _=>rfl)))) xi (xR _))))) (xl (xN zS)) yb)))
    (xl (xN zS))),
    (xn (zC (yT xf) xo.g (yq (qQ (xE (xm os_eq (xK (xa xf (xa xf xg))) (xB (t:=Tr.int _)))) (xE (xm gc (xm wK (xm yl (xU xf (xB (t:=Tr.int _))) (xU xf (xB (t:=Tr.int _)))) (xm yl (xU xf (xB (t:=Tr.int _))) (xU xf (xB (t:=Tr.int _))))) (xB (t:=Tr.int _))))) (xD (xB (t:=Tr.bl _))) xV))
    (xD (xB (t:=Tr.bl _)))),fun ts KK hl h=>?_⟩)
  obtain ⟨r,rows,rfl,hr,hx,k⟩:=h
  refine wG (all:=rows.map trR) (fun i τ=>∃ x2,τ=[.fz (trR r),.fz (.tup (rows.map trR)),x2]∧∀ y∈rows.take i,¬ (Pol.turn r y=0∧Pol.dot r y < 0)) ⟨_,rfl,fun y hy=>by simp at hy⟩ ?_ ?_
  · rintro i x τ N hxi ⟨x2,rfl,hb⟩ hN
    obtain ⟨y,hyi,rfl⟩:=vT hxi
    have hym:=List.mem_of_getElem? hyi
    have hy:=hx y hym
    have leaf:¬ (Pol.turn r y=0∧Pol.dot r y < 0)→N [.fz (trR r),.fz (.tup (rows.map trR)),.fz (trR y)]:=fun c=>hN _ ⟨_,rfl,fun z hz=>by
      rw [List.take_succ,hyi] at hz
      rcases List.mem_append.mp hz with q | q
      · exact hb z q
      · have:z=y:=by simpa using q
        rw [this]; exact c⟩
    refine ⟨r.1,r.2.1,y.1,y.2.1,_,_,rfl,⟨⟨hr.1.1.bd,hr.1.2.bd⟩,hy.1.1.bd,hy.1.2.bd⟩,?_⟩
    refine xX (b:=decide (Pol.turn r y=0)) (fun c=>?_) (fun c=>?_)
    · have c:=of_decide_eq_true c
      refine ⟨⟨hr.1.1.bd,hy.1.1.bd⟩,⟨hr.1.2.bd,hy.1.2.bd⟩,?_⟩
      refine xX (b:=decide (Pol.dot r y < 0)) (fun d=>?_) (fun d=>?_)
      · have d:=of_decide_eq_true d
        have:Pol.back r rows=true:=by unfold Pol.back; rw [List.any_eq_true]; exact ⟨y,hym,by simp [c,d]⟩
        rw [this] at k
        exact k
      · have d:=of_decide_eq_false d
        exact leaf fun w=>d w.2
    · have c:=of_decide_eq_false c
      exact leaf fun w=>c w.1
  · rintro τ ⟨x2,rfl,hb⟩
    rw [List.length_map,List.take_of_length_le (Nat.le_refl _)] at hb
    have:Pol.back r rows=false:=by
      unfold Pol.back
      rw [List.any_eq_false]
      intro y hy w
      simp at w
      exact hb y hy w
    rw [this] at k
    exact k
theorem sW (B:Blt mg bn) (F:Fun K "is_field" "is_field" uf f fd) (m:mg "is_field" = some (.ref f)) (b:Binds K fd ["thing"] []) (km:Own P w K mg base 3 "go_round" ["rows"] (spT 1 false false rA)) (jo:Own P w K mg base 1 "is_near" ["place"] (spT 1 false false bH)) (wZ:Own P w K mg base 6 "corners_left" ["rows"] (spT 1 false true kv)) (wQ:Own P w K mg base 4 "is_field_row" ["thing"] (spT 1 false false ju)) :
    Own P w K mg base 7 "is_field" ["thing"] (spT 1 false false rD):=by
  refine xS F sU m b rfl (fun cdv A outer s H E hr=>⟨_,_,
    (xj (yK (PW.pt (zc (yD (yB (xC yC rfl (B.get "isinstance") xW (xc (pv 0) (xc (yY (v:=V.ty "tuple") rfl (B.get "tuple") yE rfl) xh))))) (zj (yD (cA sJ sJ xi (xC (yf K) rfl (B.get "len") zd (xc (pv 0) xh)) xi))))) (xl (xN zS)) yb)
    (xj (yK (PW.pt (zc (yD (yB (xC (w_ K rfl) rfl (B.get "all") fG (xc (wy (yy (N:=["row"]) (tau:=[none]) (XN:=["thing"]) (xs:=xk uf) (by decide +kernel) rfl rfl) rfl (vj rfl) (zF K (pv 0)) (fun _ _ _ _=>(xw (i:=0) (show (["row"]:List Str).Nodup by decide +kernel) rfl (Or.inl rfl))) (fun _ _ _ _=>zX) (fun _ _ _ _=>(xt wQ hr (xc (pv 0) xh)))) xh)))) (zj (yD (yB (xt km hr (xc (pv 0) xh))))))) (xl (xN zS)) yb)
    (xl (xN (xC (w_ K rfl) rfl (B.get "all") fG (xc (wy (yy (N:=["place"]) (tau:=[none]) (XN:=["thing"]) (xs:=xk uf) (by decide +kernel) rfl rfl) rfl (vj rfl) (zF K (xt wZ hr (xc (pv 0) xh))) (fun _ _ _ _=>(xw (i:=0) (show (["place"]:List Str).Nodup by decide +kernel) rfl (Or.inl rfl))) (fun _ _ _ _=>zX) (fun _ _ _ _=>(xt jo hr (xc (pv 0) xh)))) xh)))))),
    (xn (yq (yx (yi (yw (zV xf))) (yi (xE (cT sL sL (xB (t:=Tr.int _)) (ym zz (xa xf xg)) (xB (t:=Tr.int _)))))) (xD (xB (t:=Tr.bl _))) xV)
    (xn (yq (yx (yi (yw (ym kY (xa (OkF.e (yM (yT xf).c xo zf (xK (xa xf xg)))) xg)))) (yi (yw (xK (xa xf xg))))) (xD (xB (t:=Tr.bl _))) xV)
    (xD (ym kY (xa (OkF.e (yM (yT (xK (xa xf xg))).c xo zf (xK (xa xf xg)))) xg))))),fun ts KK hl h=>?_⟩)
  obtain ⟨t,rfl,k⟩:=h
  cases t with
  | tup us =>
    refine xX (b:=decide ((3:Int)≤us.length)) (fun c1=>?_) (fun c1=>?_)
    · have c1:=of_decide_eq_true c1
      refine xX (b := !decide ((us.length:Int)≤8)) (fun c2=>?_) (fun c2=>?_)
      · have c2:8 < us.length:=by simp at c2; omega
        have e:isField (.tup us)=false:=by
          show (match rowsOf us with | some rows=>xG rows | none=>false)=false
          cases e:rowsOf us with
          | none=>rfl
          | some rows =>
            show xG rows=false
            unfold xG
            rw [um e,List.length_map] at c2
            rw [decide_eq_false (by omega)]; rfl
        rw [e] at k
        exact k
      · have c2:us.length≤8:=by simp at c2; omega
        refine ⟨sqz (by omega),uB (fun x=>.bl (yS x)) (fun x _ N hN=>⟨x,rfl,hN⟩) ⟨us.map yS,by rw [List.map_map]; rfl,?_⟩⟩
        rw [List.all_map]
        show if (!us.all yS)=true then _ else _
        refine xX (fun c=>?_) (fun c=>?_)
        · rw [tK (by simpa using c)] at k
          exact k
        · have c:us.all yS=true:=by simpa using c
          obtain ⟨rows,rfl,hrows⟩:=sX c
          rw [List.length_map] at c1 c2
          have ea:(rows.all fun r=>decide ((r.1≠0∨r.2.1≠0)∧Pol.sd r))=true:=by
            rw [List.all_eq_true]; intro r hr; exact decide_eq_true (hrows r hr)
          have ef:isField (.tup (rows.map trR))=(Pol.wW rows && (Pol.pieces rows).all fc):=by
            show (match rowsOf (rows.map trR) with | some rows=>xG rows | none=>false)=_
            rw [qV]
            show xG rows=_
            unfold xG
            rw [ea,decide_eq_true (by omega)]; simp
          rw [ef] at k
          have ok:vK rows:=⟨fun r hr=>(hrows r hr).1,fun r hr=>tD (hrows r hr).2,by omega⟩
          refine ⟨rows,rfl,fun r hr=>(ok.sm r hr).mono (by decide),?_⟩
          refine xX (b := !Pol.wW rows) (fun d=>?_) (fun d=>?_)
          · have d:Pol.wW rows=false:=by simpa using d
            rw [d] at k
            exact k
          · have d:Pol.wW rows=true:=by simpa using d
            rw [d,Bool.true_and] at k
            have sm:=ok.small rows.length
            have pl:=ok.plen rows.length
            rw [List.take_of_length_le (Nat.le_refl _)] at sm pl
            refine ⟨_,rows,rfl,.inl rfl,ok,?_,?_⟩
            · rw [List.length_map,qj]; exact sqz (by have:(Pol.pieces rows).length≤100000:=pl; omega)
            · refine uB (fun x=>match x with | .tup [.tup [.int n,.int d],.tup [.int n2,.int d2]]=>.bl (nearF n d && nearF n2 d2) | _=>.non) (fun x hx N hN=>?_) ?_
              · obtain ⟨v,hv,rfl⟩:=List.mem_map.mp hx
                have hb:=sm v (qE hv)
                have ld:∀ i,Bd (fo i v.2.2):=fun i=>oO hb.2 hb.1.2.bd
                refine ⟨[(dZ v.1 v.2.2,fo v.1 v.2.2),(dZ v.2.1 v.2.2,fo v.2.1 v.2.2)],rfl,(show (2:Nat)≤1000 by decide),fun f hf=>?_,?_⟩
                · simp only [List.mem_cons,List.not_mem_nil,or_false] at hf
                  rcases hf with rfl | rfl <;> exact ld _
                · have e:([(dZ v.1 v.2.2,fo v.1 v.2.2),(dZ v.2.1 v.2.2,fo v.2.1 v.2.2)].all fun f=>nearF f.1 f.2)=(nearF (dZ v.1 v.2.2) (fo v.1 v.2.2) && nearF (dZ v.2.1 v.2.2) (fo v.2.1 v.2.2)):=by simp
                  rw [e]; exact hN
              · refine ⟨(yN (Pol.pieces rows)).map fc,by rw [List.map_map,List.map_map]; rfl,?_⟩
                rw [List.all_map]
                have e:=gu fc (Pol.pieces rows)
                show KK (.bl ((yN (Pol.pieces rows)).all fc))
                rw [e]; exact k
    · have c1:us.length < 3:=by have:=of_decide_eq_false c1; omega
      have e:isField (.tup us)=false:=by
        show (match rowsOf us with | some rows=>xG rows | none=>false)=false
        cases e:rowsOf us with
        | none=>rfl
        | some rows =>
          show xG rows=false
          unfold xG
          rw [um e,List.length_map] at c1
          rw [decide_eq_false (by omega)]; rfl
      rw [e] at k
      exact k
  | _=>exact k
theorem jK (B:Blt mg bn) (F:Fun K "is_field_row" "is_field_row" wM f fd) (m:mg "is_field_row" = some (.ref f)) (b:Binds K fd ["thing"] []) (zZ:Own P w K mg base 3 "is_row" ["thing"] (spT 1 false false mO)) :
    Own P w K mg base 4 "is_field_row" ["thing"] (spT 1 false false ju):=by
  refine xS F zB m b rfl (fun cdv A outer s H E hr=>⟨_,_,
    (xj (yK (yD (yB (xt zZ hr (xc (pv 0) xh)))) (xl (xN zS)) yb)
    (xj (zE (pv 0) (yr K (n:=3) rfl (xx (xw (i:=1) zB.nd rfl (Or.inl rfl)) (xx (xw (i:=2) zB.nd rfl (Or.inl rfl)) (xx (xw (i:=3) zB.nd rfl (Or.inl rfl)) yo)))))
    (xl (xN (qq (za sJ (xC zP rfl (B.get "abs") vJ (xc (pv 1) xh)) xi (xR _)) (qq (za sJ (xC zP rfl (B.get "abs") vJ (xc (pv 2) xh)) xi (xR _)) (qr (za sJ (xC zP rfl (B.get "abs") vJ (xc (pv 3) xh)) xi (xR _))))))))),
    (xn (yq (yi (yw (xK (xa xf xg)))) (xD (xB (t:=Tr.bl _))) xV)
    (xn (yX xf (yt (xr xo (xr xo (xr xo ye)))).g)
    (xD (ug (xm sL (ym vL (xa xf xg)) (xB (t:=Tr.int _))) (ug (xm sL (ym vL (xa xf xg)) (xB (t:=Tr.int _))) (xm sL (ym vL (xa xf xg)) (xB (t:=Tr.int _)))))))),fun ts KK hl h=>?_⟩)
  obtain ⟨t,rfl,k⟩:=h
  refine ⟨t,rfl,?_⟩
  unfold wA
  unfold yS at k
  cases e:kJ t with
  | none=>rw [e] at k; exact k
  | some r =>
    rw [e] at k
    cases ue e
    have k:KK (.bl (decide ((r.1≠0∨r.2.1≠0)∧Pol.sd r))):=k
    refine xX (b := !decide (r.1≠0∨r.2.1≠0)) (fun c=>?_) (fun c=>?_)
    · have c:¬ (r.1≠0∨r.2.1≠0):=by simpa using c
      rw [decide_eq_false fun w=>c w.1] at k
      exact k
    · have c:r.1≠0∨r.2.1≠0:=by simp at c; omega
      refine ⟨rfl,?_⟩
      have ab:∀ i m:Int,(if i < 0 then -i else i)≤m↔-m≤i∧i≤m:=fun i m=>by split <;> omega
      refine xX (b:=decide ((if r.1 < 0 then -r.1 else r.1)≤30)) (fun d=>?_) (fun d=>?_)
      · have d:=(ab _ _).mp (of_decide_eq_true d)
        refine xX (b:=decide ((if r.2.1 < 0 then -r.2.1 else r.2.1)≤30)) (fun d2=>?_) (fun d2=>?_)
        · have d2:=(ab _ _).mp (of_decide_eq_true d2)
          show KK (.bl (decide ((if r.2.2 < 0 then -r.2.2 else r.2.2)≤1000)))
          have e3:decide ((r.1≠0∨r.2.1≠0)∧Pol.sd r)=decide ((if r.2.2 < 0 then -r.2.2 else r.2.2)≤1000):=by
            rw [decide_eq_decide,ab]
            exact ⟨fun w=>w.2.2,fun w=>⟨c,⟨d,d2⟩,w⟩⟩
          rw [← e3]; exact k
        · have d2:=fun w=>of_decide_eq_false d2 ((ab _ _).mpr w)
          rw [decide_eq_false fun w=>d2 w.2.1.2] at k
          exact k
      · have d:=fun w=>of_decide_eq_false d ((ab _ _).mpr w)
        rw [decide_eq_false fun w=>d w.2.1.1] at k
        exact k
theorem rS (B:Blt mg bn) (F:Fun K "is_near" "is_near" qt f fd) (m:mg "is_near" = some (.ref f)) (b:Binds K fd ["place"] [])  :
    Own P w K mg base 1 "is_near" ["place"] (spT 1 false false bH):=by
  refine xS F tz m b rfl (fun cdv A outer s H E hr=>⟨_,_,
    (xl (xN (xC (w_ K rfl) rfl (B.get "all") fG (xc (wy (yy (N:=["top", "bottom"]) (tau:=[none,none]) (XN:=["place"]) (xs:=xk qt) (by decide +kernel) rfl rfl) rfl (wg (yG rfl (yG rfl qg))) (zF K (pv 0)) (fun _ _ _ _=>(yr K (n:=2) rfl (xx (xw (i:=0) (show (["top", "bottom"]:List Str).Nodup by decide +kernel) rfl (Or.inl rfl)) (xx (xw (i:=1) (show (["top", "bottom"]:List Str).Nodup by decide +kernel) rfl (Or.inl rfl)) yo)))) (fun _ _ _ _=>zX) (fun _ _ _ _=>(za sJ (xC zP rfl (B.get "abs") vJ (xc (pv 0) xh)) (xF ya xi (pv 1)) (xR _)))) xh)))),
    (xD (ym kY (xa (OkF.e (yM (yT xf).c (yt (xr xo (xr xo ye))) zf (xm sL (ym vL (xa xf xg)) (xm yl (xB (t:=Tr.int _)) xf)))) xg))),fun ts KK hl h=>?_⟩)
  obtain ⟨fs,rfl,hz,hb,k⟩:=h
  refine ⟨by rw [List.length_map]; exact sqz (by omega),?_⟩
  have ab:∀ i m:Int,decide ((if i < 0 then -i else i)≤12*m)=nearF i m:=fun i m=>by
    unfold nearF
    rw [decide_eq_decide]; split <;> omega
  refine uB (fun x=>match x with | .tup [.int n,.int d]=>.bl (nearF n d) | _=>.non) (fun x hx N hN=>?_) ?_
  · obtain ⟨f,hf,rfl⟩:=List.mem_map.mp hx
    refine ⟨rfl,⟨lW (by decide) (by decide),hb f hf⟩,?_⟩
    show N (.bl (decide ((if f.1 < 0 then -f.1 else f.1)≤12*f.2)))
    rw [ab]; exact hN
  · refine ⟨fs.map fun f=>nearF f.1 f.2,by rw [List.map_map,List.map_map]; rfl,?_⟩
    rw [List.all_map]; exact k
end
end K10
namespace K10
open PySem L2
section
variable {P:Program} {w:World} {K:PySem.W.Frag} {mg:Str→Option Value} {base:Heap} {f:Addr} {fd:FuncData}
theorem gq (B:Blt mg bn) (F:Fun K "need_field" "need_field" uS f fd) (m:mg "need_field" = some (.ref f)) (b:Binds K fd ["thing"] []) (kj:Own P w K mg base 7 "is_field" ["thing"] (spT 1 false false rD)) :
    Own P w K mg base 8 "need_field" ["thing"] (spT 1 false false vF):=by
  refine xS F gC m b rfl (fun cdv A outer s H E hr=>⟨_,_,
    (xl (yK (yD (yB (xt kj hr (xc (pv 0) xh)))) (xl gL) yb)),
    (yq (yi (yw (xK (xa xf xg)))) kW xV),fun ts KK hl h=>?_⟩)
  obtain ⟨t,rfl,hf,k⟩:=h
  refine ⟨t,rfl,?_⟩
  rw [hf]
  exact ⟨rfl,k⟩
theorem jT (B:Blt mg bn) (F:Fun K "is_fraction" "is_fraction" uC f fd) (m:mg "is_fraction" = some (.ref f)) (b:Binds K fd ["thing"] []) (zN:Own P w K mg base 1 "is_whole" ["thing"] (spT 1 false false j8)) (xO:Own P w K mg base 1 "greatest_divisor" ["one", "other"] (spT 2 false false pH)) :
    Own P w K mg base 2 "is_fraction" ["thing"] (spT 1 false false jy):=by
  refine xS F wN m b rfl (fun cdv A outer s H E hr=>⟨_,_,
    (xj (yK (PW.pt (zc (yD (yB (xC yC rfl (B.get "isinstance") xW (xc (pv 0) (xc (yY (v:=V.ty "tuple") rfl (B.get "tuple") yE rfl) xh))))) (zj (xQ (yP hr.units) (xC (yf K) rfl (B.get "len") zd (xc (pv 0) xh)) xi (xR _))))) (xl (xN zS)) yb)
    (xj (zE (pv 0) (yr K (n:=2) rfl (xx (xw (i:=1) wN.nd rfl (Or.inl rfl)) (xx (xw (i:=2) wN.nd rfl (Or.inl rfl)) yo))))
    (xl (xN (qq (xt zN hr (xc (pv 1) xh)) (qq (xt zN hr (xc (pv 2) xh)) (qq (za lh (pv 2) xi (xR _)) (qr (za (zh hr.units) (xt xO hr (xc (pv 1) (xc (pv 2) xh))) xi (xR _)))))))))),
    (xn (yq (yx (yi (yw (zV xf))) (xE (xm zY (ym zz (xa xf xg)) (xB (t:=Tr.int _))))) (xD (xB (t:=Tr.bl _))) xV)
    (xn (yX xf (yt (xr xo (xr xo ye))).g)
    (xD (ug (xK (xa xf xg)) (ug (xK (xa xf xg)) (ug (xm xa8 xf (xB (t:=Tr.int _))) (xm os_eq (xK (xa xf (xa xf xg))) (xB (t:=Tr.int _))))))))),fun ts KK hl h=>?_⟩)
  obtain ⟨t,rfl,k⟩:=h
  cases t with
  | tup us =>
    refine xX (b := !decide ((us.length:Int)=2)) (fun c=>?_) (fun c=>?_)
    · have c:¬ (us.length:Int)=2:=by simpa using c
      have e:uN (.tup us)=false:=by
        unfold uN
        split
        · rename_i z; injection z with z; rw [z] at c; exact absurd rfl c
        · rfl
      rw [e] at k
      exact k
    · have c:us.length=2:=by simp at c; omega
      obtain ⟨x,y,rfl⟩:∃ x y,us=[x,y]:=by
        match us,c with
        | [x,y],_=>exact ⟨x,y,rfl⟩
      refine ⟨rfl,x,rfl,?_⟩
      cases x with
      | int a =>
        refine ⟨y,rfl,?_⟩
        cases y with
        | int b =>
          have e:uN (.tup [.int a,.int b])=(decide (1≤b) && decide (Int.gcd a b=1)):=rfl
          rw [e] at k
          refine xX (b:=decide (1≤b)) (fun c1=>?_) (fun c1=>?_)
          · refine ⟨a,b,rfl,?_⟩
            rw [c1,Bool.true_and] at k
            have e2:decide (((Int.gcd a b:Nat):Int)=1)=decide (Int.gcd a b=1):=by rw [decide_eq_decide]; omega
            show KK (.bl (decide (((Int.gcd a b:Nat):Int)=1)))
            rw [e2]; exact k
          · rw [c1,Bool.false_and] at k; exact k
        | _=>exact k
      | _=>exact k
  | _=>exact k
theorem mr (B:Blt mg bn) (F:Fun K "sum_by" "sum_by" kL f fd) (m:mg "sum_by" = some (.ref f)) (b:Binds K fd ["field", "weights"] []) (yj:Own P w K mg base 8 "need_field" ["thing"] (spT 1 false false vF)) (gD:Own P w K mg base 3 "sum_of" ["rows", "weights"] (spT 2 false false pO)) (y9:Own P w K mg base 3 "are_weights" ["field", "thing"] (spT 2 false false qa)) :
    Own P w K mg base 9 "sum_by" ["field", "weights"] (spT 2 false false mH):=by
  refine xS F f_ m b rfl (fun cdv A outer s H E hr=>⟨_,_,
    (xj (wk (xt yj hr (xc (pv 0) xh)))
    (xj (yK (yD (yB (xt y9 hr (xc (pv 0) (xc (pv 1) xh))))) (xl gL) yb)
    (xl (xN (xt gD hr (xc (pv 0) (xc (pv 1) xh))))))),
    (xn (vm (xK (xa xf xg)))
    (xn (yq (yi (yw (xK (xa xf (xa xf xg))))) kW xV)
    (xD (xK (xa xf (xa xf xg)))))),fun ts KK hl h=>?_⟩)
  obtain ⟨rows,ws,rfl,hf,H0,k⟩:=h
  refine ⟨_,rfl,zL hf,?_⟩
  have ln:(rows.map trR).length=ws.length:=by rw [List.length_map]; exact H0.len
  refine ⟨rows.map trR,_,rfl,by rw [List.length_map]; have:=H0.l100; omega,?_⟩
  rw [ln,lA H0.wt]
  exact ⟨rows,ws,rfl,H0,k⟩
theorem jW (B:Blt mg bn) (F:Fun K "are_weights" "are_weights" wc f fd) (m:mg "are_weights" = some (.ref f)) (b:Binds K fd ["field", "thing"] []) (uI:Own P w K mg base 2 "is_fraction" ["thing"] (spT 1 false false jy)) :
    Own P w K mg base 3 "are_weights" ["field", "thing"] (spT 2 false false qa):=by
  refine xS F jV m b rfl (fun cdv A outer s H E hr=>⟨_,_,
    (xj (yK (PW.pt (zc (yD (yB (xC yC rfl (B.get "isinstance") xW (xc (pv 1) (xc (yY (v:=V.ty "tuple") rfl (B.get "tuple") yE rfl) xh))))) (zj (xQ (yP hr.units) (xC (yf K) rfl (B.get "len") zd (xc (pv 1) xh)) (xC (yf K) rfl (B.get "len") zd (xc (pv 0) xh)) (xR _))))) (xl (xN zS)) yb)
    (xl (xN (xC (w_ K rfl) rfl (B.get "all") fG (xc (wy (yy (N:=["weight"]) (tau:=[none]) (XN:=["field", "thing"]) (xs:=xk wc) (by decide +kernel) rfl rfl) rfl (vj rfl) (zF K (pv 1)) (fun _ _ _ _=>(xw (i:=0) (show (["weight"]:List Str).Nodup by decide +kernel) rfl (Or.inl rfl))) (fun _ _ _ _=>zX) (fun _ _ _ _=>(qq (xt uI hr (xc (pv 0) xh)) (qr (za lh (xP (xq K) (pv 0) xi (fun _ _=>rfl)) xi (xR _)))))) xh))))),
    (xn (yq (yx (yi (yw (zV xf))) (xE (xm zY (ym zz (xa xf xg)) (ym zz (xa xf xg))))) (xD (xB (t:=Tr.bl _))) xV)
    (xD (ym kY (xa (OkF.e (yM (yT xf).c xo zf (ug (xK (xa xf xg)) (xm xa8 (xU xf (xB (t:=Tr.int _))) (xB (t:=Tr.int _)))))) xg)))),fun ts KK hl h=>?_⟩)
  obtain ⟨rs,t,rfl,hl2,k⟩:=h
  cases t with
  | tup us =>
    refine xX (b := !decide ((us.length:Int)=(rs.length:Int))) (fun c=>?_) (fun c=>?_)
    · have c:¬ (us.length:Int)=(rs.length:Int):=by simpa using c
      have e:gv rs.length (.tup us)=false:=by
        show (decide (us.length=rs.length) && us.all wtT)=false
        rw [decide_eq_false (by omega),Bool.false_and]
      rw [e] at k
      exact k
    · have c:(us.length:Int)=(rs.length:Int):=by simpa using c
      have e:gv rs.length (.tup us)=us.all wtT:=by
        show (decide (us.length=rs.length) && us.all wtT)=us.all wtT
        rw [decide_eq_true (by omega),Bool.true_and]
      rw [e] at k
      refine ⟨sqz (by omega),uB (fun u=>.bl (wtT u)) (fun u hu N hN=>?_) ⟨us.map wtT,by rw [List.map_map]; rfl,?_⟩⟩
      · refine ⟨u,rfl,?_⟩
        have no:uN u=false→N (.bl false):=fun z=>by
          have:wtT u=false:=by
            unfold wtT
            split
            · rename_i a b
              have z:(decide (1≤b) && decide (Int.gcd a b=1))=false:=z
              rw [z,Bool.false_and]
            · rfl
          rw [this] at hN; exact hN
        refine xX (b:=uN u) (fun c=>?_) no
        unfold uN at c
        split at c
        · rename_i a b
          have e:wtT (.tup [.int a,.int b])=((decide (1≤b) && decide (Int.gcd a b=1)) && decide (0≤a)):=rfl
          rw [e,c,Bool.true_and] at hN
          exact hN
        · cases c
      · simpa using k
  | _=>exact k
theorem nu (B:Blt mg bn) (F:Fun K "sum_of" "sum_of" kR f fd) (m:mg "sum_of" = some (.ref f)) (b:Binds K fd ["rows", "weights"] []) (vO:Own P w K mg base 2 "whole_sum" ["rows", "weights"] (spT 2 false false fV)) (uk:Own P w K mg base 2 "lowest" ["top", "bottom"] (spT 2 false false xcg)) :
    Own P w K mg base 3 "sum_of" ["rows", "weights"] (spT 2 false false pO):=by
  refine xS F jC m b rfl (fun cdv A outer s H E hr=>⟨_,_,
    (xj (zE (xt vO hr (xc (pv 0) (xc (pv 1) xh))) (yr K (n:=2) rfl (xx (xw (i:=2) jC.nd rfl (Or.inl rfl)) (xx (xw (i:=3) jC.nd rfl (Or.inr rfl)) yo))))
    (xl (xN (wm (wB K) rfl (B.get "tuple") yE (xc (wy (yy (N:=["top", "bottom"]) (tau:=[none,some 3]) (XN:=["rows", "weights", "tops", "bottom"]) (xs:=xk kR) (by decide +kernel) rfl rfl) rfl (vj rfl) (zF K (pv 2)) (fun _ _ _ _=>(xw (i:=0) (show (["top", "bottom"]:List Str).Nodup by decide +kernel) rfl (Or.inl rfl))) (fun _ _ _ _=>zX) (fun _ _ _ _=>(xt uk hr (xc (pv 0) (xc (pv 1) xh))))) xh))))),
    (xn (yX (xK (xa xf (xa xf xg))) (yt (xr xo (xr xo ye))).g)
    (xD (ff (xa (OkF.e (yM (yT xf).c xo zf (xK (xa xf (xa xf xg))))) xg)))),fun ts KK hl h=>?_⟩)
  obtain ⟨rows,ws,rfl,H0,k⟩:=h
  refine ⟨rows,ws,rfl,H0,fun a b' c D ha hb hc hD=>?_⟩
  refine ⟨rfl,sqz (by show 3≤1000000; decide),?_⟩
  have hz:∀ x∈rows.zip ws,0 < x.2.2:=fun x hx=>(H0.zip hx).2.pos
  have nz:D≠0:=by have:=ha.pd; omega
  refine ⟨_,_,rfl,nz,hD,_,_,rfl,nz,hD,_,_,rfl,nz,hD,?_⟩
  have e:∀ {k:Pol.R3→Int} {n:Int},Sd (wsum k (rows.zip ws)) n D→frT (dZ n D) (fo n D)=fT (wsum k (rows.zip ws)):=fun {k n} h=>by
    rw [bZ h.pd,h.low (cO k _ hz)]
  rw [e ha,e hb,e hc]
  exact k
theorem dN (B:Blt mg bn) (F:Fun K "whole_sum" "whole_sum" wu f fd) (m:mg "whole_sum" = some (.ref f)) (b:Binds K fd ["rows", "weights"] []) (xO:Own P w K mg base 1 "greatest_divisor" ["one", "other"] (spT 2 false false pH)) :
    Own P w K mg base 2 "whole_sum" ["rows", "weights"] (spT 2 false false fV):=by
  refine xS F yp m b rfl (fun cdv A outer s H E hr=>⟨_,_,
    (xj (vx (i:=2) yp.nd rfl (Or.inl rfl) (yy (N:=["row", "weight"]) (tau:=[none,none]) (XN:=["rows", "weights", "used", "bottom", "row", "weight", "tops", "many"]) (xs:=xk wu) (by decide +kernel) rfl rfl) rfl (wg (yG rfl (yG rfl qg))) (gy K rfl (B.get "zip") (xc (pv 0) (xc (pv 1) xh))) (fun _ _ _ _=>(yr K (n:=2) rfl (xx (xw (i:=0) (show (["row", "weight"]:List Str).Nodup by decide +kernel) rfl (Or.inl rfl)) (xx (xw (i:=1) (show (["row", "weight"]:List Str).Nodup by decide +kernel) rfl (Or.inl rfl)) yo)))) (fun _ _ _ _=>(ah (xQ (yP hr.units) (xP (xq K) (pv 1) xi (fun _ _=>rfl)) xi (xR _)))) (fun _ _ _ _=>(xJ (xc (pv 0) (xc (pv 1) xh)))))
    (xj (yc (i:=3) yp.nd rfl (Or.inl rfl) xi)
    (xj (wH PassesOwn.never rfl (zF K (pv 2)) (yr K (n:=2) rfl (xx (xw (i:=4) yp.nd rfl (Or.inl rfl)) (xx (xw (i:=5) yp.nd rfl (Or.inl rfl)) yo))) (xl (yc (i:=3) yp.nd rfl (Or.inl rfl) (xF ya (xF wq (pv 3) (xt xO hr (xc (pv 3) (xc (xP (xq K) (pv 5) xi (fun _ _=>rfl)) xh)))) (xP (xq K) (pv 5) xi (fun _ _=>rfl))))))
    (xj (yc (i:=6) yp.nd rfl (Or.inl rfl) (yU (xc xi (xc xi (xc xi xh)))))
    (xj (wH PassesOwn.never rfl (zF K (pv 2)) (yr K (n:=2) rfl (xx (xw (i:=4) yp.nd rfl (Or.inl rfl)) (xx (xw (i:=5) yp.nd rfl (Or.inl rfl)) yo))) (xj (yc (i:=7) yp.nd rfl (Or.inr rfl) (xF ya (xF wq (pv 3) (xP (xq K) (pv 5) xi (fun _ _=>rfl))) (xP (xq K) (pv 5) xi (fun _ _=>rfl))))
    (xl (vx (i:=6) yp.nd rfl (Or.inl rfl) (yy (N:=["top", "number", "many"]) (tau:=[none,none,some 7]) (XN:=["rows", "weights", "used", "bottom", "row", "weight", "tops", "many"]) (xs:=xk wu) (by decide +kernel) rfl rfl) rfl (wg (yG rfl (yG rfl qg))) (gy K rfl (B.get "zip") (xc (pv 6) (xc (pv 4) xh))) (fun _ _ _ _=>(yr K (n:=2) rfl (xx (xw (i:=0) (show (["top", "number", "many"]:List Str).Nodup by decide +kernel) rfl (Or.inl rfl)) (xx (xw (i:=1) (show (["top", "number", "many"]:List Str).Nodup by decide +kernel) rfl (Or.inl rfl)) yo)))) (fun _ _ _ _=>zX) (fun _ _ _ _=>(xF zp (pv 0) (xF ya (pv 2) (pv 1))))))))
    (xl (xN (xJ (xc (pv 6) (xc (pv 3) xh)))))))))),
    (xn (x9 (OkF.e (yM (kS (xa xf (xa xf xg))).c (yt (xr xo (xr xo ye))) (xE (xm zY (xU xf (xB (t:=Tr.int _))) (xB (t:=Tr.int _)))) (xM (b:=true) (xa xf (xa xf xg))))))
    (xn (x9 (xB (t:=Tr.int _)))
    (xn (zC (yT xf) (yt (xr xo (xr xo ye))).g (x9 (xm yl (xm uP xf (xK (xa xf (xa (xU xf (xB (t:=Tr.int _))) xg)))) (xU xf (xB (t:=Tr.int _))))))
    (xn (x9 (zR (b:=true) (xa (xB (t:=Tr.int _)) (xa (xB (t:=Tr.int _)) (xa (xB (t:=Tr.int _)) xg)))))
    (xn (zC (yT xf) (yt (xr xo (xr xo ye))).g (xn (x9 (xm yl (xm uP xf (xU xf (xB (t:=Tr.int _)))) (xU xf (xB (t:=Tr.int _)))))
    (x9 (OkF.e (yM (kS (xa xf (xa xf xg))).c (yt (xr xo (xr xo ye))) zf (xm wK xf (xm yl xf xf)))))))
    (xD (xM (b:=true) (xa xf (xa xf xg))))))))),fun ts KK hl h=>?_⟩)
  obtain ⟨rows,ws,rfl,H0,k⟩:=h
  have hl8:=H0.l100
  have hlen:=H0.len
  have zl:(rows.zip ws).length=rows.length:=by rw [List.length_zip]; omega
  have hz:=fun x hx=>H0.zip (x:=x) hx
  have hu:∀ x∈(rows.zip ws).filter jQ,B3k 10 x.1∧Wt x.2:=fun x hx=>hz x (List.mem_filter.mp hx).1
  have ul:((rows.zip ws).filter jQ).length≤8:=by have:=List.length_filter_le jQ (rows.zip ws); omega
  refine xZ (fun τ=>τ=[.fz (.tup (rows.map trR)),.fz (.tup (ws.map fT)),.fz (.lst (((rows.zip ws).filter jQ).map rwT)),.un,.un,.un,.un,.un]) ?_ (fun N hN=>?_)
  rotate_left
  · show (rV (rows.map trR) (ws.map fT)).length < sizeLine∧_
    rw [gF]
    refine ⟨by rw [List.length_map]; exact sqz (by omega),fR jQ rwT (fun x hx N M h1 h0=>?_) (hN _ rfl)⟩
    exact ⟨rfl,xX (b := !decide (x.2.1=0)) h1 h0⟩
  rintro _ rfl
  rw [← jG k0 _ fun x hx=>(hz x hx).2,← jG k1 _ fun x hx=>(hz x hx).2,← jG k2 _ fun x hx=>(hz x hx).2] at k
  generalize (rows.zip ws).filter jQ=U at hu ul k
  refine xZ (fun τ=>τ=[.fz (.tup (rows.map trR)),.fz (.tup (ws.map fT)),.fz (.lst (U.map rwT)),.fz (.int 1),.un,.un,.un,.un]) ?_ (fun N hN=>hN _ rfl)
  rintro _ rfl
  refine xZ (fun τ=>∃ (D:Int) (x4 x5:TV),(0 < D∧Bk 330 D∧∀ x∈U,x.2.2 ∣ D)∧τ=[.fz (.tup (rows.map trR)),.fz (.tup (ws.map fT)),.fz (.lst (U.map rwT)),.fz (.int D),x4,x5,.un,.un]) ?_ (fun N hN=>?_)
  rotate_left
  · refine vB (U.map rwT) (fun i τ=>∃ (D:Int) (x4 x5:TV),(0 < D∧Bk (1+40*i) D∧∀ x∈U.take i,x.2.2 ∣ D)∧τ=[.fz (.tup (rows.map trR)),.fz (.tup (ws.map fT)),.fz (.lst (U.map rwT)),.fz (.int D),x4,x5,.un,.un]) (fun KK h=>h) ⟨1,_,_,⟨by decide,by unfold Bk; decide,fun x hx=>by simp at hx⟩,rfl⟩ ?_ (fun τ h=>?_)
    rotate_left
    · obtain ⟨D,x4,x5,⟨d1,d2,d3⟩,rfl⟩:=h
      rw [List.length_map] at d2 d3
      rw [List.take_length] at d3
      exact hN _ ⟨D,_,_,⟨d1,d2.mono (by omega),d3⟩,rfl⟩
    rintro i x τ N2 hx ⟨D,x4,x5,⟨d1,d2,d3⟩,rfl⟩ hN2
    obtain ⟨y,hy,rfl⟩:=vT hx
    have il:i < U.length:=(List.getElem?_eq_some_iff.mp hy).1
    obtain ⟨hr,hw⟩:=hu y (List.mem_of_getElem? hy)
    have bD:Bk 330 D:=d2.mono (by omega)
    obtain ⟨s1,s2,s3,s4⟩:=bY d1 hw.pos
    have g0:(0:Int) < (Int.gcd D y.2.2:Nat):=by have:=Int.gcd_pos_of_ne_zero_right D (show y.2.2≠0 by have:=hw.pos; omega); omega
    have bg:Bd (Int.gcd D y.2.2:Nat):=by
      have:=Int.gcd_le_natAbs_left y.2.2 (show D≠0 by omega)
      exact (bD.le (by omega)).bd
    have bq:Bk 330 (D.fdiv (Int.gcd D y.2.2:Nat)):=by
      rw [y2 (by omega)]
      exact bD.le (Int.natAbs_ediv_le_natAbs _ _)
    refine ⟨rfl,D,y.2.2,rfl,⟨by omega,bg⟩,⟨bq.bd,hw.sm.bot.bd⟩,?_⟩
    have e:D.fdiv (Int.gcd D y.2.2:Nat)*y.2.2=D / (Int.gcd D y.2.2:Nat)*y.2.2:=by rw [y2 (by omega)]
    refine hN2 _ ⟨D / (Int.gcd D y.2.2:Nat)*y.2.2,.fz (trR y.1),.fz (fT y.2),⟨s1,?_,fun z hz'=>?_⟩,by rw [← e]; rfl⟩
    · exact ((d2.mul hw.sm.bot).le s4).mono (by omega)
    · rw [List.take_succ,hy] at hz'
      rcases List.mem_append.mp hz' with h | h
      · exact Int.dvd_trans (d3 z h) s2
      · simp at h; rw [h]; exact s3
  rintro _ ⟨D,x4,x5,⟨d1,d2,d3⟩,rfl⟩
  refine xZ (fun τ=>τ=[.fz (.tup (rows.map trR)),.fz (.tup (ws.map fT)),.fz (.lst (U.map rwT)),.fz (.int D),x4,x5,.fz (.lst [.int 0,.int 0,.int 0]),.un]) ?_ (fun N hN=>hN _ rfl)
  rintro _ rfl
  refine xZ (fun τ=>∃ (a b c:Int) (x4 x5 x7:TV),(Sd (wsum k0 U) a D∧Sd (wsum k1 U) b D∧Sd (wsum k2 U) c D)∧τ=[.fz (.tup (rows.map trR)),.fz (.tup (ws.map fT)),.fz (.lst (U.map rwT)),.fz (.int D),x4,x5,.fz (.lst [.int a,.int b,.int c]),x7]) ?_ (fun N hN=>?_)
  · rintro _ ⟨a,b',c,x4,x5,x7,⟨h1,h2,h3⟩,rfl⟩
    exact k a b' c D h1 h2 h3 d2.bd
  have z0:∀ k:Pol.R3→Int,Sd (wsum k []) 0 D:=fun k=>⟨by show (0:Int) < 1; decide,d1,by show (0:Int)*D=0*1; omega⟩
  refine vB (U.map rwT) (fun i τ=>∃ (a b c:Int) (x4 x5 x7:TV),(Sd (wsum k0 (U.take i)) a D∧Sd (wsum k1 (U.take i)) b D∧Sd (wsum k2 (U.take i)) c D)∧τ=[.fz (.tup (rows.map trR)),.fz (.tup (ws.map fT)),.fz (.lst (U.map rwT)),.fz (.int D),x4,x5,.fz (.lst [.int a,.int b,.int c]),x7]) (fun KK h=>h) ⟨0,0,0,_,_,_,⟨z0 _,z0 _,z0 _⟩,rfl⟩ ?_ (fun τ h=>?_)
  rotate_left
  · obtain ⟨a,b',c,x4,x5,x7,hs,rfl⟩:=h
    rw [List.length_map,List.take_length] at hs
    exact hN _ ⟨a,b',c,_,_,_,hs,rfl⟩
  rintro i x τ N2 hx ⟨a,b',c,x4,x5,x7,⟨h1,h2,h3⟩,rfl⟩ hN2
  obtain ⟨y,hy,rfl⟩:=vT hx
  obtain ⟨hr,hw⟩:=hu y (List.mem_of_getElem? hy)
  have dv:=d3 y (List.mem_of_getElem? hy)
  have qe:y.2.2*D.fdiv y.2.2=D:=by rw [y2 (Int.le_of_lt hw.pos)]; exact Int.mul_ediv_cancel' dv
  have bq:Bk 330 (D.fdiv y.2.2):=by
    rw [y2 (Int.le_of_lt hw.pos)]
    exact d2.le (Int.natAbs_ediv_le_natAbs _ _)
  have bm:=bq.mul hw.sm.top
  have tk1:U.take (i+1)=U.take i++[y]:=by rw [List.take_succ,hy]; rfl
  refine ⟨rfl,⟨by have:=hw.pos; show y.2.2≠0; omega,hw.sm.bot.bd⟩,⟨bq.bd,hw.sm.top.bd⟩,sqz (by show 3≤1000000; decide),?_⟩
  refine ⟨rfl,⟨bm.bd,hr.1.1.bd⟩,rfl,⟨bm.bd,hr.1.2.bd⟩,rfl,⟨bm.bd,hr.2.bd⟩,?_⟩
  refine hN2 _ ⟨_,_,_,_,_,_,⟨?_,?_,?_⟩,rfl⟩
  · rw [tk1,wsum_snoc]; exact h1.plusD (nY hw.pos d1 qe)
  · rw [tk1,wsum_snoc]; exact h2.plusD (nY hw.pos d1 qe)
  · rw [tk1,wsum_snoc]; exact h3.plusD (nY hw.pos d1 qe)
theorem nJ (B:Blt mg bn) (F:Fun K "cut_by" "cut_by" qw f fd) (m:mg "cut_by" = some (.ref f)) (b:Binds K fd ["field", "weights"] []) (vo:Own P w K mg base 1 "cut_of" ["totals"] (spT 1 false false m7)) (vv:Own P w K mg base 9 "sum_by" ["field", "weights"] (spT 2 false false mH)) :
    Own P w K mg base 10 "cut_by" ["field", "weights"] (spT 2 false false oa):=by
  refine xS F jt m b rfl (fun cdv A outer s H E hr=>⟨_,_,
    (xl (xN (xt vo hr (xc (xt vv hr (xc (pv 0) (xc (pv 1) xh))) xh)))),
    (xD (xK (xa (xK (xa xf (xa xf xg))) xg))),fun ts KK hl h=>?_⟩)
  obtain ⟨rows,ws,rfl,hf,H0,hc,k⟩:=h
  refine ⟨rows,ws,rfl,hf,H0,_,_,_,rfl,?_,hc,k⟩
  have f:=g9 k2 (rows.zip ws) fun x hx=>⟨(H0.zip hx).2.sm,(H0.zip hx).1.2⟩
  have:(rows.zip ws).length≤8:=by rw [List.length_zip]; have:=H0.l100; omega
  exact ⟨f.pos,(f.bot.mono (show 1+51*(rows.zip ws).length≤500 by omega)).bd⟩
theorem nG (B:Blt mg bn) (F:Fun K "cut_of" "cut_of" kP f fd) (m:mg "cut_of" = some (.ref f)) (b:Binds K fd ["totals"] [])  :
    Own P w K mg base 1 "cut_of" ["totals"] (spT 1 false false m7):=by
  refine xS F zU m b rfl (fun cdv A outer s H E hr=>⟨_,_,
    (xj (zE (pv 0) (yr K (n:=3) rfl (xx (xw (i:=1) zU.nd rfl (Or.inl rfl)) (xx (xw (i:=2) zU.nd rfl (Or.inl rfl)) (xx (xw (i:=3) zU.nd rfl (Or.inl rfl)) yo)))))
    (xj (yK (PW.pt (zc (xQ (yP hr.units) (xP (xq K) (pv 1) xi (fun _ _=>rfl)) xi (xR _)) (zc (xQ (yP hr.units) (xP (xq K) (pv 2) xi (fun _ _=>rfl)) xi (xR _)) (zj (PW.pt (j6 (xQ (zh hr.units) (xP (xq K) (pv 1) xi (fun _ _=>rfl)) xi (xR _)) (qK (xQ (zh hr.units) (xP (xq K) (pv 2) xi (fun _ _=>rfl)) xi (xR _))))))))) (xl gL) yb)
    (xl (xN (xJ (xc (xP (xq K) (pv 1) xi (fun _ _=>rfl)) (xc (xP (xq K) (pv 2) xi (fun _ _=>rfl)) (xc (xF wq (xP (xq K) (pv 3) xi (fun _ _=>rfl)) (xP (xq K) (pv 3) xi (fun _ _=>rfl))) xh)))))))),
    (xn (yX xf (yt (xr xo (xr xo (xr xo ye)))).g)
    (xn (yq (yx (xE (xm zY (xU xf (xB (t:=Tr.int _))) (xB (t:=Tr.int _)))) (yx (xE (xm zY (xU xf (xB (t:=Tr.int _))) (xB (t:=Tr.int _)))) (qQ (xE (xm os_eq (xU xf (xB (t:=Tr.int _))) (xB (t:=Tr.int _)))) (xE (xm os_eq (xU xf (xB (t:=Tr.int _))) (xB (t:=Tr.int _))))))) kW xV)
    (xD (xM (b:=true) (xa (xU xf (xB (t:=Tr.int _))) (xa (xU xf (xB (t:=Tr.int _))) (xa (xm uP (xU xf (xB (t:=Tr.int _))) (xU xf (xB (t:=Tr.int _)))) xg))))))),fun ts KK hl h=>?_⟩)
  obtain ⟨a,b',c,rfl,hc,⟨h1,h2,h3⟩,k⟩:=h
  refine ⟨rfl,?_⟩
  have cn:c.2≠0:=by omega
  refine xX (b := !decide (a.2=1)) (fun z=>?_) (fun _=>?_)
  · simp [h1] at z
  refine xX (b := !decide (b'.2=1)) (fun z=>?_) (fun _=>?_)
  · simp [h2] at z
  refine xX (b:=decide (a.1=0)) (fun z=>?_) (fun _=>?_)
  · have z:=of_decide_eq_true z
    refine xX (b:=decide (b'.1=0)) (fun z2=>?_) (fun _=>?_)
    · exact absurd ⟨z,of_decide_eq_true z2⟩ h3
    · exact ⟨⟨cn,hc.2⟩,k⟩
  · exact ⟨⟨cn,hc.2⟩,k⟩
theorem u_ (B:Blt mg bn) (F:Fun K "sum_by" "sum_by" kL f fd) (m:mg "sum_by" = some (.ref f)) (b:Binds K fd ["field", "weights"] []) {a_NoWeights:Addr} (O_NoWeights:PyProof.Rows.OwnCls "NoWeights" a_NoWeights xbH "ValueError.__new__" mg base) (yj:Own P w K mg base 8 "need_field" ["thing"] (spT 1 false false vF)) (y9:Own P w K mg base 3 "are_weights" ["field", "thing"] (spT 2 false false qa)) :
    sk P w K mg base 9 "sum_by" ["field", "weights"] (spX 2 a_NoWeights a_):=by
  refine qz F f_ m b rfl (fun cdv A outer s H E hr=>⟨_,
    (xj (wk (xt yj hr (xc (pv 0) xh)))
    (xj (yK (yD (yB (xt y9 hr (xc (pv 0) (xc (pv 1) xh))))) (xl (aw O_NoWeights PySem.F.excBase_ValueError (xc oh xh))) vy) vy)),fun BB hE=>⟨_,
    (oE (fr:=false) (vm (xK (xa xf xg)))
    (pM (xaQ (yi (yw (xK (xa xf (xa xf xg))))) (rn hE (xa (xB (t:=Tr.str _)) xg)) rH))),fun ts hl h=>?_⟩⟩)
  obtain ⟨rows,t,rfl,hf,hw⟩:=h
  have l8:=(xa9 hf).1.2
  refine ⟨_,rfl,zL hf,rows.map trR,t,rfl,by rw [List.length_map]; omega,?_⟩
  rw [List.length_map,hw]
  exact trivial
theorem u6 (B:Blt mg bn) (F:Fun K "cut_by" "cut_by" qw f fd) (m:mg "cut_by" = some (.ref f)) (b:Binds K fd ["field", "weights"] []) {a_NoWeights:Addr} (vo:Own P w K mg base 1 "cut_of" ["totals"] (spT 1 false false m7)) (ox_sum_by__NoWeights:sk P w K mg base 9 "sum_by" ["field", "weights"] (spX 2 a_NoWeights a_)) :
    sk P w K mg base 10 "cut_by" ["field", "weights"] (spX 2 a_NoWeights a_):=by
  refine qz F jt m b rfl (fun cdv A outer s H E hr=>⟨_,
    (xl (xN (xt vo hr (xc (bJ ox_sum_by__NoWeights hr oo (xc (pv 0) (xc (pv 1) xh))) xh)))),fun BB hE=>⟨_,
    (oq (xaV (cq (nh hE (xa xf (xa xf xg)))))),fun ts hl h=>?_⟩⟩)
  obtain ⟨rows,t,rfl,hf,hw⟩:=h
  exact ⟨rows,t,rfl,hf,hw⟩
theorem kg (B:Blt mg bn) (F:Fun K "cut_of" "cut_of" kP f fd) (m:mg "cut_of" = some (.ref f)) (b:Binds K fd ["totals"] []) {a_NoCut:Addr} (O_NoCut:PyProof.Rows.OwnCls "NoCut" a_NoCut xbH "ValueError.__new__" mg base) :
    sk P w K mg base 1 "cut_of" ["totals"] (spX 1 a_NoCut oi):=by
  refine qz F zU m b rfl (fun cdv A outer s H E hr=>⟨_,
    (xj (zE (pv 0) (yr K (n:=3) rfl (xx (xw (i:=1) zU.nd rfl (Or.inl rfl)) (xx (xw (i:=2) zU.nd rfl (Or.inl rfl)) (xx (xw (i:=3) zU.nd rfl (Or.inl rfl)) yo)))))
    (xj (yK (PW.pt (zc (xQ (yP hr.units) (xP (xq K) (pv 1) xi (fun _ _=>rfl)) xi (xR _)) (zc (xQ (yP hr.units) (xP (xq K) (pv 2) xi (fun _ _=>rfl)) xi (xR _)) (zj (PW.pt (j6 (xQ (zh hr.units) (xP (xq K) (pv 1) xi (fun _ _=>rfl)) xi (xR _)) (qK (xQ (zh hr.units) (xP (xq K) (pv 2) xi (fun _ _=>rfl)) xi (xR _))))))))) (xl (aw O_NoCut PySem.F.excBase_ValueError (xc oh xh))) vy) vy)),fun BB hE=>⟨_,
    (oE (fr:=false) (yX xf (yt (xr xo (xr xo (xr xo ye)))).g)
    (pM (xaQ (yx (xE (xm zY (xU xf (xB (t:=Tr.int _))) (xB (t:=Tr.int _)))) (yx (xE (xm zY (xU xf (xB (t:=Tr.int _))) (xB (t:=Tr.int _)))) (qQ (xE (xm os_eq (xU xf (xB (t:=Tr.int _))) (xB (t:=Tr.int _)))) (xE (xm os_eq (xU xf (xB (t:=Tr.int _))) (xB (t:=Tr.int _))))))) (rn hE (xa (xB (t:=Tr.str _)) xg)) rH))),fun ts hl h=>?_⟩⟩)
  obtain ⟨a,b',c,rfl,hn⟩:=h
  refine ⟨rfl,?_⟩
  refine xX (b := !decide (a.2=1)) (fun z=>trivial) (fun z1=>?_)
  have z1:a.2=1:=by simpa using z1
  refine xX (b := !decide (b'.2=1)) (fun z=>trivial) (fun z2=>?_)
  have z2:b'.2=1:=by simpa using z2
  refine xX (b:=decide (a.1=0)) (fun z=>?_) (fun z3=>?_)
  · have z3:=of_decide_eq_true z
    refine xX (b:=decide (b'.1=0)) (fun z2=>trivial) (fun z4=>?_)
    exact absurd ⟨z1,z2,fun y=>of_decide_eq_false z4 y.2⟩ hn
  · exact absurd ⟨z1,z2,fun y=>of_decide_eq_false z3 y.1⟩ hn
theorem q9 (B:Blt mg bn) (F:Fun K "cut_by" "cut_by" qw f fd) (m:mg "cut_by" = some (.ref f)) (b:Binds K fd ["field", "weights"] []) {a_NoCut:Addr} (vv:Own P w K mg base 9 "sum_by" ["field", "weights"] (spT 2 false false mH)) (ox_cut_of__NoCut:sk P w K mg base 1 "cut_of" ["totals"] (spX 1 a_NoCut oi)) :
    sk P w K mg base 10 "cut_by" ["field", "weights"] (spX 2 a_NoCut p5):=by
  refine qz F jt m b rfl (fun cdv A outer s H E hr=>⟨_,
    (xl (xN (bJ ox_cut_of__NoCut hr oo (xc (xt vv hr (xc (pv 0) (xc (pv 1) xh))) xh)))),fun BB hE=>⟨_,
    (oq (nh hE (xa (xK (xa xf (xa xf xg))) xg))),fun ts hl h=>?_⟩⟩)
  obtain ⟨rows,ws,rfl,hf,H0,hc⟩:=h
  exact ⟨rows,ws,rfl,hf,H0,_,_,_,rfl,hc⟩
end
end K10
namespace K10
open PySem L2
section
variable {P:Program} {w:World} {K:PySem.W.Frag} {mg:Str→Option Value} {base:Heap} {f:Addr} {fd:FuncData}
theorem sR (B:Blt mg bn) (F:Fun K "is_paper" "is_paper" kb f fd) (m:mg "is_paper" = some (.ref f)) (b:Binds K fd ["field", "thing"] []) (yj:Own P w K mg base 8 "need_field" ["thing"] (spT 1 false false vF)) (zZ:Own P w K mg base 3 "is_row" ["thing"] (spT 1 false false mO)) (kN:Own P w K mg base 10 "cut_by" ["field", "weights"] (spT 2 false false oa)) {a_NoWeights a_NoCut:Addr} (m_NoWeights:mg "NoWeights" = some (.ref a_NoWeights)) (m_NoCut:mg "NoCut" = some (.ref a_NoCut)) (h_NoWeights:PySem.W.exmAny K (.ref a_NoWeights) [.ref a_NoWeights,.ref a_NoCut]=some true) (h_NoCut:PySem.W.exmAny K (.ref a_NoCut) [.ref a_NoWeights,.ref a_NoCut]=some true) (ox_cut_by__NoWeights:sk P w K mg base 10 "cut_by" ["field", "weights"] (spX 2 a_NoWeights a_)) (ox_cut_by__NoCut:sk P w K mg base 10 "cut_by" ["field", "weights"] (spX 2 a_NoCut p5)) :
    Own P w K mg base 11 "is_paper" ["field", "thing"] (spT 2 false false aB):=by
  refine nS F sA m b rfl (fun cdv A outer s H E hr ts KK hl h=>?_)
  obtain ⟨rows,t,rfl,hf,hp,k⟩:=h
  by_cases sh:∃ w r,t=.tup [w,r]∧wA r=true
  · obtain ⟨w',r',rfl,hr'⟩:=sh
    obtain ⟨r,rfl,hnz⟩:=jl hr'
    obtain ⟨⟨pw,pr⟩,hw⟩:=hp w' (trR r) rfl
    have e0:ud rows (.tup [w',trR r])=(gv rows.length w' && cP rows w' (trR r)):=by
      show ((wA (trR r) && gv rows.length w') && cP rows w' (trR r))=_
      rw [hr',Bool.true_and]
    rw [e0] at k
    cases ha:gv rows.length w' with
    | false =>
      rw [ha,Bool.false_and] at k
      refine ⟨_,_,(xj (wk (xt yj hr (xc (pv 0) xh)))
    (xj (yK (PW.pt (zc (yD (yB (xC yC rfl (B.get "isinstance") xW (xc (pv 1) (xc (yY (v:=V.ty "tuple") rfl (B.get "tuple") yE rfl) xh))))) (zc (xQ (yP hr.units) (xC (yf K) rfl (B.get "len") zd (xc (pv 1) xh)) xi (xR _)) (zj (yD (yB (xt zZ hr (xc (xP (xq K) (pv 1) xi (fun _ _=>rfl)) xh)))))))) (xl (xN zS)) yb)
    (xl (m_ ox_cut_by__NoWeights hr (xc (pv 0) (xc (xP (xq K) (pv 1) xi (fun _ _=>rfl)) xh)) (fun _ _ z=>z) rfl rfl m_NoWeights m_NoCut h_NoWeights (fun _=>(xl (xN zS))))))),(xn (vm (xK (xa xf xg)))
    (xn (yq (yx (yi (yw (zV xf))) (yx (xE (xm zY (ym zz (xa xf xg)) (xB (t:=Tr.int _)))) (yi (yw (xK (xa (xU xf (xB (t:=Tr.int _))) xg)))))) (xD (xB (t:=Tr.bl _))) xV)
    (aF (xa xf (xa (xU xf (xB (t:=Tr.int _))) xg)) (xD (xB (t:=Tr.bl _)))))),?_⟩
      refine ⟨_,rfl,zL hf,?_⟩
      refine ⟨trR r,rfl,?_⟩
      rw [hr']
      exact ⟨⟨rows,w',rfl,hf,ha⟩,k⟩
    | true =>
      obtain ⟨ws,rfl,hg⟩:=hw ha
      have H0:=xa9.ws hf hg
      rw [ha,Bool.true_and] at k
      have e1:cP rows (wsT ws) (trR r)=(decide (vZ (wsum k0 (rows.zip ws)) (wsum k1 (rows.zip ws))) && teq (jS (rows.zip ws)) (trR r)):=by unfold cP; rw [rO]
      rw [e1] at k
      by_cases hc:vZ (wsum k0 (rows.zip ws)) (wsum k1 (rows.zip ws))
      · rw [decide_eq_true hc,Bool.true_and] at k
        refine ⟨_,_,(xj (wk (xt yj hr (xc (pv 0) xh)))
    (xj (yK (PW.pt (zc (yD (yB (xC yC rfl (B.get "isinstance") xW (xc (pv 1) (xc (yY (v:=V.ty "tuple") rfl (B.get "tuple") yE rfl) xh))))) (zc (xQ (yP hr.units) (xC (yf K) rfl (B.get "len") zd (xc (pv 1) xh)) xi (xR _)) (zj (yD (yB (xt zZ hr (xc (xP (xq K) (pv 1) xi (fun _ _=>rfl)) xh)))))))) (xl (xN zS)) yb)
    (xl (mY (za (zh hr.units) (xt kN hr (xc (pv 0) (xc (xP (xq K) (pv 1) xi (fun _ _=>rfl)) xh))) (xP (xq K) (pv 1) xi (fun _ _=>rfl)) (xR _)) (fun _ _ z=>z))))),(xn (vm (xK (xa xf xg)))
    (xn (yq (yx (yi (yw (zV xf))) (yx (xE (xm zY (ym zz (xa xf xg)) (xB (t:=Tr.int _)))) (yi (yw (xK (xa (xU xf (xB (t:=Tr.int _))) xg)))))) (xD (xB (t:=Tr.bl _))) xV)
    (xD (xm os_eq (xK (xa xf (xa (xU xf (xB (t:=Tr.int _))) xg))) (xU xf (xB (t:=Tr.int _))))))),?_⟩
        refine ⟨_,rfl,zL hf,?_⟩
        refine ⟨trR r,rfl,?_⟩
        rw [hr']
        exact ⟨rows,ws,rfl,hf,H0,hc,⟨rfl,rfl,by show min 1 1≤64; decide⟩,k⟩
      · rw [decide_eq_false hc,Bool.false_and] at k
        refine ⟨_,_,(xj (wk (xt yj hr (xc (pv 0) xh)))
    (xj (yK (PW.pt (zc (yD (yB (xC yC rfl (B.get "isinstance") xW (xc (pv 1) (xc (yY (v:=V.ty "tuple") rfl (B.get "tuple") yE rfl) xh))))) (zc (xQ (yP hr.units) (xC (yf K) rfl (B.get "len") zd (xc (pv 1) xh)) xi (xR _)) (zj (yD (yB (xt zZ hr (xc (xP (xq K) (pv 1) xi (fun _ _=>rfl)) xh)))))))) (xl (xN zS)) yb)
    (xl (m_ ox_cut_by__NoCut hr (xc (pv 0) (xc (xP (xq K) (pv 1) xi (fun _ _=>rfl)) xh)) (fun _ _ z=>z) rfl rfl m_NoWeights m_NoCut h_NoCut (fun _=>(xl (xN zS))))))),(xn (vm (xK (xa xf xg)))
    (xn (yq (yx (yi (yw (zV xf))) (yx (xE (xm zY (ym zz (xa xf xg)) (xB (t:=Tr.int _)))) (yi (yw (xK (xa (xU xf (xB (t:=Tr.int _))) xg)))))) (xD (xB (t:=Tr.bl _))) xV)
    (aF (xa xf (xa (xU xf (xB (t:=Tr.int _))) xg)) (xD (xB (t:=Tr.bl _)))))),?_⟩
        refine ⟨_,rfl,zL hf,?_⟩
        refine ⟨trR r,rfl,?_⟩
        rw [hr']
        exact ⟨⟨rows,ws,rfl,hf,H0,hc⟩,k⟩
  · have nr:∀ w r,t=.tup [w,r]→wA r=false:=fun w r e=>Bool.eq_false_iff.mpr fun z=>sh ⟨w,r,e,z⟩
    have e0:ud rows t=false:=by
      unfold ud
      split
      · rename_i w r
        rw [nr w r rfl]; rfl
      · rfl
    rw [e0] at k
    refine ⟨_,_,(xj (wk (xt yj hr (xc (pv 0) xh)))
    (xj (yK (PW.pt (zc (yD (yB (xC yC rfl (B.get "isinstance") xW (xc (pv 1) (xc (yY (v:=V.ty "tuple") rfl (B.get "tuple") yE rfl) xh))))) (zc (xQ (yP hr.units) (xC (yf K) rfl (B.get "len") zd (xc (pv 1) xh)) xi (xR _)) (zj (yD (yB (xt zZ hr (xc (xP (xq K) (pv 1) xi (fun _ _=>rfl)) xh)))))))) (xl (xN zS)) yb)
    (xl (mY (za (zh hr.units) (xt kN hr (xc (pv 0) (xc (xP (xq K) (pv 1) xi (fun _ _=>rfl)) xh))) (xP (xq K) (pv 1) xi (fun _ _=>rfl)) (xR _)) (fun _ _ z=>z))))),(xn (vm (xK (xa xf xg)))
    (xn (yq (yx (yi (yw (zV xf))) (yx (xE (xm zY (ym zz (xa xf xg)) (xB (t:=Tr.int _)))) (yi (yw (xK (xa (xU xf (xB (t:=Tr.int _))) xg)))))) (xD (xB (t:=Tr.bl _))) xV)
    (xD (xm os_eq (xK (xa xf (xa (xU xf (xB (t:=Tr.int _))) xg))) (xU xf (xB (t:=Tr.int _))))))),?_⟩
    refine ⟨_,rfl,zL hf,?_⟩
    cases t with
    | tup us =>
      refine xX (b := !decide ((us.length:Int)=2)) (fun c=>?_) (fun c=>?_)
      · exact k
      · have c:us.length=2:=by simp at c; omega
        obtain ⟨x,y,rfl⟩:∃ x y,us=[x,y]:=by
          match us,c with
          | [x,y],_=>exact ⟨x,y,rfl⟩
        refine ⟨y,rfl,?_⟩
        rw [nr x y rfl]
        exact k
    | _=>exact k
end
end K10
namespace K10
open PySem L2
section
variable {P:Program} {w:World} {K:PySem.W.Frag} {mg:Str→Option Value} {base:Heap} {f:Addr} {fd:FuncData}
theorem gU (B:Blt mg bn) (F:Fun K "_law_field" "_law_field" zW f fd) (m:mg "_law_field" = some (.ref f)) (b:Binds K fd ["_law_state_here"] []) (xy:Own P w K mg base 1 "_law_take" ["_law_state_here", "_law_many"] (spT 1 true false tN)) :
    Own P w K mg base 2 "_law_field" ["_law_state_here"] (spT 0 true false m5):=by
  refine jj F xT m b rfl (fun cdv A outer s H E hr=>⟨_,_,
    (xj (yc (i:=1) xT.nd rfl (Or.inl rfl) (xt xy hr (xc (pv 0) (xc xi xh))))
    (xj (yc (i:=2) xT.nd rfl (Or.inl rfl) (yU xh))
    (xj (yK (xQ (hZ K hr.units) (pv 1) xi (xR _)) (xj (wH PassesOwn.never rfl (zF K (yU (xc (xJ (xc (uK zH xi) (xc xi xh))) (xc (xJ (xc xi (xc xi xh))) (xc (xJ (xc xi (xc (uK zH xi) xh))) (xc (xJ (xc xi (xc xi xh))) xh)))))) (yr K (n:=2) rfl (xx (xw (i:=3) xT.nd rfl (Or.inl rfl)) (xx (xw (i:=4) xT.nd rfl (Or.inl rfl)) yo))) (xj (yc (i:=5) xT.nd rfl (Or.inl rfl) (xF zp xi (xt xy hr (xc (pv 0) (xc xi xh)))))
    (xl (wk (tY PySem.F.plainAttrs_list PySem.F.slot_list_append PySem.F.type_list_append vd (pv 2) (xc (xJ (xc (xF ya (pv 3) (pv 5)) (xc (xF ya (pv 4) (pv 5)) (xc (xF zp (xF ya (pv 5) (xt xy hr (xc (pv 0) (xc xi xh)))) (xt xy hr (xc (pv 0) (xc (pv 5) xh)))) xh)))) xh))))))
    (xj (wH PassesOwn.never rfl (qC rfl (B.get "range") (xc (xt xy hr (xc (pv 0) (xc xi xh))) xh)) (xw (i:=6) xT.nd rfl (Or.inl rfl)) (xj (dM (i:=3) (j:=4) rfl xT.nd rfl rfl (by decide) rfl rfl (xc (xF zy (xt xy hr (xc (pv 0) (xc xi xh))) xi) (xc (xF zy (xt xy hr (xc (pv 0) (xc xi xh))) xi) xh)) (by rfl))
    (xj (yK (PW.pt (j6 (xQ (zh hr.units) (pv 3) xi (xR _)) (qK (xQ (zh hr.units) (pv 4) xi (xR _))))) (xl (yc (i:=3) xT.nd rfl (Or.inl rfl) xi)) yb)
    (xj (yc (i:=7) xT.nd rfl (Or.inl rfl) (xF zp (xF ya (pv 3) (xF zy (xt xy hr (xc (pv 0) (xc xi xh))) xi)) (xF ya (pv 4) (xF zy (xt xy hr (xc (pv 0) (xc xi xh))) xi))))
    (xl (wk (tY PySem.F.plainAttrs_list PySem.F.slot_list_append PySem.F.type_list_append vd (pv 2) (xc (xJ (xc (pv 3) (xc (pv 4) (xc (xF zy (xF zp (pv 7) (xt xy hr (xc (pv 0) (xc xi xh)))) xi) xh)))) xh))))))))
    (xl (yK (xQ (zh hr.units) (xt xy hr (xc (pv 0) (xc xi xh))) xi (xR _)) (xl (wk (tY PySem.F.plainAttrs_list PySem.F.slot_list_append PySem.F.type_list_append vd (pv 2) (xc (xJ (xc (xF zy xi (xP (xq K) (xP (xq K) (pv 2) (uK zH xi) (fun _ _=>rfl)) xi (fun _ _=>rfl))) (xc (xF zy xi (xP (xq K) (xP (xq K) (pv 2) (uK zH xi) (fun _ _=>rfl)) xi (fun _ _=>rfl))) (xc (xF zy xi (xP (xq K) (xP (xq K) (pv 2) (uK zH xi) (fun _ _=>rfl)) xi (fun _ _=>rfl))) xh)))) xh)))) yb)))) yb)
    (xj (yK (xQ (zh hr.units) (pv 1) xi (xR _)) (xj (yc (i:=8) xT.nd rfl (Or.inl rfl) (xF zp xi (xt xy hr (xc (pv 0) (xc xi xh)))))
    (xl (yc (i:=2) xT.nd rfl (Or.inl rfl) (yU (xc (xJ (xc (uK zH xi) (xc xi (xc xi xh)))) (xc (xJ (xc xi (xc (xF ya (uK zH xi) (pv 8)) (xc xi xh)))) (xc (xJ (xc xi (xc (xF ya xi (pv 8)) (xc (xF ya xi (pv 8)) xh)))) xh))))))) yb)
    (xj (yK (xQ (zh hr.units) (pv 1) xi (xR _)) (xj (yc (i:=9) xT.nd rfl (Or.inl rfl) (xP (xq K) (yU (xc (yU (xc (xJ (xc (uK zH xi) (xc xi xh))) (xc (xJ (xc xi (xc (uK zH xi) xh))) (xc (xJ (xc xi (xc xi xh))) xh)))) (xc (yU (xc (xJ (xc (uK zH xi) (xc (uK zH xi) xh))) (xc (xJ (xc xi (xc (uK zH xi) xh))) (xc (xJ (xc xi (xc xi xh))) xh)))) xh))) (xt xy hr (xc (pv 0) (xc xi xh))) (fun _ _=>rfl)))
    (xl (vx (i:=2) xT.nd rfl (Or.inl rfl) (yy (N:=["_law_a", "_law_b", "_law_state_here"]) (tau:=[none,none,some 0]) (XN:=["_law_state_here", "_law_way", "_law_rows", "_law_a", "_law_b", "_law_by", "_law_turn", "_law_near", "_law_k", "_law_some", "_law_u", "_law_v"]) (xs:=xk zW) (by decide +kernel) rfl rfl) rfl (wg (yG rfl (yG rfl qg))) (zF K (pv 9)) (fun _ _ _ _=>(yr K (n:=2) rfl (xx (xw (i:=0) (show (["_law_a", "_law_b", "_law_state_here"]:List Str).Nodup by decide +kernel) rfl (Or.inl rfl)) (xx (xw (i:=1) (show (["_law_a", "_law_b", "_law_state_here"]:List Str).Nodup by decide +kernel) rfl (Or.inl rfl)) yo)))) (fun _ _ _ _=>zX) (fun _ _ _ _=>(xJ (xc (pv 0) (xc (pv 1) (xc (xt xy hr (xc (pv 2) (xc xi xh))) xh)))))))) yb)
    (xj (zE (xJ (xc (xF zy (xt xy hr (xc (pv 0) (xc xi xh))) xi) (xc (xF zy (xt xy hr (xc (pv 0) (xc xi xh))) xi) xh))) (yr K (n:=2) rfl (xx (xw (i:=10) xT.nd rfl (Or.inr rfl)) (xx (xw (i:=11) xT.nd rfl (Or.inr rfl)) yo))))
    (xj (vx (i:=2) xT.nd rfl (Or.inl rfl) (yy (N:=["_law_a", "_law_b", "_law_c", "_law_v", "_law_u"]) (tau:=[none,none,none,some 11,some 10]) (XN:=["_law_state_here", "_law_way", "_law_rows", "_law_a", "_law_b", "_law_by", "_law_turn", "_law_near", "_law_k", "_law_some", "_law_u", "_law_v"]) (xs:=xk zW) (by decide +kernel) rfl rfl) rfl (wg (yG rfl (yG rfl (yG rfl qg)))) (zF K (pv 2)) (fun _ _ _ _=>(yr K (n:=3) rfl (xx (xw (i:=0) (show (["_law_a", "_law_b", "_law_c", "_law_v", "_law_u"]:List Str).Nodup by decide +kernel) rfl (Or.inl rfl)) (xx (xw (i:=1) (show (["_law_a", "_law_b", "_law_c", "_law_v", "_law_u"]:List Str).Nodup by decide +kernel) rfl (Or.inl rfl)) (xx (xw (i:=2) (show (["_law_a", "_law_b", "_law_c", "_law_v", "_law_u"]:List Str).Nodup by decide +kernel) rfl (Or.inl rfl)) yo))))) (fun _ _ _ _=>zX) (fun _ _ _ _=>(xJ (xc (pv 0) (xc (pv 1) (xc (xF zp (xF zp (pv 2) (xF ya (pv 0) (pv 4))) (xF ya (pv 1) (pv 3))) xh))))))
    (xj (yc (i:=6) xT.nd rfl (Or.inl rfl) (xt xy hr (xc (pv 0) (xc (xC (yf K) rfl (B.get "len") zd (xc (pv 2) xh)) xh))))
    (xl (xN (wm (wB K) rfl (B.get "tuple") yE (xc (xF jv (uG (kO K) (pv 2) (v5 (pv 6)) qd) (uG (kO K) (pv 2) qd (v5 (pv 6)))) xh)))))))))))),
    (xn (x9 (yd (xa (xB (t:=Tr.int _)) xg)))
    (xn (uv (gk xg))
    (xn (yq (xE (xm gc xf (xB (t:=Tr.int _)))) (xn (zC (yT (zR (b:=true) (xa (xM (b:=true) (xa (zG (xB (t:=Tr.int _))) (xa (xB (t:=Tr.int _)) xg))) (xa (xM (b:=true) (xa (xB (t:=Tr.int _)) (xa (xB (t:=Tr.int _)) xg))) (xa (xM (b:=true) (xa (xB (t:=Tr.int _)) (xa (zG (xB (t:=Tr.int _))) xg))) (xa (xM (b:=true) (xa (xB (t:=Tr.int _)) (xa (xB (t:=Tr.int _)) xg))) xg)))))) (yt (xr xo (xr xo ye))).g (xn (x9 (xm wK (xB (t:=Tr.int _)) (yd (xa (xB (t:=Tr.int _)) xg))))
    (jd (xM (b:=true) (xa (xm yl xf xf) (xa (xm yl xf xf) (xa (xm wK (xm yl xf (yd (xa (xB (t:=Tr.int _)) xg))) (yd (xa xf xg))) xg)))))))
    (xn (zC (vC (xa (yd (xa (xB (t:=Tr.int _)) xg)) xg)) xo.g (xn (k6 (xa (xm zK (yd (xa (xB (t:=Tr.int _)) xg)) (xB (t:=Tr.int _))) (xa (xm zK (yd (xa (xB (t:=Tr.int _)) xg)) (xB (t:=Tr.int _))) xg)))
    (xn (yq (qQ (xE (xm os_eq xf (xB (t:=Tr.int _)))) (xE (xm os_eq xf (xB (t:=Tr.int _))))) (x9 (xB (t:=Tr.int _))) xV)
    (xn (x9 (xm wK (xm yl xf (xm zK (yd (xa (xB (t:=Tr.int _)) xg)) (xB (t:=Tr.int _)))) (xm yl xf (xm zK (yd (xa (xB (t:=Tr.int _)) xg)) (xB (t:=Tr.int _))))))
    (jd (xM (b:=true) (xa xf (xa xf (xa (xm zK (xm wK xf (yd (xa (xB (t:=Tr.int _)) xg))) (xB (t:=Tr.int _))) xg)))))))))
    (yq (xE (xm os_eq (yd (xa (xB (t:=Tr.int _)) xg)) (xB (t:=Tr.int _)))) (jd (xM (b:=true) (xa (xm zK (xB (t:=Tr.int _)) (xU (az (zG (xB (t:=Tr.int _)))) (xB (t:=Tr.int _)))) (xa (xm zK (xB (t:=Tr.int _)) (xU (az (zG (xB (t:=Tr.int _)))) (xB (t:=Tr.int _)))) (xa (xm zK (xB (t:=Tr.int _)) (xU (az (zG (xB (t:=Tr.int _)))) (xB (t:=Tr.int _)))) xg))))) xV))) xV)
    (xn (yq (xE (xm os_eq xf (xB (t:=Tr.int _)))) (xn (x9 (xm wK (xB (t:=Tr.int _)) (yd (xa (xB (t:=Tr.int _)) xg))))
    (uv (gk (xa (xM (b:=true) (xa (zG (xB (t:=Tr.int _))) (xa (xB (t:=Tr.int _)) (xa (xB (t:=Tr.int _)) xg)))) (xa (xM (b:=true) (xa (xB (t:=Tr.int _)) (xa (xm yl (zG (xB (t:=Tr.int _))) xf) (xa (xB (t:=Tr.int _)) xg)))) (xa (xM (b:=true) (xa (xB (t:=Tr.int _)) (xa (xm yl (xB (t:=Tr.int _)) xf) (xa (xm yl (xB (t:=Tr.int _)) xf) xg)))) xg)))))) xV)
    (xn (yq (xE (xm os_eq xf (xB (t:=Tr.int _)))) (xn (x9 (xU (zR (b:=true) (xa (zR (b:=true) (xa (xM (b:=true) (xa (zG (xB (t:=Tr.int _))) (xa (xB (t:=Tr.int _)) xg))) (xa (xM (b:=true) (xa (xB (t:=Tr.int _)) (xa (zG (xB (t:=Tr.int _))) xg))) (xa (xM (b:=true) (xa (xB (t:=Tr.int _)) (xa (xB (t:=Tr.int _)) xg))) xg)))) (xa (zR (b:=true) (xa (xM (b:=true) (xa (zG (xB (t:=Tr.int _))) (xa (zG (xB (t:=Tr.int _))) xg))) (xa (xM (b:=true) (xa (xB (t:=Tr.int _)) (xa (zG (xB (t:=Tr.int _))) xg))) (xa (xM (b:=true) (xa (xB (t:=Tr.int _)) (xa (xB (t:=Tr.int _)) xg))) xg)))) xg))) (yd (xa (xB (t:=Tr.int _)) xg))))
    (uv (yM (yT xf).c (yt (xr xo (xr xo ye))) zf (xM (b:=true) (xa xf (xa xf (xa (yd (xa (xB (t:=Tr.int _)) xg)) xg))))))) xV)
    (xn (yX (xM (b:=true) (xa (xm zK (yd (xa (xB (t:=Tr.int _)) xg)) (xB (t:=Tr.int _))) (xa (xm zK (yd (xa (xB (t:=Tr.int _)) xg)) (xB (t:=Tr.int _))) xg))) (yt (xr xo (xr xo ye))).g)
    (xn (uv (yM bc (yt (xr xo (xr xo (xr xo ye)))) zf (xM (b:=true) (xa xf (xa xf (xa (xm wK (xm wK xf (xm yl xf xf)) (xm yl xf xf)) xg))))))
    (xn (x9 (yd (xa (ym zz (xa md xg)) xg)))
    (xD (ff (xa (OkF.e (qW (OkF.e (nE (uy xf) uL)) (OkF.e (nE uL (uy xf))))) xg))))))))))),fun ts KK hl h=>?_⟩)
  obtain ⟨rfl,k⟩:=h
  refine ⟨tk (by decide),fun w w0 w6=>?_⟩
  dsimp only
  refine xZ (fun τ=>τ=[.st,.fz (.int w),.ow [],.un,.un,.un,.un,.un,.un,.un,.un,.un]) ?_ (fun N hN=>hN _ rfl)
  rintro _ rfl
  refine xZ (fun τ=>∃ (rows:List Pol.R3) (x:TV9),τ=[.st,.fz (.int w),.ow (rows.map trR),x.1,x.2.1,x.2.2.1,x.2.2.2.1,x.2.2.2.2.1,x.2.2.2.2.2.1,x.2.2.2.2.2.2.1,x.2.2.2.2.2.2.2.1,x.2.2.2.2.2.2.2.2]∧(w < 4→LF0 rows)) ?_ ?_
  rotate_left
  · intro N hN
    refine xX (b:=decide (w < 4)) (fun c=>?_) (fun c=>hN _ ⟨[],⟨_,_,_,_,_,_,_,_,_⟩,rfl,fun z=>absurd z (of_decide_eq_false c)⟩)
    refine xZ (fun τ=>∃ (rows:List Pol.R3) (x:TV9),τ=[.st,.fz (.int w),.ow (rows.map trR),x.1,x.2.1,x.2.2.1,x.2.2.2.1,x.2.2.2.2.1,x.2.2.2.2.2.1,x.2.2.2.2.2.2.1,x.2.2.2.2.2.2.2.1,x.2.2.2.2.2.2.2.2]∧uQ rows) ?_ ?_
    rotate_left
    · intro N hN
      refine vB (bC.map dT) (fun i τ=>∃ (rows:List Pol.R3) (x:TV9),τ=[.st,.fz (.int w),.ow (rows.map trR),x.1,x.2.1,x.2.2.1,x.2.2.2.1,x.2.2.2.2.1,x.2.2.2.2.2.1,x.2.2.2.2.2.2.1,x.2.2.2.2.2.2.2.1,x.2.2.2.2.2.2.2.2]∧rR i rows) (fun KK h=>h) ⟨[],⟨_,_,_,_,_,_,_,_,_⟩,rfl,rfl,fun j r d h=>by simp at h⟩ ?_ ?_
      · rintro i it τ N2 hx ⟨rows,x,rfl,hu⟩ hN2
        obtain ⟨d,hd,rfl⟩:=vT hx
        have ds:=af hd
        have hi:=(List.getElem?_eq_some_iff.mp hd).1
        have hi:i < 4:=hi
        refine ⟨rfl,tk (by decide),fun r a1 a2=>⟨y3 (by omega) (by omega),y3 (by omega) (by omega),tk (by decide),fun s a3 a4=>⟨y3 (by omega) (by omega),tk (by omega),fun q a5 a6=>⟨by rw [List.length_map,hu.1]; exact sqz (by omega),?_⟩⟩⟩⟩
        have x1:=Pol.pz (show 0≤1+r by omega) a3
        have x2:(1+r)*s≤(1+r)*4:=Int.mul_le_mul_of_nonneg_left (by omega) (by omega)
        have st:=hu.step hd (b:=1+r) (c:=(1+r)*s+q) (by omega)
        have e:rows.map trR++[Tr.tup [.int (d.1*(1+r)),.int (d.2*(1+r)),.int ((1+r)*s+q)]]=(rows++[(d.1*(1+r),d.2*(1+r),(1+r)*s+q)]).map trR:=by rw [List.map_append]; rfl
        show N2 [.st,.fz (.int w),.ow (rows.map trR++[Tr.tup [.int (d.1*(1+r)),.int (d.2*(1+r)),.int ((1+r)*s+q)]]),_,_,_,_,_,_,_,_,_]
        rw [e]
        exact hN2 _ ⟨_,⟨_,_,_,_,_,_,_,_,_⟩,rfl,st⟩
      · rintro τ ⟨rows,x,rfl,hu⟩
        exact hN _ ⟨rows,⟨_,_,_,_,_,_,_,_,_⟩,rfl,hu.box⟩
    rintro _ ⟨four,x,rfl,hB⟩
    have fl:=hB.len
    refine xZ (fun τ=>∃ (ex:List Pol.R3) (x:TV9),τ=[.st,.fz (.int w),.ow ((four++ex).map trR),x.1,x.2.1,x.2.2.1,x.2.2.2.1,x.2.2.2.2.1,x.2.2.2.2.2.1,x.2.2.2.2.2.2.1,x.2.2.2.2.2.2.2.1,x.2.2.2.2.2.2.2.2]∧ex.length≤3∧∀ r∈ex,Extra r) ?_ ?_
    rotate_left
    · intro N hN
      refine ⟨tk (by decide),fun n n0 n4=>⟨⟨by omega,by omega⟩,?_⟩⟩
      refine wG (fun i τ=>∃ (ex:List Pol.R3) (x:TV9),τ=[.st,.fz (.int w),.ow ((four++ex).map trR),x.1,x.2.1,x.2.2.1,x.2.2.2.1,x.2.2.2.2.1,x.2.2.2.2.2.1,x.2.2.2.2.2.2.1,x.2.2.2.2.2.2.2.1,x.2.2.2.2.2.2.2.2]∧ex.length=i∧∀ r∈ex,Extra r) ⟨[],⟨_,_,_,_,_,_,_,_,_⟩,by rw [List.append_nil],rfl,fun r hr=>by simp at hr⟩ ?_ ?_
      · rintro i it τ N2 hx ⟨ex,x,rfl,hl,he⟩ hN2
        have hi:i < n.toNat:=by have:=(List.getElem?_eq_some_iff.mp hx).1; rw [vt] at this; exact this
        show xag _ _ _ ([.st,.fz (.int w),.ow ((four++ex).map trR),x.1,x.2.1,x.2.2.1,.fz it,x.2.2.2.2.1,x.2.2.2.2.2.1,x.2.2.2.2.2.2.1,x.2.2.2.2.2.2.2.1,x.2.2.2.2.2.2.2.2]:TSt)
        refine xZ (fun τ=>∃ a b:Int,τ=[.st,.fz (.int w),.ow ((four++ex).map trR),.fz (.int a),.fz (.int b),x.2.2.1,.fz it,x.2.2.2.2.1,x.2.2.2.2.2.1,x.2.2.2.2.2.2.1,x.2.2.2.2.2.2.2.1,x.2.2.2.2.2.2.2.2]∧((-6≤a∧a≤6)∧(-6≤b∧b≤6))) ?_ (fun N3 hN3=>⟨tk (by decide),fun a a0 a1=>⟨tk (by decide),fun b b0 b1=>hN3 _ ⟨a-6,b-6,rfl,by omega⟩⟩⟩)
        rintro _ ⟨a,b,rfl,hab⟩
        refine xZ (fun τ=>∃ a b:Int,τ=[.st,.fz (.int w),.ow ((four++ex).map trR),.fz (.int a),.fz (.int b),x.2.2.1,.fz it,x.2.2.2.2.1,x.2.2.2.2.2.1,x.2.2.2.2.2.2.1,x.2.2.2.2.2.2.2.1,x.2.2.2.2.2.2.2.2]∧((-6≤a∧a≤6)∧(-6≤b∧b≤6))∧(a≠0∨b≠0)) ?_ ?_
        rotate_left
        · intro N3 hN3
          refine xX (b:=decide (a=0)) (fun c=>?_) (fun c=>?_)
          · refine xX (b:=decide (b=0)) (fun d=>?_) (fun d=>?_)
            · exact hN3 _ ⟨2,b,rfl,by omega,.inl (by decide)⟩
            · exact hN3 _ ⟨a,b,rfl,by omega,.inr (of_decide_eq_false d)⟩
          · exact aC (hN3 _ ⟨a,b,rfl,by omega,.inl (of_decide_eq_false c)⟩)
        rintro _ ⟨a,b,rfl,hab,hne⟩
        refine ⟨tk (by decide),fun s s0 s5=>⟨y3 (by omega) (by omega),tk (by decide),fun q q0 q5=>⟨y3 (by omega) (by omega),tk (by decide),fun t t0 t9=>⟨by rw [List.length_map,List.length_append]; exact sqz (by omega),?_⟩⟩⟩⟩
        have m1:=ay hab.1.1 hab.1.2 (show -2≤s-2 by omega) (show s-2≤2 by omega) (by decide) (by decide)
        have m2:=ay hab.2.1 hab.2.2 (show -2≤q-2 by omega) (show q-2≤2 by omega) (by decide) (by decide)
        have e:(four++ex).map trR++[Tr.tup [.int a,.int b,.int (a*(s-2)+b*(q-2)+t-1)]]=(four++(ex++[(a,b,a*(s-2)+b*(q-2)+t-1)])).map trR:=by
          rw [← List.append_assoc,rM]; rfl
        show N2 [.st,.fz (.int w),.ow ((four++ex).map trR++[Tr.tup [.int a,.int b,.int (a*(s-2)+b*(q-2)+t-1)]]),_,_,_,_,_,_,_,_,_]
        rw [e]
        refine hN2 _ ⟨ex++[(a,b,a*(s-2)+b*(q-2)+t-1)],⟨.fz (.int a),.fz (.int b),x.2.2.1,.fz it,.fz (.int (a*(s-2)+b*(q-2))),x.2.2.2.2.2.1,x.2.2.2.2.2.2.1,x.2.2.2.2.2.2.2.1,x.2.2.2.2.2.2.2.2⟩,rfl,by simp [hl],fun r hr=>?_⟩
        rcases List.mem_append.mp hr with h | h
        · exact he r h
        · rw [List.mem_singleton.mp h]
          unfold Extra
          simp only
          omega
      · rintro τ ⟨ex,x,rfl,hl,he⟩
        rw [vt] at hl
        exact hN _ ⟨ex,⟨_,_,_,_,_,_,_,_,_⟩,rfl,by omega,he⟩
    rintro _ ⟨ex,x,rfl,hl,he⟩
    refine ⟨tk (by decide),fun e e0 e8=>?_⟩
    refine xX (b:=decide (e=0)) (fun c=>?_) (fun c=>?_)
    · obtain ⟨ini,l,el,hx⟩:=hB.last he
      have la:atT ((four++ex).map trR) (-1)=some (trR l):=by rw [el,List.map_append]; exact rP _ _
      show aj (atT ((four++ex).map trR) (-1)) _
      rw [la]
      show aj (atT ((four++ex).map trR) (-1)) _
      rw [la]
      show aj (atT ((four++ex).map trR) (-1)) _
      rw [la]
      have e:(four++ex).map trR++[Tr.tup [.int (0-l.1),.int (0-l.2.1),.int (0-l.2.2)]]=(four++(ex++[(0-l.1,0-l.2.1,0-l.2.2)])).map trR:=by
        rw [← List.append_assoc,rM]; rfl
      refine ⟨by rw [List.length_map,List.length_append]; exact sqz (by omega),?_⟩
      show N [.st,.fz (.int w),.ow ((four++ex).map trR++[Tr.tup [.int (0-l.1),.int (0-l.2.1),.int (0-l.2.2)]]),_,_,_,_,_,_,_,_,_]
      rw [e]
      refine hN _ ⟨_,⟨_,_,_,_,_,_,_,_,_⟩,rfl,fun _=>hB.lf (fun r hr=>?_) (by simp; omega)⟩
      rcases List.mem_append.mp hr with h | h
      · exact he r h
      · rw [List.mem_singleton.mp h]; exact hx
    · exact hN _ ⟨_,⟨_,_,_,_,_,_,_,_,_⟩,rfl,fun _=>hB.lf he (by omega)⟩
  rintro _ ⟨rows,x,rfl,h4⟩
  refine xZ (fun τ=>∃ (rows:List Pol.R3) (x:TV9),τ=[.st,.fz (.int w),.ow (rows.map trR),x.1,x.2.1,x.2.2.1,x.2.2.2.1,x.2.2.2.2.1,x.2.2.2.2.2.1,x.2.2.2.2.2.2.1,x.2.2.2.2.2.2.2.1,x.2.2.2.2.2.2.2.2]∧(w < 5→LF0 rows)) ?_ ?_
  rotate_left
  · intro N hN
    refine xX (b:=decide (w=4)) (fun c=>?_) (fun c=>hN _ ⟨_,⟨_,_,_,_,_,_,_,_,_⟩,rfl,fun z=>h4 (by have:=of_decide_eq_false c; omega)⟩)
    refine ⟨tk (by decide),fun r a1 a2=>⟨y3 (by omega) (by omega),y3 (by omega) (by omega),y3 (by omega) (by omega),?_⟩⟩
    exact hN _ ⟨[(-1,0,0),(1,-2*(1+r),0),(1,2*(1+r),2*(1+r))],⟨x.1,x.2.1,x.2.2.1,x.2.2.2.1,x.2.2.2.2.1,.fz (.int (1+r)),x.2.2.2.2.2.2.1,x.2.2.2.2.2.2.2.1,x.2.2.2.2.2.2.2.2⟩,rfl,fun _=>pk (by omega) (by omega)⟩
  rintro _ ⟨rows,x,rfl,h5⟩
  refine xZ (fun τ=>∃ (rows:List Pol.R3) (x:TV9),τ=[.st,.fz (.int w),.ow (rows.map trR),x.1,x.2.1,x.2.2.1,x.2.2.2.1,x.2.2.2.2.1,x.2.2.2.2.2.1,x.2.2.2.2.2.2.1,x.2.2.2.2.2.2.2.1,x.2.2.2.2.2.2.2.2]∧LF0 rows) ?_ ?_
  rotate_left
  · intro N hN
    refine xX (b:=decide (w=5)) (fun c=>?_) (fun c=>hN _ ⟨_,⟨_,_,_,_,_,_,_,_,_⟩,rfl,h5 (by have:=of_decide_eq_false c; omega)⟩)
    refine ⟨tk (by decide),fun e e0 e2=>?_⟩
    obtain rfl | rfl:e=0∨e=1:=by omega
    · refine ⟨sqz (show (3:Nat)≤1000000 by decide),du (f:=dT) (l:=[(-2,1),(1,-3),(2,3)]) Drawn (fun d _ N2 h2=>?_) (fun ys hy=>?_)⟩
      · exact ⟨rfl,tk (by decide),fun c c0 c8=>h2 _ ⟨c,⟨c0,c8⟩,rfl⟩⟩
      · obtain ⟨d1,d2,d3,g,rfl⟩:=pS hy
        exact hN _ ⟨[(-2,1,d1),(1,-3,d2),(2,3,d3)],⟨x.1,x.2.1,x.2.2.1,x.2.2.2.1,x.2.2.2.2.1,x.2.2.2.2.2.1,.fz (.lst (([(-2,1),(1,-3),(2,3)]:List (Int × Int)).map dT)),x.2.2.2.2.2.2.2.1,x.2.2.2.2.2.2.2.2⟩,rfl,l7 g.1 g.2.1 g.2.2⟩
    · refine ⟨sqz (show (3:Nat)≤1000000 by decide),du (f:=dT) (l:=[(-3,-2),(3,-1),(1,4)]) Drawn (fun d _ N2 h2=>?_) (fun ys hy=>?_)⟩
      · exact ⟨rfl,tk (by decide),fun c c0 c8=>h2 _ ⟨c,⟨c0,c8⟩,rfl⟩⟩
      · obtain ⟨d1,d2,d3,g,rfl⟩:=pS hy
        exact hN _ ⟨[(-3,-2,d1),(3,-1,d2),(1,4,d3)],⟨x.1,x.2.1,x.2.2.1,x.2.2.2.1,x.2.2.2.2.1,x.2.2.2.2.2.1,.fz (.lst (([(-3,-2),(3,-1),(1,4)]:List (Int × Int)).map dT)),x.2.2.2.2.2.2.2.1,x.2.2.2.2.2.2.2.2⟩,rfl,o_ g.1 g.2.1 g.2.2⟩
  rintro _ ⟨rows,x,rfl,hF⟩
  have l3:=hF.l3
  have l8:=hF.l8
  refine ⟨tk (by decide),fun u u0 u7=>⟨tk (by decide),fun v v0 v7=>⟨rfl,?_⟩⟩⟩
  refine ⟨by rw [List.length_map]; exact sqz (by omega),mB (f:=trR) (fun r=>trR (gY (u-3) (v-3) r)) (fun r hr N hN=>?_) ?_⟩
  · have:=hF.sm r hr
    exact ⟨rfl,y3 (by omega) (by omega),y3 (by omega) (by omega),hN⟩
  have hM:=hF.moved (u:=u-3) (v:=v-3) (by omega) (by omega)
  have em:rows.map (fun r=>trR (gY (u-3) (v-3) r))=(rows.map (gY (u-3) (v-3))).map trR:=by rw [List.map_map]; rfl
  rw [em]
  generalize rows.map (gY (u-3) (v-3))=mv at hM
  have m3:=hM.l3
  have m8:=hM.l8
  refine ⟨tk (by rw [List.length_map]; omega),fun t t0 t1=>?_⟩
  obtain ⟨n,rfl⟩:∃ n:Nat,t=(n:Int):=⟨t.toNat,by omega⟩
  show (qp (mv.map trR) (some (n:Int)) none).length+(qp (mv.map trR) none (some (n:Int))).length≤sizeLine∧KK (.tup (qp (mv.map trR) (some (n:Int)) none++qp (mv.map trR) none (some (n:Int))))
  rw [gw,mx]
  refine ⟨bN (by simp; omega),?_⟩
  have:=k _ (hM.rot n)
  rw [List.map_append,List.map_drop,List.map_take] at this
  exact this
theorem jz (B:Blt mg bn) (F:Fun K "_law_divisor" "_law_divisor" wV f fd) (m:mg "_law_divisor" = some (.ref f)) (b:Binds K fd ["_law_one", "_law_other"] [])  :
    Own P w K mg base 1 "_law_divisor" ["_law_one", "_law_other"] (spT 2 false false pH):=by
  refine xS F uW m b rfl (fun cdv A outer s H E hr=>⟨_,_,
    (xj (aD PassesOwn.never (xQ (yP hr.units) (pv 1) xi (xR _)) (xl (dM (i:=0) (j:=1) rfl uW.nd rfl rfl (by decide) rfl rfl (xc (pv 1) (xc (xF mo (pv 0) (pv 1)) xh)) (by rfl))))
    (xl (xN (xC zP rfl (B.get "abs") vJ (xc (pv 0) xh))))),
    (xn (dm (xE (xm zY xf (xB (t:=Tr.int _)))) (k6 (xa xf (xa (xm oC xf xf) xg))))
    (xD (ym vL (xa xf xg)))),fun ts KK hl h=>?_⟩)
  obtain ⟨a,c,rfl,k⟩:=h
  refine fE (fun n τ=>∃ x y:Int,τ=[.fz (.int x),.fz (.int y)]∧n=y.natAbs∧Fra.gd x y=Fra.gd a c) c.natAbs ⟨_,_,rfl,rfl,rfl⟩ ?_
  rintro n τ N ⟨x,y,rfl,rfl,hg⟩ hN
  refine xX (b := !decide (y=0)) (fun c0=>?_) (fun c0=>?_)
  · have c0:y≠0:=by simpa using c0
    exact ⟨c0,hN (x.fmod y).natAbs _ (Fra.tR c0) ⟨_,_,rfl,rfl,by rw [Fra.oV]; exact hg⟩⟩
  · have c0:y=0:=by simpa using c0
    subst c0
    rw [Fra.oW] at hg
    have k:KK (.int (Fra.gd a c)):=k
    rw [← hg] at k
    exact k
theorem sr (B:Blt mg bn) (F:Fun K "_law_low" "_law_low" kh f fd) (m:mg "_law_low" = some (.ref f)) (b:Binds K fd ["_law_top", "_law_bottom"] []) (yR:Own P w K mg base 1 "_law_divisor" ["_law_one", "_law_other"] (spT 2 false false pH)) :
    Own P w K mg base 2 "_law_low" ["_law_top", "_law_bottom"] (spT 2 false false cM):=by
  refine xS F vS m b rfl (fun cdv A outer s H E hr=>⟨_,_,
    (xj (yc (i:=2) vS.nd rfl (Or.inl rfl) (xt yR hr (xc (pv 0) (xc (pv 1) xh))))
    (xj (yK (xQ (hZ K hr.units) (pv 1) xi (xR _)) (xl (yc (i:=2) vS.nd rfl (Or.inl rfl) (xF zy xi (pv 2)))) yb)
    (xl (xN (xJ (xc (xF wq (pv 0) (pv 2)) (xc (xF wq (pv 1) (pv 2)) xh))))))),
    (xn (x9 (xK (xa xf (xa xf xg))))
    (xn (yq (xE (xm gc xf (xB (t:=Tr.int _)))) (x9 (xm zK (xB (t:=Tr.int _)) xf)) xV)
    (xD (xM (b:=true) (xa (xm uP xf xf) (xa (xm uP xf xf) xg)))))),fun ts KK hl h=>?_⟩)
  obtain ⟨t,b,rfl,hb,bd,k⟩:=h
  refine ⟨t,b,rfl,?_⟩
  have gp:=Fra.rm (a:=t) (b:=b) (.inr hb)
  have gb:Bd (Fra.gd t b):=nk hb bd
  refine xX (b:=decide (b < 0)) (fun c=>?_) (fun c=>?_)
  · have c:=of_decide_eq_true c
    rw [lj c] at k
    have gn:Bd (0-Fra.gd t b):=by unfold Bd at *; omega
    have e1:∀ x:Int,x.fdiv (0-Fra.gd t b)=(-x) / Fra.gd t b:=fun x=>by
      have h:=Int.neg_fdiv_neg (-x) (Fra.gd t b)
      rw [Int.neg_neg] at h
      rw [show 0-Fra.gd t b = -(Fra.gd t b) by omega,h,y2 (by omega)]
    have e2:Fra.low (-t) (-b)=((-t) / Fra.gd t b,(-b) / Fra.gd t b):=by
      unfold Fra.low
      rw [show Fra.gd (-t) (-b)=Fra.gd t b by unfold Fra.gd; simp]
    rw [e2,← e1,← e1] at k
    exact ⟨⟨by show (0-Fra.gd t b)≠0; omega,gn⟩,⟨by show (0-Fra.gd t b)≠0; omega,gn⟩,k⟩
  · have c:=of_decide_eq_false c
    rw [q_ (by omega)] at k
    refine ⟨⟨by show Fra.gd t b≠0; omega,gb⟩,⟨by show Fra.gd t b≠0; omega,gb⟩,?_⟩
    show KK (.tup [.int (t.fdiv (Fra.gd t b)),.int (b.fdiv (Fra.gd t b))])
    rw [y2 (by omega),y2 (by omega)]
    exact k
end
end K10
namespace K10
open PySem L2
section
variable {P:Program} {w:World} {K:PySem.W.Frag} {mg:Str→Option Value} {base:Heap} {f:Addr} {fd:FuncData}
theorem jf (B:Blt mg bn) (F:Fun K "_law_weights" "_law_weights" zQ f fd) (m:mg "_law_weights" = some (.ref f)) (b:Binds K fd ["_law_state_here", "_law_rows"] []) (xy:Own P w K mg base 1 "_law_take" ["_law_state_here", "_law_many"] (spT 1 true false tN)) (yI:Own P w K mg base 2 "_law_low" ["_law_top", "_law_bottom"] (spT 2 false false cM)) :
    Own P w K mg base 3 "_law_weights" ["_law_state_here", "_law_rows"] (spT 1 true false dQ):=by
  refine jj F yJ m b rfl (fun cdv A outer s H E hr=>⟨_,_,
    (xj (yc (i:=2) yJ.nd rfl (Or.inl rfl) (xC (yf K) rfl (B.get "len") zd (xc (pv 1) xh)))
    (xj (yc (i:=3) yJ.nd rfl (Or.inl rfl) (xF pZ (yU (xc (xJ (xc xi (xc xi xh))) xh)) (pv 2)))
    (xj (yc (i:=4) yJ.nd rfl (Or.inl rfl) (xt xy hr (xc (pv 0) (xc xi xh))))
    (xj (yK (xQ (zh hr.units) (pv 4) xi (xR _)) (xl (xN (wm (wB K) rfl (B.get "tuple") yE (xc (wy (yy (N:=["_law_row", "_law_state_here"]) (tau:=[none,some 0]) (XN:=["_law_state_here", "_law_rows", "_law_many", "_law_found", "_law_way", "_law_one", "_law_other", "_law_by"]) (xs:=xk zQ) (by decide +kernel) rfl rfl) rfl (vj rfl) (zF K (pv 1)) (fun _ _ _ _=>(xw (i:=0) (show (["_law_row", "_law_state_here"]:List Str).Nodup by decide +kernel) rfl (Or.inl rfl))) (fun _ _ _ _=>zX) (fun _ _ _ _=>(xt yI hr (xc (xt xy hr (xc (pv 1) (xc xi xh))) (xc (xF zp xi (xt xy hr (xc (pv 1) (xc xi xh)))) xh))))) xh)))) yb)
    (xj (dM (i:=5) (j:=6) rfl yJ.nd rfl rfl (by decide) rfl rfl (xc (xt xy hr (xc (pv 0) (xc (pv 2) xh))) (xc (xt xy hr (xc (pv 0) (xc (pv 2) xh))) xh)) (by rfl))
    (xj (yc (i:=7) yJ.nd rfl (Or.inl rfl) (xC (fJ rfl) rfl (B.get "max") oB (xc xi (xc (xC zP rfl (B.get "abs") vJ (xc (xF zy (xF ya (xP (xq K) (xP (xq K) (pv 1) (pv 5) (fun _ _=>rfl)) xi (fun _ _=>rfl)) (xP (xq K) (xP (xq K) (pv 1) (pv 6) (fun _ _=>rfl)) xi (fun _ _=>rfl))) (xF ya (xP (xq K) (xP (xq K) (pv 1) (pv 5) (fun _ _=>rfl)) xi (fun _ _=>rfl)) (xP (xq K) (xP (xq K) (pv 1) (pv 6) (fun _ _=>rfl)) xi (fun _ _=>rfl)))) xh)) xh))))
    (xj (zE (xt yI hr (xc (xt xy hr (xc (pv 0) (xc (xF ya xi (pv 7)) xh))) (xc (pv 7) xh))) (hJ (pv 3) (pv 5) set_list))
    (xj (zE (xt yI hr (xc (xt xy hr (xc (pv 0) (xc (xF zp (pv 7) xi) xh))) (xc (pv 7) xh))) (hJ (pv 3) (pv 6) set_list))
    (xj (yK (xQ (zh hr.units) (pv 4) xi (xR _)) (xl (zE (xJ (xc (xt xy hr (xc (pv 0) (xc xi xh))) (xc xi xh))) (hJ (pv 3) (xt xy hr (xc (pv 0) (xc (pv 2) xh))) set_list))) yb)
    (xl (xN (wm (wB K) rfl (B.get "tuple") yE (xc (pv 3) xh))))))))))))),
    (xn (x9 (ym zz (xa xf xg)))
    (xn (uv (lr (zR (b:=true) (xa (xM (b:=true) (xa (xB (t:=Tr.int _)) (xa (xB (t:=Tr.int _)) xg))) xg)) xf))
    (xn (x9 (yd (xa (xB (t:=Tr.int _)) xg)))
    (xn (yq (xE (xm os_eq xf (xB (t:=Tr.int _)))) (xD (ff (xa (OkF.e (yM (yT xf).c xo zf (xK (xa (yd (xa (xB (t:=Tr.int _)) xg)) (xa (xm wK (xB (t:=Tr.int _)) (yd (xa (xB (t:=Tr.int _)) xg))) xg))))) xg))) xV)
    (xn (k6 (xa (yd (xa xf xg)) (xa (yd (xa xf xg)) xg)))
    (xn (x9 (ym mT (xa (xB (t:=Tr.int _)) (xa (ym vL (xa (xm zK (xm yl (xU (xU xf xf) (xB (t:=Tr.int _))) (xU (xU xf xf) (xB (t:=Tr.int _)))) (xm yl (xU (xU xf xf) (xB (t:=Tr.int _))) (xU (xU xf xf) (xB (t:=Tr.int _))))) xg)) xg))))
    (xn (yX (xK (xa (yd (xa (xm yl (xB (t:=Tr.int _)) xf) xg)) (xa xf xg))) (g6 xf))
    (xn (yX (xK (xa (yd (xa (xm wK xf (xB (t:=Tr.int _))) xg)) (xa xf xg))) (g6 xf))
    (xn (yq (xE (xm os_eq xf (xB (t:=Tr.int _)))) (yX (xM (b:=true) (xa (yd (xa (xB (t:=Tr.int _)) xg)) (xa (xB (t:=Tr.int _)) xg))) (g6 (yd (xa xf xg)))) xV)
    (xD nA)))))))))),fun ts KK hl h=>?_⟩)
  obtain ⟨rows,rfl,hF,k⟩:=h
  have l3:=hF.l3
  have l8:=hF.l8
  have ml:(rows.map trR).length=rows.length:=List.length_map _
  refine xZ (fun τ=>τ=[.st,.fz (.tup (rows.map trR)),.fz (.int (rows.length:Nat)),.un,.un,.un,.un,.un]) ?_ (fun N hN=>hN _ (by rw [← ml]; rfl))
  rintro _ rfl
  refine xZ (fun τ=>τ=[.st,.fz (.tup (rows.map trR)),.fz (.int (rows.length:Nat)),.ow ((List.replicate rows.length ((0:Int),(1:Int))).map fT),.un,.un,.un,.un]) ?_ (fun N hN=>⟨⟨by omega,by omega⟩,bN (by simp; omega),hN _ (by
    show ([.st,.fz (.tup (rows.map trR)),.fz (.int (rows.length:Nat)),.ow (List.replicate rows.length [fT (0,1)]).flatten,.un,.un,.un,.un]:TSt)=_
    rw [rG,List.map_replicate])⟩)
  rintro _ rfl
  refine xZ (fun τ=>∃ way:Int,τ=[.st,.fz (.tup (rows.map trR)),.fz (.int (rows.length:Nat)),.ow ((List.replicate rows.length ((0:Int),(1:Int))).map fT),.fz (.int way),.un,.un,.un]) ?_ (fun N hN=>⟨tk (by decide),fun r _ _=>hN _ ⟨r,rfl⟩⟩)
  rintro _ ⟨way,rfl⟩
  refine xZ (fun τ=>τ=[.st,.fz (.tup (rows.map trR)),.fz (.int (rows.length:Nat)),.ow ((List.replicate rows.length ((0:Int),(1:Int))).map fT),.fz (.int way),.un,.un,.un]) ?_ (fun N hN=>?_)
  rotate_left
  · refine xX (b:=decide (way=0)) (fun c=>?_) (fun c=>hN _ rfl)
    refine ⟨by rw [ml]; exact sqz (by omega),cD (fun _ y=>∃ w,y=fT w∧Wt w) (fun x _ N h1=>?_) (fun ys hp=>?_)⟩
    · refine ⟨tk (by decide),fun p p0 p1=>⟨tk (by decide),fun q q0 q1=>⟨_,_,rfl,by omega,wL (by omega),h1 _ ⟨_,rfl,mM (by omega) (by omega)⟩⟩⟩⟩
    · obtain ⟨ws,rfl,hw,hl2⟩:=js hp
      rw [ml] at hl2
      exact k ws hl2 hw
  rintro _ rfl
  refine xZ (fun τ=>∃ one other:Int,((0≤one∧one < rows.length)∧0≤other∧other < rows.length)∧τ=[.st,.fz (.tup (rows.map trR)),.fz (.int (rows.length:Nat)),.ow ((List.replicate rows.length ((0:Int),(1:Int))).map fT),.fz (.int way),.fz (.int one),.fz (.int other),.un]) ?_ (fun N hN=>⟨tk (by omega),fun p p0 p1=>⟨tk (by omega),fun q q0 q1=>hN _ ⟨p,q,⟨⟨p0,p1⟩,q0,q1⟩,rfl⟩⟩⟩)
  rintro _ ⟨one,other,⟨h1,h2⟩,rfl⟩
  obtain ⟨n1,rfl⟩:∃ n:Nat,one=(n:Int):=⟨one.toNat,by omega⟩
  obtain ⟨n2,rfl⟩:∃ n:Nat,other=(n:Int):=⟨other.toNat,by omega⟩
  have m1:n1 < rows.length:=by omega
  have m2:n2 < rows.length:=by omega
  have e1:atT (rows.map trR) (n1:Int)=some (trR rows[n1]):=by rw [qX,List.getElem?_map,List.getElem?_eq_getElem m1]; rfl
  have e2:atT (rows.map trR) (n2:Int)=some (trR rows[n2]):=by rw [qX,List.getElem?_map,List.getElem?_eq_getElem m2]; rfl
  have s1:=hF.sm rows[n1] (List.getElem_mem m1)
  have s2:=hF.sm rows[n2] (List.getElem_mem m2)
  generalize rows[n1]=r1 at e1 s1
  generalize rows[n2]=r2 at e2 s2
  refine xZ (fun τ=>∃ by':Int,(1≤by'∧by'≤1000)∧τ=[.st,.fz (.tup (rows.map trR)),.fz (.int (rows.length:Nat)),.ow ((List.replicate rows.length ((0:Int),(1:Int))).map fT),.fz (.int way),.fz (.int n1),.fz (.int n2),.fz (.int by')]) ?_ (fun N hN=>?_)
  rotate_left
  · show aj (atT (rows.map trR) (n1:Int)) _
    rw [e1]
    show aj (atT (rows.map trR) (n2:Int)) _
    rw [e2]
    refine ⟨y3 (by omega) (by omega),?_⟩
    show aj (atT (rows.map trR) (n1:Int)) _
    rw [e1]
    show aj (atT (rows.map trR) (n2:Int)) _
    rw [e2]
    refine ⟨y3 (by omega) (by omega),hN _ ⟨_,?_,rfl⟩⟩
    have u1:=ou (a:=r1.1) (b:=r2.2.1) (m:=14) (n:=14) (by omega) (by omega)
    have u2:=ou (a:=r1.2.1) (b:=r2.1) (m:=14) (n:=14) (by omega) (by omega)
    split <;> split <;> omega
  rintro _ ⟨by',hb,rfl⟩
  have start:∀ w∈List.replicate rows.length ((0:Int),(1:Int)),Wt w:=fun w hw=>by
    rw [(List.mem_replicate.mp hw).2]; exact rg (by decide)
  have sl:(List.replicate rows.length ((0:Int),(1:Int))).length=rows.length:=List.length_replicate
  generalize List.replicate rows.length ((0:Int),(1:Int))=l at start sl
  have mem:∀ {l:List F2} {n:Nat} {w:F2},(∀ w∈l,Wt w)→Wt w→∀ v∈l.set n w,Wt v:=fun {l n w} h hw v hv=>(List.mem_or_eq_of_mem_set hv).elim (h v) fun e=>by rw [e]; exact hw
  refine xZ (fun τ=>∃ l:List F2,(∀ w∈l,Wt w)∧l.length=rows.length∧τ=[.st,.fz (.tup (rows.map trR)),.fz (.int (rows.length:Nat)),.ow (l.map fT),.fz (.int way),.fz (.int n1),.fz (.int n2),.fz (.int by')]) ?_ (fun N hN=>⟨y3 (by decide) (by omega),tk (by omega),fun q q0 q1=>⟨_,_,rfl,by omega,wL (by omega),?_⟩⟩)
  rotate_left
  · exact aM (f:=fT) (n:=n1) rfl (by omega) (fun _ h=>h) (hN _ ⟨_,mem start (mM (by omega) (by omega)),by rw [List.length_set]; exact sl,rfl⟩)
  clear start sl l
  rintro _ ⟨l,start,sl,rfl⟩
  refine xZ (fun τ=>∃ l:List F2,(∀ w∈l,Wt w)∧l.length=rows.length∧τ=[.st,.fz (.tup (rows.map trR)),.fz (.int (rows.length:Nat)),.ow (l.map fT),.fz (.int way),.fz (.int n1),.fz (.int n2),.fz (.int by')]) ?_ (fun N hN=>⟨tk (by omega),fun q q0 q1=>⟨_,_,rfl,by omega,wL (by omega),?_⟩⟩)
  rotate_left
  · exact aM (f:=fT) (n:=n2) rfl (by omega) (fun _ h=>h) (hN _ ⟨_,mem start (mM (by omega) (by omega)),by rw [List.length_set]; exact sl,rfl⟩)
  clear start sl l
  rintro _ ⟨l,start,sl,rfl⟩
  refine xZ (fun τ=>∃ l:List F2,(∀ w∈l,Wt w)∧l.length=rows.length∧τ=[.st,.fz (.tup (rows.map trR)),.fz (.int (rows.length:Nat)),.ow (l.map fT),.fz (.int way),.fz (.int n1),.fz (.int n2),.fz (.int by')]) ?_ (fun N hN=>?_)
  · rintro _ ⟨l,start,sl,rfl⟩
    exact k l sl start
  · refine xX (b:=decide (way=1)) (fun c=>⟨tk (by decide),fun q q0 q1=>⟨tk (by omega),fun p p0 p1=>?_⟩⟩) (fun c=>hN _ ⟨l,start,sl,rfl⟩)
    obtain ⟨m',rfl⟩:∃ m:Nat,p=(m:Int):=⟨p.toNat,by omega⟩
    show match o7 (l.map fT) (fT (q,1)) (m':Int) with | some us=>N ([.st,.fz (.tup (rows.map trR)),.fz (.int (rows.length:Nat)),.ow us,.fz (.int way),.fz (.int n1),.fz (.int n2),.fz (.int by')]:TSt) | none=>False
    rw [ph (by omega)]
    exact hN _ ⟨_,mem start (rg (by omega)),by rw [List.length_set]; exact sl,rfl⟩
theorem jM (B:Blt mg bn) (F:Fun K "_law_summed" "_law_summed" ux f fd) (m:mg "_law_summed" = some (.ref f)) (b:Binds K fd ["_law_rows", "_law_weights_here"] []) (qc:Own P w K mg base 3 "_law_plus" ["_law_one", "_law_other"] (spT 2 false false p_)) (uV:Own P w K mg base 3 "_law_times" ["_law_one", "_law_other"] (spT 2 false false mW)) :
    Own P w K mg base 4 "_law_summed" ["_law_rows", "_law_weights_here"] (spT 2 false false aT):=by
  refine xS F zb m b rfl (fun cdv A outer s H E hr=>⟨_,_,
    (xj (yc (i:=2) zb.nd rfl (Or.inl rfl) (yU (xc (xJ (xc xi (xc xi xh))) (xc (xJ (xc xi (xc xi xh))) (xc (xJ (xc xi (xc xi xh))) xh)))))
    (xj (wH PassesOwn.never rfl (gy K rfl (B.get "zip") (xc (pv 0) (xc (pv 1) xh))) (yr K (n:=2) rfl (xx (xw (i:=3) zb.nd rfl (Or.inl rfl)) (xx (xw (i:=4) zb.nd rfl (Or.inl rfl)) yo))) (xl (wH PassesOwn.never rfl (qC rfl (B.get "range") (xc xi xh)) (xw (i:=5) zb.nd rfl (Or.inl rfl)) (xl (zE (xt qc hr (xc (xP (xq K) (pv 2) (pv 5) (fun _ _=>rfl)) (xc (xt uV hr (xc (pv 4) (xc (xJ (xc (xP (xq K) (pv 3) (pv 5) (fun _ _=>rfl)) (xc xi xh))) xh))) xh))) (hJ (pv 2) (pv 5) set_list))))))
    (xl (xN (wm (wB K) rfl (B.get "tuple") yE (xc (pv 2) xh)))))),
    (xn (uv (gk (xa (xM (b:=true) (xa (xB (t:=Tr.int _)) (xa (xB (t:=Tr.int _)) xg))) (xa (xM (b:=true) (xa (xB (t:=Tr.int _)) (xa (xB (t:=Tr.int _)) xg))) (xa (xM (b:=true) (xa (xB (t:=Tr.int _)) (xa (xB (t:=Tr.int _)) xg))) xg)))))
    (xn (zC (kS (xa xf (xa xf xg))) (yt (xr xo (xr xo ye))).g (zC (vC (xa (xB (t:=Tr.int _)) xg)) xo.g (yX (xK (xa (az xf) (xa (xK (xa xf (xa (xM (b:=true) (xa (xU xf xf) (xa (xB (t:=Tr.int _)) xg))) xg))) xg))) (g6 xf))))
    (xD nA))),fun ts KK hl h=>?_⟩)
  obtain ⟨rows,ws,rfl,H0,k⟩:=h
  have hl8:=H0.l100
  have hlen:=H0.len
  have zl:(rows.zip ws).length=rows.length:=by rw [List.length_zip]; omega
  have hz:=fun x hx=>H0.zip (x:=x) hx
  refine xZ (fun τ=>τ=[.fz (.tup (rows.map trR)),.fz (.tup (ws.map fT)),.ow [fT (0,1),fT (0,1),fT (0,1)],.un,.un,.un]) ?_ (fun N hN=>hN _ rfl)
  rintro _ rfl
  refine xZ (fun τ=>∃ x3 x4 x5:TV,τ=[.fz (.tup (rows.map trR)),.fz (.tup (ws.map fT)),.ow [fT (wsum k0 (rows.zip ws)),fT (wsum k1 (rows.zip ws)),fT (wsum k2 (rows.zip ws))],x3,x4,x5]) ?_ (fun N hN=>?_)
  · rintro _ ⟨x3,x4,x5,rfl⟩
    exact k
  show xb9 _ _ _ _ _
  have zt:rV (rows.map trR) (ws.map fT)=(rows.zip ws).map rwT:=gF trR fT rows ws
  refine vB ((rows.zip ws).map rwT) (fun i τ=>∃ x3 x4 x5:TV,τ=[.fz (.tup (rows.map trR)),.fz (.tup (ws.map fT)),.ow [fT (wsum k0 ((rows.zip ws).take i)),fT (wsum k1 ((rows.zip ws).take i)),fT (wsum k2 ((rows.zip ws).take i))],x3,x4,x5]) (fun KK h=>by rw [← zt] at h; exact h) ⟨_,_,_,rfl⟩ ?_ (fun τ ⟨x3,x4,x5,e⟩=>hN _ ⟨x3,x4,x5,by rw [e,List.length_map,List.take_length]⟩)
  rintro i x τ N2 hx ⟨x3,x4,x5,rfl⟩ hN2
  obtain ⟨y,hy,rfl⟩:=vT hx
  have il:=(List.getElem?_eq_some_iff.mp hy).1
  obtain ⟨hr,hw⟩:=hz y (List.mem_of_getElem? hy)
  have tk1:(rows.zip ws).take (i+1)=(rows.zip ws).take i++[y]:=by rw [List.take_succ,hy]; rfl
  have fk:∀ (k:Pol.R3→Int),(∀ r,B3k 10 r→Bk 10 (k r))→Fk 900 (wsum k ((rows.zip ws).take i)):=fun k hk =>
    (g9 k _ fun x hx=>⟨(hz x (List.mem_of_mem_take hx)).2.sm,hk _ (hz x (List.mem_of_mem_take hx)).1⟩).mono (by rw [List.length_take]; omega)
  have f0:=fk k0 fun r h=>h.1.1
  have f1:=fk k1 fun r h=>h.1.2
  have f2:=fk k2 fun r h=>h.2
  rw [tk1,wsum_snoc,wsum_snoc,wsum_snoc] at hN2
  generalize wsum k0 ((rows.zip ws).take i)=A0 at f0 hN2
  generalize wsum k1 ((rows.zip ws).take i)=A1 at f1 hN2
  generalize wsum k2 ((rows.zip ws).take i)=A2 at f2 hN2
  refine ⟨rfl,?_⟩
  have one9:∀ {n:Int},Bk 10 n→Fk 900 (n,1):=fun h=>⟨h.mono (by decide),by show Bk 900 1; unfold Bk; decide,by show (0:Int) < 1; decide⟩
  have w9:Fk 900 y.2:=hw.sm.mono (by decide)
  have t9:∀ {n:Int},Bk 10 n→Fk 900 (cF y.2 (n,1)):=fun h=>(hw.sm.timI h).mono (by decide)
  refine ⟨⟨by decide,by decide⟩,?_⟩
  refine ⟨y.2,(y.1.1,1),rfl,w9,one9 hr.1.1,A0,_,rfl,f0,t9 hr.1.1,?_⟩
  refine ⟨y.2,(y.1.2.1,1),rfl,w9,one9 hr.1.2,A1,_,rfl,f1,t9 hr.1.2,?_⟩
  refine ⟨y.2,(y.1.2.2,1),rfl,w9,one9 hr.2,A2,_,rfl,f2,t9 hr.2,?_⟩
  exact hN2 _ ⟨_,_,_,rfl⟩
theorem gE (B:Blt mg bn) (F:Fun K "_law_times" "_law_times" uY f fd) (m:mg "_law_times" = some (.ref f)) (b:Binds K fd ["_law_one", "_law_other"] []) (yI:Own P w K mg base 2 "_law_low" ["_law_top", "_law_bottom"] (spT 2 false false cM)) :
    Own P w K mg base 3 "_law_times" ["_law_one", "_law_other"] (spT 2 false false mW):=by
  refine xS F fh m b rfl (fun cdv A outer s H E hr=>⟨_,_,
    (xl (xN (xt yI hr (xc (xF ya (xP (xq K) (pv 0) xi (fun _ _=>rfl)) (xP (xq K) (pv 1) xi (fun _ _=>rfl))) (xc (xF ya (xP (xq K) (pv 0) xi (fun _ _=>rfl)) (xP (xq K) (pv 1) xi (fun _ _=>rfl))) xh))))),
    (xD (xK (xa (xm yl (xU xf (xB (t:=Tr.int _))) (xU xf (xB (t:=Tr.int _)))) (xa (xm yl (xU xf (xB (t:=Tr.int _))) (xU xf (xB (t:=Tr.int _)))) xg)))),fun ts KK hl h=>?_⟩)
  obtain ⟨f,g,rfl,hf,hg,k⟩:=h
  exact ⟨⟨hf.top.bd,hg.top.bd⟩,⟨hf.bot.bd,hg.bot.bd⟩,_,_,rfl,by have:=Pol.pp hf.pos hg.pos; omega,(hf.bot.mul hg.bot).bd,k⟩
theorem fS (B:Blt mg bn) (F:Fun K "_law_plus" "_law_plus" vN f fd) (m:mg "_law_plus" = some (.ref f)) (b:Binds K fd ["_law_one", "_law_other"] []) (yI:Own P w K mg base 2 "_law_low" ["_law_top", "_law_bottom"] (spT 2 false false cM)) :
    Own P w K mg base 3 "_law_plus" ["_law_one", "_law_other"] (spT 2 false false p_):=by
  refine xS F fA m b rfl (fun cdv A outer s H E hr=>⟨_,_,
    (xl (xN (xt yI hr (xc (xF zp (xF ya (xP (xq K) (pv 0) xi (fun _ _=>rfl)) (xP (xq K) (pv 1) xi (fun _ _=>rfl))) (xF ya (xP (xq K) (pv 1) xi (fun _ _=>rfl)) (xP (xq K) (pv 0) xi (fun _ _=>rfl)))) (xc (xF ya (xP (xq K) (pv 0) xi (fun _ _=>rfl)) (xP (xq K) (pv 1) xi (fun _ _=>rfl))) xh))))),
    (xD (xK (xa (xm wK (xm yl (xU xf (xB (t:=Tr.int _))) (xU xf (xB (t:=Tr.int _)))) (xm yl (xU xf (xB (t:=Tr.int _))) (xU xf (xB (t:=Tr.int _))))) (xa (xm yl (xU xf (xB (t:=Tr.int _))) (xU xf (xB (t:=Tr.int _)))) xg)))),fun ts KK hl h=>?_⟩)
  obtain ⟨f,g,rfl,hf,hg,k⟩:=h
  exact ⟨⟨hf.top.bd,hg.bot.bd⟩,⟨hg.top.bd,hf.bot.bd⟩,⟨hf.bot.bd,hg.bot.bd⟩,_,_,rfl,by have:=Pol.pp hf.pos hg.pos; omega,(hf.bot.mul hg.bot).bd,k⟩
theorem sG (B:Blt mg bn) (F:Fun K "_law_cut" "_law_cut" qT f fd) (m:mg "_law_cut" = some (.ref f)) (b:Binds K fd ["_law_rows", "_law_weights_here"] []) (uJ:Own P w K mg base 4 "_law_summed" ["_law_rows", "_law_weights_here"] (spT 2 false false aT)) :
    Own P w K mg base 5 "_law_cut" ["_law_rows", "_law_weights_here"] (spT 2 false false lx):=by
  refine xS F uu m b rfl (fun cdv A outer s H E hr=>⟨_,_,
    (xj (zE (xt uJ hr (xc (pv 0) (xc (pv 1) xh))) (yr K (n:=3) rfl (xx (xw (i:=2) uu.nd rfl (Or.inl rfl)) (xx (xw (i:=3) uu.nd rfl (Or.inl rfl)) (xx (xw (i:=4) uu.nd rfl (Or.inl rfl)) yo)))))
    (xj (yK (PW.pt (zc (xQ (yP hr.units) (xP (xq K) (pv 2) xi (fun _ _=>rfl)) xi (xR _)) (zc (xQ (yP hr.units) (xP (xq K) (pv 3) xi (fun _ _=>rfl)) xi (xR _)) (zj (PW.pt (j6 (xQ (zh hr.units) (xP (xq K) (pv 2) xi (fun _ _=>rfl)) xi (xR _)) (qK (xQ (zh hr.units) (xP (xq K) (pv 3) xi (fun _ _=>rfl)) xi (xR _))))))))) (xl (xN fQ)) yb)
    (xl (xN (xJ (xc (xP (xq K) (pv 2) xi (fun _ _=>rfl)) (xc (xP (xq K) (pv 3) xi (fun _ _=>rfl)) (xc (xF wq (xP (xq K) (pv 4) xi (fun _ _=>rfl)) (xP (xq K) (pv 4) xi (fun _ _=>rfl))) xh)))))))),
    (xn (yX (xK (xa xf (xa xf xg))) (yt (xr xo (xr xo (xr xo ye)))).g)
    (xn (yq (yx (xE (xm zY (xU xf (xB (t:=Tr.int _))) (xB (t:=Tr.int _)))) (yx (xE (xm zY (xU xf (xB (t:=Tr.int _))) (xB (t:=Tr.int _)))) (qQ (xE (xm os_eq (xU xf (xB (t:=Tr.int _))) (xB (t:=Tr.int _)))) (xE (xm os_eq (xU xf (xB (t:=Tr.int _))) (xB (t:=Tr.int _))))))) (xD (xB (t:=Tr.non))) xV)
    (xD (xM (b:=true) (xa (xU xf (xB (t:=Tr.int _))) (xa (xU xf (xB (t:=Tr.int _))) (xa (xm uP (xU xf (xB (t:=Tr.int _))) (xU xf (xB (t:=Tr.int _)))) xg))))))),fun ts KK hl h=>?_⟩)
  obtain ⟨rows,ws,rfl,H0,k⟩:=h
  obtain ⟨p0,pb⟩:=H0.bot
  refine ⟨rows,ws,rfl,H0,?_⟩
  refine ⟨rfl,?_⟩
  have cn:(wsum k2 (rows.zip ws)).2≠0:=by omega
  have ce:jS (rows.zip ws)=trR ((wsum k0 (rows.zip ws)).1,(wsum k1 (rows.zip ws)).1,(wsum k2 (rows.zip ws)).1.fdiv (wsum k2 (rows.zip ws)).2):=rfl
  rw [ce] at k
  generalize wsum k0 (rows.zip ws)=a at *
  generalize wsum k1 (rows.zip ws)=b' at *
  generalize wsum k2 (rows.zip ws)=c at *
  have no:¬ vZ a b'→KK .non:=fun h=>by rw [if_neg h] at k; exact k
  have yes:vZ a b'→KK (trR (a.1,b'.1,c.1.fdiv c.2)):=fun h=>by rw [if_pos h] at k; exact k
  refine xX (b := !decide (a.2=1)) (fun z=>no fun y=>?_) (fun z1=>?_)
  · simp [y.1] at z
  have z1:a.2=1:=by simpa using z1
  refine xX (b := !decide (b'.2=1)) (fun z=>no fun y=>?_) (fun z2=>?_)
  · simp [y.2.1] at z
  have z2:b'.2=1:=by simpa using z2
  refine xX (b:=decide (a.1=0)) (fun z=>?_) (fun z3=>?_)
  · have z3:=of_decide_eq_true z
    refine xX (b:=decide (b'.1=0)) (fun z4=>?_) (fun z4=>?_)
    · exact no fun y=>y.2.2 ⟨z3,of_decide_eq_true z4⟩
    · exact ⟨⟨cn,pb⟩,yes ⟨z1,z2,fun y=>of_decide_eq_false z4 y.2⟩⟩
  · exact ⟨⟨cn,pb⟩,yes ⟨z1,z2,fun y=>of_decide_eq_false z3 y.1⟩⟩
theorem gA (B:Blt mg bn) (F:Fun K "_law_whole" "_law_whole" uR f fd) (m:mg "_law_whole" = some (.ref f)) (b:Binds K fd ["_law_thing"] [])  :
    Own P w K mg base 1 "_law_whole" ["_law_thing"] (spT 1 false false j8):=by
  refine xS F fm m b rfl (fun cdv A outer s H E hr=>⟨_,_,
    (xl (xN (qq (xC yC rfl (B.get "isinstance") xW (xc (pv 0) (xc (yY (v:=V.ty "int") rfl (B.get "int") oI rfl) xh))) (qr (p6 (xC yC rfl (B.get "isinstance") xW (xc (pv 0) (xc (yY (v:=V.ty "bool") rfl (B.get "bool") sC rfl) xh)))))))),
    (xD (ug (zV xf) (nN (zV xf)))),fun ts KK hl h=>?_⟩)
  obtain ⟨t,rfl,k⟩:=h
  cases t <;> exact k
theorem v_ (B:Blt mg bn) (F:Fun K "_law_is_fraction" "_law_is_fraction" zI f fd) (m:mg "_law_is_fraction" = some (.ref f)) (b:Binds K fd ["_law_thing"] []) (yW:Own P w K mg base 1 "_law_whole" ["_law_thing"] (spT 1 false false j8)) (yR:Own P w K mg base 1 "_law_divisor" ["_law_one", "_law_other"] (spT 2 false false pH)) :
    Own P w K mg base 2 "_law_is_fraction" ["_law_thing"] (spT 1 false false pY):=by
  refine xS F qf m b rfl (fun cdv A outer s H E hr=>⟨_,_,
    (xj (yK (PW.pt (zc (yD (yB (xC yC rfl (B.get "isinstance") xW (xc (pv 0) (xc (yY (v:=V.ty "tuple") rfl (B.get "tuple") yE rfl) xh))))) (zc (xQ (yP hr.units) (xC (yf K) rfl (B.get "len") zd (xc (pv 0) xh)) xi (xR _)) (zc (yD (yB (xt yW hr (xc (xP (xq K) (pv 0) xi (fun _ _=>rfl)) xh)))) (zj (yD (yB (xt yW hr (xc (xP (xq K) (pv 0) xi (fun _ _=>rfl)) xh))))))))) (xl (xN zS)) yb)
    (xl (xN (qq (za pG (xP (xq K) (pv 0) xi (fun _ _=>rfl)) xi (xR _)) (qr (za (zh hr.units) (xt yR hr (xc (xP (xq K) (pv 0) xi (fun _ _=>rfl)) (xc (xP (xq K) (pv 0) xi (fun _ _=>rfl)) xh))) xi (xR _))))))),
    (xn (yq (yx (yi (yw (zV xf))) (yx (xE (xm zY (ym zz (xa xf xg)) (xB (t:=Tr.int _)))) (yx (yi (yw (xK (xa (xU xf (xB (t:=Tr.int _))) xg)))) (yi (yw (xK (xa (xU xf (xB (t:=Tr.int _))) xg))))))) (xD (xB (t:=Tr.bl _))) xV)
    (xD (ug (xm c9 (xU xf (xB (t:=Tr.int _))) (xB (t:=Tr.int _))) (xm os_eq (xK (xa (xU xf (xB (t:=Tr.int _))) (xa (xU xf (xB (t:=Tr.int _))) xg))) (xB (t:=Tr.int _)))))),fun ts KK hl h=>?_⟩)
  obtain ⟨t,rfl,k⟩:=h
  cases t with
  | tup us =>
    refine xX (b := !decide ((us.length:Int)=2)) (fun c=>?_) (fun c=>?_)
    · have c:¬ (us.length:Int)=2:=by simpa using c
      have e:uN (.tup us)=false:=by
        unfold uN
        split
        · rename_i z; injection z with z; rw [z] at c; exact absurd rfl c
        · rfl
      rw [e] at k
      exact k
    · have c:us.length=2:=by simp at c; omega
      obtain ⟨x,y,rfl⟩:∃ x y,us=[x,y]:=by
        match us,c with
        | [x,y],_=>exact ⟨x,y,rfl⟩
      refine ⟨x,rfl,?_⟩
      cases x with
      | int a =>
        refine ⟨y,rfl,?_⟩
        cases y with
        | int b =>
          have e:uN (.tup [.int a,.int b])=(decide (1≤b) && decide (Int.gcd a b=1)):=rfl
          rw [e] at k
          refine xX (b:=decide (0 < b)) (fun c1=>?_) (fun c1=>?_)
          · have c1:=of_decide_eq_true c1
            rw [decide_eq_true (show 1≤b by omega),Bool.true_and] at k
            refine ⟨a,b,rfl,?_⟩
            have e2:decide (((Int.gcd a b:Nat):Int)=1)=decide (Int.gcd a b=1):=by rw [decide_eq_decide]; omega
            show KK (.bl (decide (((Int.gcd a b:Nat):Int)=1)))
            rw [e2]; exact k
          · have c1:=of_decide_eq_false c1
            rw [decide_eq_false (show ¬ 1≤b by omega),Bool.false_and] at k; exact k
        | _=>exact k
      | _=>exact k
  | _=>exact k
end
end K10
namespace K10
open PySem L2
section
variable {P:Program} {w:World} {K:PySem.W.Frag} {mg:Str→Option Value} {base:Heap} {f:Addr} {fd:FuncData}
theorem sF (B:Blt mg bn) (F:Fun K "_law_due" "_law_due" ub f fd) (m:mg "_law_due" = some (.ref f)) (b:Binds K fd ["_law_field_here", "_law_thing"] []) (wd:Own P w K mg base 5 "_law_cut" ["_law_rows", "_law_weights_here"] (spT 2 false false lx)) (yW:Own P w K mg base 1 "_law_whole" ["_law_thing"] (spT 1 false false j8)) (zA:Own P w K mg base 2 "_law_is_fraction" ["_law_thing"] (spT 1 false false pY)) :
    Own P w K mg base 6 "_law_due" ["_law_field_here", "_law_thing"] (spT 2 false false nB):=by
  refine xS F v9 m b rfl (fun cdv A outer s H E hr=>⟨_,_,
    (xj (yK (PW.pt (zc (yD (yB (xC yC rfl (B.get "isinstance") xW (xc (pv 1) (xc (yY (v:=V.ty "tuple") rfl (B.get "tuple") yE rfl) xh))))) (zc (xQ (yP hr.units) (xC (yf K) rfl (B.get "len") zd (xc (pv 1) xh)) xi (xR _)) (zj (yD (yB (xC yC rfl (B.get "isinstance") xW (xc (xP (xq K) (pv 1) xi (fun _ _=>rfl)) (xc (yY (v:=V.ty "tuple") rfl (B.get "tuple") yE rfl) xh))))))))) (xl (xN zS)) yb)
    (xj (zE (pv 1) (yr K (n:=2) rfl (xx (xw (i:=2) v9.nd rfl (Or.inl rfl)) (xx (xw (i:=3) v9.nd rfl (Or.inl rfl)) yo))))
    (xj (yK (PW.pt (zc (xQ (yP hr.units) (xC (yf K) rfl (B.get "len") zd (xc (pv 2) xh)) (xC (yf K) rfl (B.get "len") zd (xc (pv 0) xh)) (xR _)) (zj (xQ (yP hr.units) (wy (yy (N:=["_law_one"]) (tau:=[none]) (XN:=["_law_field_here", "_law_thing", "_law_weights_here", "_law_row"]) (xs:=xk ub) (by decide +kernel) rfl rfl) rfl (vj rfl) (zF K (pv 2)) (fun _ _ _ _=>(xw (i:=0) (show (["_law_one"]:List Str).Nodup by decide +kernel) rfl (Or.inl rfl))) (fun _ _ _ _=>(ah (PW.pt (zc (yD (yB (xt zA hr (xc (pv 0) xh)))) (zj (xQ (hZ K hr.units) (xP (xq K) (pv 0) xi (fun _ _=>rfl)) xi (xR _))))))) (fun _ _ _ _=>(pv 0))) (yU xh) (xR _))))) (xl (xN zS)) yb)
    (xj (yK (PW.pt (zc (yD (yB (xC yC rfl (B.get "isinstance") xW (xc (pv 3) (xc (yY (v:=V.ty "tuple") rfl (B.get "tuple") yE rfl) xh))))) (zc (xQ (yP hr.units) (xC (yf K) rfl (B.get "len") zd (xc (pv 3) xh)) xi (xR _)) (zj (xQ (yP hr.units) (wy (yy (N:=["_law_one"]) (tau:=[none]) (XN:=["_law_field_here", "_law_thing", "_law_weights_here", "_law_row"]) (xs:=xk ub) (by decide +kernel) rfl rfl) rfl (vj rfl) (zF K (pv 3)) (fun _ _ _ _=>(xw (i:=0) (show (["_law_one"]:List Str).Nodup by decide +kernel) rfl (Or.inl rfl))) (fun _ _ _ _=>(ah (yD (yB (xt yW hr (xc (pv 0) xh)))))) (fun _ _ _ _=>(pv 0))) (yU xh) (xR _)))))) (xl (xN zS)) yb)
    (xl (xN (za (zh hr.units) (xt wd hr (xc (pv 0) (xc (pv 2) xh))) (pv 3) (xR _)))))))),
    (xn (yq (yx (yi (yw (zV xf))) (yx (xE (xm zY (ym zz (xa xf xg)) (xB (t:=Tr.int _)))) (yi (yw (zV (xU xf (xB (t:=Tr.int _)))))))) (xD (xB (t:=Tr.bl _))) xV)
    (xn (yX xf (yt (xr xo (xr xo ye))).g)
    (xn (yq (yx (xE (xm zY (ym zz (xa xf xg)) (ym zz (xa xf xg)))) (xE (xm zY (OkF.e (yM (yT xf).c xo (yx (yi (yw (xK (xa xf xg)))) (xE (xm gc (xU xf (xB (t:=Tr.int _))) (xB (t:=Tr.int _))))) xf)) (zR (b:=true) xg)))) (xD (xB (t:=Tr.bl _))) xV)
    (xn (yq (yx (yi (yw (zV xf))) (yx (xE (xm zY (ym zz (xa xf xg)) (xB (t:=Tr.int _)))) (xE (xm zY (OkF.e (yM (yT xf).c xo (yi (yw (xK (xa xf xg)))) xf)) (zR (b:=true) xg))))) (xD (xB (t:=Tr.bl _))) xV)
    (xD (xm os_eq (xK (xa xf (xa xf xg))) xf)))))),fun ts KK hl h=>?_⟩)
  obtain ⟨rows,t,rfl,⟨l8,hB⟩,hp,k⟩:=h
  have ml:(rows.map trR).length=rows.length:=List.length_map _
  by_cases sh:∃ w r,t=.tup [w,r]
  rotate_left
  · have e0:ud rows t=false:=by
      unfold ud
      split
      · rename_i w r
        exact absurd ⟨w,r,rfl⟩ sh
      · rfl
    rw [e0] at k
    cases t with
    | tup us =>
      refine xX (b := !decide ((us.length:Int)=2)) (fun c=>k) (fun c=>?_)
      have c:us.length=2:=by simp at c; omega
      match us,c with
      | [x,y],_=>exact absurd ⟨x,y,rfl⟩ sh
    | _=>exact k
  obtain ⟨w',r',rfl⟩:=sh
  obtain ⟨⟨pw,pr⟩,hw⟩:=hp w' r' rfl
  have e0:ud rows (.tup [w',r'])=((wA r' && gv rows.length w') && cP rows w' r'):=rfl
  rw [e0] at k
  by_cases wt:∃ us,w'=.tup us
  rotate_left
  · have na:gv rows.length w'=false:=by
      unfold gv
      split
      · rename_i us; exact absurd ⟨us,rfl⟩ wt
      · rfl
    rw [na,Bool.and_false,Bool.false_and] at k
    cases w' with
    | tup us=>exact absurd ⟨us,rfl⟩ wt
    | _=>exact k
  obtain ⟨us,rfl⟩:=wt
  have ae:gv rows.length (.tup us)=(decide (us.length=rows.length) && us.all wtT):=rfl
  show xag _ _ _ ([.fz (.tup (rows.map trR)),.fz (.tup [.tup us,r']),.un,.un]:TSt)
  refine xZ (fun τ=>τ=[.fz (.tup (rows.map trR)),.fz (.tup [.tup us,r']),.un,.un]) ?_ (fun N hN=>hN _ rfl)
  rintro _ rfl
  refine xZ (fun τ=>τ=[.fz (.tup (rows.map trR)),.fz (.tup [.tup us,r']),.fz (.tup us),.fz r']) ?_ (fun N hN=>⟨rfl,hN _ rfl⟩)
  rintro _ rfl
  refine xZ (fun τ=>(us.length=rows.length∧us.all wtT=true)∧τ=[.fz (.tup (rows.map trR)),.fz (.tup [.tup us,r']),.fz (.tup us),.fz r']) ?_ (fun N hN=>?_)
  rotate_left
  · refine xX (b := !decide ((us.length:Int)=((rows.map trR).length:Nat))) (fun c=>?_) (fun c=>?_)
    · have c:¬ (us.length:Int)=((rows.map trR).length:Nat):=by simpa using c
      rw [ae,decide_eq_false (by rw [ml] at c; omega),Bool.false_and,Bool.and_false,Bool.false_and] at k
      exact k
    have c0:(us.length:Int)=((rows.map trR).length:Nat):=by simpa using c
    have c:us.length=rows.length:=by rw [ml] at c0; omega
    refine ⟨sqz (by omega),kZ (fun u=>!wtT u) id (fun u hu N M h1 h0=>?_) ?_⟩
    · refine ⟨u,rfl,?_⟩
      rw [xar] at h1 h0
      refine xX (b := !uN u) (fun c=>?_) (fun c=>?_)
      · have c:uN u=false:=by simpa using c
        rw [c] at h1
        exact h1 rfl
      · have c:uN u=true:=by simpa using c
        obtain ⟨a,b',rfl⟩:=rY c
        rw [c,Bool.true_and] at h1 h0
        refine xX (b:=decide (a < 0)) (fun d=>h1 ?_) (fun d=>h0 ?_)
        · have d:=of_decide_eq_true d
          show (!decide (0≤a))=true
          rw [decide_eq_false (by omega)]; rfl
        · have d:=of_decide_eq_false d
          show (!decide (0≤a))=false
          rw [decide_eq_true (by omega)]; rfl
    · dsimp only [xbF,xas]
      rw [List.map_id]
      refine n9 ((vE _).mpr fun u hu=>ka.mp pw u (List.mem_filter.mp hu).1) ?_
      rw [filter_empty]
      simp only [Bool.not_not]
      refine xX (b := !(us.all wtT)) (fun d=>?_) (fun d=>?_)
      · have d:us.all wtT=false:=by simpa using d
        rw [ae,d,Bool.and_false,Bool.and_false,Bool.false_and] at k
        exact k
      · have d:us.all wtT=true:=by simpa using d
        exact hN _ ⟨⟨c,d⟩,rfl⟩
  rintro _ ⟨⟨ul,ua⟩,rfl⟩
  have at':gv rows.length (.tup us)=true:=by rw [ae,ua,decide_eq_true ul]; rfl
  rw [at',Bool.and_true] at k
  obtain ⟨ws,e,hg⟩:=hw at'
  injection e with e
  subst e
  have H0:WS rows ws:=⟨hg.1.symm,l8,hB,hg.2⟩
  refine xZ (fun τ=>(∃ r:Pol.R3,r'=trR r)∧τ=[.fz (.tup (rows.map trR)),.fz (.tup [wsT ws,r']),.fz (wsT ws),.fz r']) ?_ (fun N hN=>?_)
  rotate_left
  · cases r' with
    | tup vs =>
      refine xX (b := !decide ((vs.length:Int)=3)) (fun c=>?_) (fun c=>?_)
      · have c:¬ (vs.length:Int)=3:=by simpa using c
        rw [ky (.inr (by omega)),Bool.false_and] at k
        exact k
      have c0:(vs.length:Int)=3:=by simpa using c
      have c:vs.length=3:=by omega
      refine ⟨sqz (by omega),kZ (fun u=>!tU u) id (fun u hu N M h1 h0=>⟨u,rfl,xX h1 h0⟩) ?_⟩
      dsimp only [xbF,xas]
      rw [List.map_id]
      refine n9 ((vE _).mpr fun u hu=>ka.mp pr u (List.mem_filter.mp hu).1) ?_
      rw [filter_empty]
      simp only [Bool.not_not]
      refine xX (b := !(vs.all tU)) (fun d=>?_) (fun d=>?_)
      · have d:vs.all tU=false:=by simpa using d
        rw [ky (.inl d),Bool.false_and] at k
        exact k
      · have d:vs.all tU=true:=by simpa using d
        exact hN _ ⟨nM d c,rfl⟩
    | _=>exact k
  rintro _ ⟨⟨r,rfl⟩,rfl⟩
  refine ⟨rows,ws,rfl,H0,?_⟩
  have e1:cP rows (wsT ws) (trR r)=(decide (vZ (wsum k0 (rows.zip ws)) (wsum k1 (rows.zip ws))) && teq (jS (rows.zip ws)) (trR r)):=by unfold cP; rw [rO]
  have k:KK (.bl (wA (trR r) && cP rows (wsT ws) (trR r))):=k
  rw [e1] at k
  by_cases hc:vZ (wsum k0 (rows.zip ws)) (wsum k1 (rows.zip ws))
  · rw [if_pos hc]
    rw [decide_eq_true hc,Bool.true_and] at k
    refine ⟨⟨rfl,rfl,by show min 1 1≤64; decide⟩,?_⟩
    show KK (.bl (teq (jS (rows.zip ws)) (trR r)))
    have e2:(wA (trR r) && teq (jS (rows.zip ws)) (trR r))=teq (jS (rows.zip ws)) (trR r):=by
      cases hq:teq (jS (rows.zip ws)) (trR r) with
      | false=>rw [Bool.and_false]
      | true =>
        unfold jS at hq
        rw [si] at hq
        have hq:=of_decide_eq_true hq
        rw [Bool.and_true,← hq]
        show decide (_≠0∨_≠0)=true
        refine decide_eq_true ?_
        have:=hc.2.2
        by_cases z:(wsum k0 (rows.zip ws)).1=0
        · exact .inr fun y=>this ⟨z,y⟩
        · exact .inl z
    rw [e2] at k
    exact k
  · rw [if_neg hc]
    rw [decide_eq_false hc,Bool.false_and,Bool.and_false] at k
    exact ⟨⟨rfl,rfl,by show min 0 1≤64; decide⟩,k⟩
theorem dE (B:Blt mg bn) (F:Fun K "_law_bent" "_law_bent" vU f fd) (m:mg "_law_bent" = some (.ref f)) (b:Binds K fd ["_law_state_here", "_law_field_here", "_law_weights_here", "_law_row"] []) (xy:Own P w K mg base 1 "_law_take" ["_law_state_here", "_law_many"] (spT 1 true false tN)) :
    Own P w K mg base 2 "_law_bent" ["_law_state_here", "_law_field_here", "_law_weights_here", "_law_row"] (spT 3 true false rh):=by
  refine jj F yk m b rfl (fun cdv A outer s H E hr=>⟨_,_,
    (xj (zE (pv 3) (yr K (n:=3) rfl (xx (xw (i:=4) yk.nd rfl (Or.inl rfl)) (xx (xw (i:=5) yk.nd rfl (Or.inl rfl)) (xx (xw (i:=6) yk.nd rfl (Or.inl rfl)) yo)))))
    (xj (yc (i:=7) yk.nd rfl (Or.inl rfl) (xt xy hr (xc (pv 0) (xc (xC (yf K) rfl (B.get "len") zd (xc (pv 1) xh)) xh))))
    (xj (yc (i:=8) yk.nd rfl (Or.inl rfl) (xP (xq K) (yU (xc (xJ (xc xi (xc xi xh))) (xc (xJ (xc xi (xc xi xh))) (xc (xJ (xc xi (xc xi xh))) (xc (xJ (xc (uK zH xi) (xc xi xh))) (xc (xJ (xc xi (xc xi xh))) (xc fQ (xc zS (xc xi xh))))))))) (xt xy hr (xc (pv 0) (xc xi xh))) (fun _ _=>rfl)))
    (xj (yc (i:=9) yk.nd rfl (Or.inl rfl) (xF (jk K) (xF (jk K) (uG (mC K) (pv 2) qd (v5 (pv 7))) (xJ (xc (pv 8) xh))) (uG (mC K) (pv 2) (v5 (xF (jk K) (pv 7) xi)) qd)))
    (xj (yc (i:=10) yk.nd rfl (Or.inl rfl) (yU (xc (xJ (xc (pv 2) (xc (pv 3) xh))) (xc (xJ (xc (pv 2) (xc (xJ (xc (pv 4) (xc (pv 5) (xc (xF (jk K) (pv 6) xi) xh)))) xh))) (xc (xJ (xc (pv 2) (xc (xJ (xc (pv 4) (xc (pv 5) (xc (xF zy (pv 6) xi) xh)))) xh))) (xc (xJ (xc (pv 2) (xc (xJ (xc (xF zy xi (pv 4)) (xc (xF zy xi (pv 5)) (xc (pv 6) xh)))) xh))) xh))))))
    (xj (yc (i:=10) yk.nd rfl (Or.inl rfl) (xF jv (pv 10) (yU (xc (xJ (xc (pv 2) (xc (xJ (xc (xF (sH K) xi (pv 4)) (xc (xF (sH K) xi (pv 5)) (xc (xF (sH K) xi (pv 6)) xh)))) xh))) (xc (xJ (xc (pv 9) (xc (pv 3) xh))) (xc (xJ (xc (xF (jk K) (pv 2) (xJ (xc (xJ (xc xi (xc xi xh))) xh))) (xc (pv 3) xh))) xh))))))
    (xj (yc (i:=10) yk.nd rfl (Or.inl rfl) (xF jv (pv 10) (yU (xc (xJ (xc (pv 2) (xc (wm (jZ K) rfl (B.get "list") bj (xc (pv 3) xh)) xh))) (xc (yU (xc (pv 2) (xc (pv 3) xh))) xh)))))
    (xj (yc (i:=10) yk.nd rfl (Or.inl rfl) (xF jv (pv 10) (yU (xc (xJ (xc (wm (jZ K) rfl (B.get "list") bj (xc (pv 2) xh)) (xc (pv 3) xh))) (xc (xJ (xc (pv 2) xh)) (xc (xJ (xc (pv 2) (xc (pv 3) (xc xi xh)))) (xc fQ (xc (pv 3) (xc (xJ (xc (pv 3) (xc (pv 2) xh))) (xc (xJ (xc (pv 2) (xc fQ xh))) (xc lT xh)))))))))))
    (xj (yc (i:=10) yk.nd rfl (Or.inl rfl) (xF jv (pv 10) (yU (xc (xJ (xc (uG (mC K) (pv 2) qd (v5 (uK zH xi))) (xc (pv 3) xh))) (xc (xJ (xc (pv 2) (xc (xJ (xc (pv 4) (xc (pv 5) xh))) xh))) (xc (xJ (xc (pv 2) (xc (xJ (xc (pv 4) (xc zS (xc (pv 6) xh)))) xh))) (xc (xJ (xc (pv 2) (xc (xJ (xc (pv 4) (xc (pv 5) (xc (xJ (xc (pv 6) (xc xi xh))) xh)))) xh))) xh)))))))
    (xl (xN (xP (xq K) (pv 10) (xt xy hr (xc (pv 0) (xc xi xh))) (fun _ _=>rfl))))))))))))),
    (xn (yX xf (yt (xr xo (xr xo (xr xo ye)))).g)
    (xn (x9 (yd (xa (ym zz (xa xf xg)) xg)))
    (xn (x9 (xU (zR (b:=true) (xa (xM (b:=true) (xa (xB (t:=Tr.int _)) (xa (xB (t:=Tr.int _)) xg))) (xa (xM (b:=true) (xa (xB (t:=Tr.int _)) (xa (xB (t:=Tr.int _)) xg))) (xa (xM (b:=true) (xa (xB (t:=Tr.int _)) (xa (xB (t:=Tr.int _)) xg))) (xa (xM (b:=true) (xa (zG (xB (t:=Tr.int _))) (xa (xB (t:=Tr.int _)) xg))) (xa (xM (b:=true) (xa (xB (t:=Tr.int _)) (xa (xB (t:=Tr.int _)) xg))) (xa (xB (t:=Tr.non)) (xa (xB (t:=Tr.bl _)) (xa (xB (t:=Tr.int _)) xg))))))))) (yd (xa (xB (t:=Tr.int _)) xg))))
    (xn (x9 (jx (jx (mw xf uL (uy xf)) (xM (b:=true) (xa xf xg))) (mw xf (uy (jx xf (xB (t:=Tr.int _)))) uL)))
    (xn (x9 (zR (b:=true) (xa (xM (b:=true) (xa xf (xa xf xg))) (xa (xM (b:=true) (xa xf (xa (xM (b:=true) (xa xf (xa xf (xa (jx xf (xB (t:=Tr.int _))) xg)))) xg))) (xa (xM (b:=true) (xa xf (xa (xM (b:=true) (xa xf (xa xf (xa (xm zK xf (xB (t:=Tr.int _))) xg)))) xg))) (xa (xM (b:=true) (xa xf (xa (xM (b:=true) (xa (xm zK (xB (t:=Tr.int _)) xf) (xa (xm zK (xB (t:=Tr.int _)) xf) (xa xf xg)))) xg))) xg))))))
    (xn (x9 (OkF.e (qW xf (zR (b:=true) (xa (xM (b:=true) (xa xf (xa (xM (b:=true) (xa (sf (xB (t:=Tr.int _)) xf) (xa (sf (xB (t:=Tr.int _)) xf) (xa (sf (xB (t:=Tr.int _)) xf) xg)))) xg))) (xa (xM (b:=true) (xa xf (xa xf xg))) (xa (xM (b:=true) (xa (jx xf (xM (b:=true) (xa (xM (b:=true) (xa (xB (t:=Tr.int _)) (xa (xB (t:=Tr.int _)) xg))) xg))) (xa xf xg))) xg)))))))
    (xn (x9 (OkF.e (qW xf (zR (b:=true) (xa (xM (b:=true) (xa xf (xa (OkF.e (aE (xa xf xg))) xg))) (xa (zR (b:=true) (xa xf (xa xf xg))) xg))))))
    (xn (x9 (OkF.e (qW xf (zR (b:=true) (xa (xM (b:=true) (xa (OkF.e (aE (xa xf xg))) (xa xf xg))) (xa (xM (b:=true) (xa xf xg)) (xa (xM (b:=true) (xa xf (xa xf (xa (xB (t:=Tr.int _)) xg)))) (xa (xB (t:=Tr.non)) (xa xf (xa (xM (b:=true) (xa xf (xa xf xg))) (xa (xM (b:=true) (xa xf (xa (xB (t:=Tr.non)) xg))) (xa lC xg))))))))))))
    (xn (x9 (OkF.e (qW xf (zR (b:=true) (xa (xM (b:=true) (xa (mw xf uL (uy (zG (xB (t:=Tr.int _))))) (xa xf xg))) (xa (xM (b:=true) (xa xf (xa (xM (b:=true) (xa xf (xa xf xg))) xg))) (xa (xM (b:=true) (xa xf (xa (xM (b:=true) (xa xf (xa (xB (t:=Tr.bl _)) (xa xf xg)))) xg))) (xa (xM (b:=true) (xa xf (xa (xM (b:=true) (xa xf (xa xf (xa (xM (b:=true) (xa xf (xa (xB (t:=Tr.int _)) xg))) xg)))) xg))) xg))))))))
    (xD (xU xf (yd (xa (xB (t:=Tr.int _)) xg))))))))))))),fun ts KK hl h=>?_⟩)
  obtain ⟨rows,ws,r,rfl,⟨l3,l8⟩,hg,hr',k⟩:=h
  have ml:(rows.map trR).length=rows.length:=List.length_map _
  have wl:(ws.map fT).length=rows.length:=by rw [List.length_map]; exact hg.1
  have pR:∀ x:Pol.R3,pln (trR x)=true:=fun x=>rfl
  have pW:pln (wsT ws)=true:=vn fT p7 ws
  have pWm:∀ u∈ws.map fT,pln u=true:=ka.mp pW
  refine xZ (fun τ=>τ=[.st,.fz (.tup (rows.map trR)),.fz (wsT ws),.fz (trR r),.fz (.int r.1),.fz (.int r.2.1),.fz (.int r.2.2),.un,.un,.un,.un]) ?_ (fun N hN=>⟨rfl,hN _ rfl⟩)
  rintro _ rfl
  refine xZ (fun τ=>∃ n:Nat,n < rows.length∧τ=[.st,.fz (.tup (rows.map trR)),.fz (wsT ws),.fz (trR r),.fz (.int r.1),.fz (.int r.2.1),.fz (.int r.2.2),.fz (.int n),.un,.un,.un]) ?_ (fun N hN=>⟨tk (by rw [ml]; omega),fun q q0 q1=>hN _ ⟨q.toNat,by rw [ml] at q1; omega,by rw [show ((q.toNat:Nat):Int)=q by omega]; rfl⟩⟩)
  rintro _ ⟨n,hn,rfl⟩
  refine xZ (fun τ=>∃ o:Tr,(pln o=true∧(wtT o=true→∃ w,o=fT w∧Wt w))∧τ=[.st,.fz (.tup (rows.map trR)),.fz (wsT ws),.fz (trR r),.fz (.int r.1),.fz (.int r.2.1),.fz (.int r.2.2),.fz (.int n),.fz o,.un,.un]) ?_ (fun N hN=>⟨tk (by decide),fun q q0 q1=>aY q0 q1 fun t ht=>hN _ ⟨t,?_,rfl⟩⟩)
  rotate_left
  · simp only [List.mem_cons,List.not_mem_nil,or_false] at ht
    rcases ht with rfl | rfl | rfl | rfl | rfl | rfl | rfl | rfl
    · exact ⟨rfl,fun _=>⟨(0,1),rfl,rg (by decide)⟩⟩
    · exact ⟨rfl,fun _=>⟨(1,1),rfl,rg (by decide)⟩⟩
    · exact ⟨rfl,fun _=>⟨(1,2),rfl,⟨by decide,by decide,by decide,⟨by unfold Bk; decide,by unfold Bk; decide,by decide⟩⟩⟩⟩
    · exact ⟨rfl,fun z=>absurd z (by decide)⟩
    · exact ⟨rfl,fun z=>absurd z (by decide)⟩
    · exact ⟨rfl,fun z=>absurd z (by decide)⟩
    · exact ⟨rfl,fun z=>absurd z (by decide)⟩
    · exact ⟨rfl,fun z=>absurd z (by decide)⟩
  rintro _ ⟨o,⟨po,ho⟩,rfl⟩
  refine xZ (fun τ=>∃ v:Tr,(pln v=true∧(gv rows.length v=true→∃ ws',v=wsT ws'∧GW rows.length ws'))∧τ=[.st,.fz (.tup (rows.map trR)),.fz (wsT ws),.fz (trR r),.fz (.int r.1),.fz (.int r.2.1),.fz (.int r.2.2),.fz (.int n),.fz o,.fz v,.un]) ?_ (fun N hN=>?_)
  rotate_left
  · have c1:=aR (ws.map fT) none (some (n:Int))
    have c2:=aR (ws.map fT) (some ((n:Int)+1)) none
    rw [wl] at c1 c2
    refine ⟨bN (by show _+1≤1000000; omega),bN (by rw [List.length_append]; show _+1+_≤1000000; omega),hN _ ⟨_,⟨ka.mpr fun u hu=>?_,fun z=>?_⟩,rfl⟩⟩
    · rcases List.mem_append.mp hu with hu | hu
      · rcases List.mem_append.mp hu with hu | hu
        · exact pWm u (gO hu)
        · rw [List.mem_singleton.mp hu]; exact po
      · exact pWm u (gO hu)
    · have zo:wtT o=true:=by
        cases q:wtT o with
        | true=>rfl
        | false=>rw [aA (List.mem_append_left _ (List.mem_append_right _ (List.mem_singleton.mpr rfl))) q] at z; cases z
      obtain ⟨w,rfl,hw⟩:=ho zo
      have e1:qp (ws.map fT) none (some (n:Int))=(ws.take n).map fT:=by rw [mx,List.map_take]
      have e2:qp (ws.map fT) (some ((n:Int)+1)) none=(ws.drop (n+1)).map fT:=by
        rw [show (n:Int)+1=((n+1:Nat):Int) by omega,gw,List.map_drop]
      rw [e1,e2]
      refine ⟨ws.take n++[w]++ws.drop (n+1),by unfold wsT; rw [List.map_append,List.map_append]; rfl,?_,fun v hv=>?_⟩
      · have:=hg.1
        simp only [List.length_append,List.length_take,List.length_drop,List.length_singleton]; omega
      · rcases List.mem_append.mp hv with hv | hv
        · rcases List.mem_append.mp hv with hv | hv
          · exact hg.2 v (List.mem_of_mem_take hv)
          · rw [List.mem_singleton.mp hv]; exact hw
        · exact hg.2 v (List.mem_of_mem_drop hv)
  rintro _ ⟨v,⟨pv',hv⟩,rfl⟩
  have pr:∀ {r'':Tr},pln r''=true→d_ rows.length (.tup [wsT ws,r'']):=fun h=>bM hg h
  refine xZ (fun τ=>∃ us:List Tr,us.length=4∧(∀ u∈us,d_ rows.length u)∧τ=[.st,.fz (.tup (rows.map trR)),.fz (wsT ws),.fz (trR r),.fz (.int r.1),.fz (.int r.2.1),.fz (.int r.2.2),.fz (.int n),.fz o,.fz v,.fz (.lst us)]) ?_ (fun N hN=>hN _ ⟨_,rfl,fun u hu=>?_,rfl⟩)
  rotate_left
  · simp only [List.mem_cons,List.not_mem_nil,or_false] at hu
    rcases hu with rfl | rfl | rfl | rfl <;> exact pr rfl
  rintro _ ⟨us1,l1,p1,rfl⟩
  have ap:∀ {us vs:List Tr},(∀ u∈us,d_ rows.length u)→(∀ u∈vs,d_ rows.length u)→∀ u∈us++vs,d_ rows.length u:=fun h1 h2 t ht=>(List.mem_append.mp ht).elim (h1 t) (h2 t)
  have b2:CM 2 r.1∧CM 2 r.2.1∧CM 2 r.2.2:=⟨⟨wL (by decide),hr'.1.1.bd⟩,⟨wL (by decide),hr'.1.2.bd⟩,wL (by decide),hr'.2.bd⟩
  refine xZ (fun τ=>∃ us:List Tr,us.length=7∧(∀ u∈us,d_ rows.length u)∧τ=[.st,.fz (.tup (rows.map trR)),.fz (wsT ws),.fz (trR r),.fz (.int r.1),.fz (.int r.2.1),.fz (.int r.2.2),.fz (.int n),.fz o,.fz v,.fz (.lst us)]) ?_ (fun N hN=>⟨b2.1,b2.2.1,b2.2.2,bN (by rw [wl]; show rows.length+1≤1000000; omega),bN (by rw [l1]; show 4+3≤1000000; decide),hN _ ⟨_,by rw [List.length_append,l1]; rfl,ap p1 fun u hu=>?_,rfl⟩⟩)
  rotate_left
  · simp only [List.mem_cons,List.not_mem_nil,or_false] at hu
    rcases hu with rfl | rfl | rfl
    · exact pr rfl
    · exact fun w r' e=>by cases e; exact ⟨⟨pv',rfl⟩,hv⟩
    · refine kM (ka.mpr fun u hu=>?_) rfl (aO ?_)
      · rcases List.mem_append.mp hu with hu | hu
        · exact pWm u hu
        · rw [List.mem_singleton.mp hu]; rfl
      · rw [List.length_append,wl]; simp
  clear p1 l1 us1
  rintro _ ⟨us1,l1,p1,rfl⟩
  refine xZ (fun τ=>∃ us:List Tr,us.length=9∧(∀ u∈us,d_ rows.length u)∧τ=[.st,.fz (.tup (rows.map trR)),.fz (wsT ws),.fz (trR r),.fz (.int r.1),.fz (.int r.2.1),.fz (.int r.2.2),.fz (.int n),.fz o,.fz v,.fz (.lst us)]) ?_ (fun N hN=>⟨bN (by rw [l1]; show 7+2≤1000000; decide),hN _ ⟨_,by rw [List.length_append,l1]; rfl,ap p1 fun u hu=>?_,rfl⟩⟩)
  rotate_left
  · simp only [List.mem_cons,List.not_mem_nil,or_false] at hu
    rcases hu with rfl | rfl
    · exact pr rfl
    · exact qN fun w r e=>nomatch e
  clear p1 l1 us1
  rintro _ ⟨us1,l1,p1,rfl⟩
  refine xZ (fun τ=>∃ us:List Tr,us.length=17∧(∀ u∈us,d_ rows.length u)∧τ=[.st,.fz (.tup (rows.map trR)),.fz (wsT ws),.fz (trR r),.fz (.int r.1),.fz (.int r.2.1),.fz (.int r.2.2),.fz (.int n),.fz o,.fz v,.fz (.lst us)]) ?_ (fun N hN=>⟨bN (by rw [l1]; show 9+8≤1000000; decide),hN _ ⟨_,by rw [List.length_append,l1]; rfl,ap p1 fun u hu=>?_,rfl⟩⟩)
  rotate_left
  · simp only [List.mem_cons,List.not_mem_nil,or_false] at hu
    rcases hu with rfl | rfl | rfl | rfl | rfl | rfl | rfl | rfl
    · exact kM (xaa.mpr pWm) rfl rfl
    · exact qN fun w r e=>by injection e with e; injection e with _ e; cases e
    · exact qN fun w r e=>by injection e with e; injection e with _ e; injection e with _ e; cases e
    · exact qN fun w r e=>nomatch e
    · exact qN fun w r e=>by injection e with e; injection e with _ e; injection e with _ e; cases e
    · exact kM rfl pW (aA (u:=.int r.1) List.mem_cons_self rfl)
    · exact pr rfl
    · exact qN fun w r e=>nomatch e
  clear p1 l1 us1
  rintro _ ⟨us1,l1,p1,rfl⟩
  refine xZ (fun τ=>∃ us:List Tr,us.length=21∧(∀ u∈us,d_ rows.length u)∧τ=[.st,.fz (.tup (rows.map trR)),.fz (wsT ws),.fz (trR r),.fz (.int r.1),.fz (.int r.2.1),.fz (.int r.2.2),.fz (.int n),.fz o,.fz v,.fz (.lst us)]) ?_ (fun N hN=>⟨bN (by rw [l1]; show 17+4≤1000000; decide),hN _ ⟨_,by rw [List.length_append,l1]; rfl,ap p1 fun u hu=>?_,rfl⟩⟩)
  rotate_left
  · simp only [List.mem_cons,List.not_mem_nil,or_false] at hu
    rcases hu with rfl | rfl | rfl | rfl
    · exact kM (ka.mpr fun u hu=>pWm u (gO hu)) rfl (aO (by rw [pB,wl]; omega))
    · exact pr rfl
    · exact pr rfl
    · exact pr rfl
  clear p1 l1 us1
  rintro _ ⟨us1,l1,p1,rfl⟩
  exact ⟨tk (by decide),fun q q0 q1=>aY q0 (by rw [l1]; exact q1) fun t ht=>k t (p1 t ht)⟩
end
end K10
namespace K10
open PySem L2
section
variable {P:Program} {w:World} {K:PySem.W.Frag} {mg:Str→Option Value} {base:Heap} {f:Addr} {fd:FuncData}
theorem xbw (B:Blt mg bn) (F:Fun K "law" "law" jO f fd) (vi:Own P w K mg base 2 "_law_state" ["_law_script", "_law_k"] (s9 K)) (vg:Own P w K mg base 2 "_law_field" ["_law_state_here"] (spT 0 true false m5)) (wO:Own P w K mg base 3 "_law_weights" ["_law_state_here", "_law_rows"] (spT 1 true false dQ)) (wd:Own P w K mg base 5 "_law_cut" ["_law_rows", "_law_weights_here"] (spT 2 false false lx)) (qb:Own P w K mg base 2 "_law_bent" ["_law_state_here", "_law_field_here", "_law_weights_here", "_law_row"] (spT 3 true false rh)) (ku:Own P w K mg base 11 "is_paper" ["field", "thing"] (spT 2 false false aB)) (xy:Own P w K mg base 1 "_law_take" ["_law_state_here", "_law_many"] (spT 1 true false tN)) (ko:Own P w K mg base 6 "_law_due" ["_law_field_here", "_law_thing"] (spT 2 false false nB)) :
    gI P w K mg base CX0 12 f fd ["_law_script"] (tH K):=by
  refine cj F qm rfl (fun cdv A outer s H E hr=>⟨_,_,
    (xj (wH PassesOwn.never rfl (qC rfl (B.get "range") (xc (xC (fJ rfl) rfl (B.get "max") oB (xc xi (xc (xC (ma rfl) rfl (B.get "min") xbk (xc (xC (yf K) rfl (B.get "len") zd (xc (pv 0) xh)) (xc xi xh))) xh))) xh)) (xw (i:=1) qm.nd rfl (Or.inl rfl)) (xj (yc (i:=2) qm.nd rfl (Or.inl rfl) (xt vi hr (xc (pv 0) (xc (pv 1) xh))))
    (xj (yc (i:=3) qm.nd rfl (Or.inl rfl) (xt vg hr (xc (pv 2) xh)))
    (xl (wH PassesOwn.never rfl (qC rfl (B.get "range") (xc xi xh)) (xw (i:=4) qm.nd rfl (Or.inl rfl)) (xj (yc (i:=5) qm.nd rfl (Or.inl rfl) (xt wO hr (xc (pv 2) (xc (pv 3) xh))))
    (xj (yc (i:=6) qm.nd rfl (Or.inl rfl) (xaR K (xt wd hr (xc (pv 3) (xc (pv 5) xh))) (qr (xP (xq K) (pv 3) (xt xy hr (xc (pv 2) (xc (xC (yf K) rfl (B.get "len") zd (xc (pv 3) xh)) xh))) (fun _ _=>rfl)))))
    (xl (wH PassesOwn.never rfl (zF K (yU (xc (xJ (xc (pv 5) (xc (pv 6) xh))) (xc (xt qb hr (xc (pv 2) (xc (pv 3) (xc (pv 5) (xc (pv 6) xh))))) xh)))) (xw (i:=7) qm.nd rfl (Or.inl rfl)) (xj (yc (i:=8) qm.nd rfl (Or.inl rfl) (xt ku hr (xc (pv 3) (xc (pv 7) xh))))
    (xl (yK (PW.pt (zc (yD (yB (xC yC rfl (B.get "isinstance") xW (xc (pv 8) (xc (yY (v:=V.ty "bool") rfl (B.get "bool") sC rfl) xh))))) (zj (xQ (yP hr.units) (pv 8) (xt ko hr (xc (pv 3) (xc (pv 7) xh))) (xR _))))) (xl (xN zS)) yb))))))))))))
    (xl (xN zS))),
    (xn (zC (vC (xa (ym mT (xa (xB (t:=Tr.int _)) (xa (ym oX (xa c7 (xa (xB (t:=Tr.int _)) xg))) xg))) xg)) xo.g (xn (mU xf)
    (xn (x9 (yd (b:=true) xg))
    (zC (vC (xa (xB (t:=Tr.int _)) xg)) xo.g (xn (x9 (yd (xa xf xg)))
    (xn (x9 (xaE (xK (xa xf (xa xf xg))) (xU xf (yd (xa (ym zz (xa xf xg)) xg)))))
    (zC (yT (zR (b:=true) (xa (xM (b:=true) (xa xf (xa xf xg))) (xa (yd (xa xf (xa xf (xa xf xg)))) xg)))) xo.g (xn (x9 (xK (xa xf (xa xf xg))))
    (yq (yx (yi (yw (zV xf))) (xE (xm zY xf (xK (xa xf (xa xf xg)))))) (xD (xB (t:=Tr.bl _))) xV)))))))))
    (xD (xB (t:=Tr.bl _)))),fun ns hl=>?_⟩)
  refine xZ (fun τ=>True) (fun τ _=>rfl) (fun N hN=>?_)
  refine vB _ (fun i τ=>∃ (x1 x2 x3 x4 x5 x6 x7 x8:TV),τ=[.sc ns,x1,x2,x3,x4,x5,x6,x7,x8]) (fun KK h=>fun _=>⟨⟨by split <;> split <;> omega,by split <;> split <;> omega⟩,h⟩) ⟨_,_,_,_,_,_,_,_,rfl⟩ ?_ (fun τ _=>hN _ trivial)
  rintro i x τ N2 hx ⟨x1,x2,x3,x4,x5,x6,x7,x8,rfl⟩ hN2
  have hi:=(List.getElem?_eq_some_iff.mp hx).1
  rw [vt] at hi
  rw [aL hi] at hx
  cases hx
  dsimp only [pq,cE,eName,xbz]
  have hk:(0:Int)≤(0:Int)+i:=by omega
  generalize (0:Int)+i=kk at hk
  show xag _ _ _ ([.sc ns,.fz (.int kk),x2,x3,x4,x5,x6,x7,x8]:TSt)
  refine xZ (fun τ=>τ=[.sc ns,.fz (.int kk),.st,x3,x4,x5,x6,x7,x8]) ?_ (fun N hN=>⟨hk,hN _ rfl⟩)
  rintro _ rfl
  refine xZ (fun τ=>∃ rows,LF rows∧τ=[.sc ns,.fz (.int kk),.st,.fz (.tup (rows.map trR)),x4,x5,x6,x7,x8]) ?_ (fun N hN=>⟨rfl,fun rows hF=>hN _ ⟨rows,hF,rfl⟩⟩)
  rintro _ ⟨rows,hF,rfl⟩
  have l3:=hF.l3
  have l8:=hF.l8
  have ml:(rows.map trR).length=rows.length:=List.length_map _
  refine vB (oS 0 6) (fun j τ=>∃ y4 y5 y6 y7 y8:TV,τ=[.sc ns,.fz (.int kk),.st,.fz (.tup (rows.map trR)),y4,y5,y6,y7,y8]) (fun KK h=>⟨⟨by decide,by decide⟩,h⟩) ⟨_,_,_,_,_,rfl⟩ ?_ (fun τ ⟨y4,y5,y6,y7,y8,e⟩=>hN2 _ ⟨_,_,_,_,_,_,_,_,e⟩)
  rintro j y τ N3 hy ⟨y4,y5,y6,y7,y8,rfl⟩ hN3
  dsimp only [pq,cE,eName,xbz]
  show xag _ _ _ ([.sc ns,.fz (.int kk),.st,.fz (.tup (rows.map trR)),.fz y,y5,y6,y7,y8]:TSt)
  refine xZ (fun τ=>∃ ws,GW rows.length ws∧τ=[.sc ns,.fz (.int kk),.st,.fz (.tup (rows.map trR)),.fz y,.fz (wsT ws),y6,y7,y8]) ?_ (fun N hN=>⟨rows,rfl,hF,fun ws hl2 hw=>hN _ ⟨ws,⟨hl2,hw⟩,rfl⟩⟩)
  rintro _ ⟨ws,hg,rfl⟩
  have H0:=hF.ws hg
  refine xZ (fun τ=>∃ r:Pol.R3,B3k 600 r∧τ=[.sc ns,.fz (.int kk),.st,.fz (.tup (rows.map trR)),.fz y,.fz (wsT ws),.fz (trR r),y7,y8]) ?_ (fun N hN=>⟨rows,ws,rfl,H0,?_⟩)
  rotate_left
  · by_cases hc:vZ (wsum k0 (rows.zip ws)) (wsum k1 (rows.zip ws))
    · rw [if_pos hc]
      have zl:(rows.zip ws).length≤8:=by rw [List.length_zip]; omega
      have fk:∀ (k:Pol.R3→Int),(∀ r,B3k 10 r→Bk 10 (k r))→Fk 500 (wsum k (rows.zip ws)):=fun k hk =>
        (g9 k _ fun x hx=>⟨(H0.zip hx).2.sm,hk _ (H0.zip hx).1⟩).mono (by omega)
      have f2:=fk k2 fun r h=>h.2
      refine hN _ ⟨((wsum k0 (rows.zip ws)).1,(wsum k1 (rows.zip ws)).1,(wsum k2 (rows.zip ws)).1.fdiv (wsum k2 (rows.zip ws)).2),⟨⟨(fk k0 fun r h=>h.1.1).top.mono (by decide),(fk k1 fun r h=>h.1.2).top.mono (by decide)⟩,?_⟩,rfl⟩
      have f3:=f2.pos
      rw [y2 (Int.le_of_lt f3)]
      exact (f2.top.le (Int.natAbs_ediv_le_natAbs _ _)).mono (by decide)
    · rw [if_neg hc]
      refine ⟨tk (by rw [ml]; omega),fun q q0 q1=>?_⟩
      obtain ⟨m',rfl⟩:∃ m:Nat,q=(m:Int):=⟨q.toNat,by omega⟩
      have hm:m' < rows.length:=by rw [ml] at q1; omega
      show aj (atT (rows.map trR) (m':Int)) _
      rw [qX,List.getElem?_map,List.getElem?_eq_getElem hm]
      have s1:=hF.sm rows[m'] (List.getElem_mem hm)
      exact hN _ ⟨rows[m'],⟨⟨gS (by omega),gS (by omega)⟩,gS (by omega)⟩,rfl⟩
  rintro _ ⟨r,hr',rfl⟩
  refine ⟨rows,ws,r,rfl,⟨l3,l8⟩,hg,hr',fun t ht=>?_⟩
  dsimp only [xas,bW]
  show pj _ _ _ [.tup [wsT ws,trR r],t] _
  refine wG (fun j τ=>∃ y7 y8:TV,τ=[.sc ns,.fz (.int kk),.st,.fz (.tup (rows.map trR)),.fz y,.fz (wsT ws),.fz (trR r),y7,y8]) ⟨_,_,rfl⟩ ?_ (fun τ ⟨y7,y8,e⟩=>hN3 _ ⟨_,_,_,_,_,e⟩)
  rintro j' t' τ N4 hj ⟨y7',y8',rfl⟩ hN4
  have hp:d_ rows.length t':=by
    have:=List.mem_of_getElem? hj
    simp only [List.mem_cons,List.not_mem_nil,or_false] at this
    rcases this with rfl | rfl
    · exact bM hg rfl
    · exact ht
  dsimp only [pq,cE,eName,xbz]
  refine ⟨rows,t',rfl,hF.isf,hp,?_⟩
  refine ⟨rows,t',rfl,⟨l8,H0.sm⟩,hp,?_⟩
  refine ⟨⟨rfl,rfl,by show min 0 0≤64; decide⟩,?_⟩
  have e:teq (.bl (ud rows t')) (.bl (ud rows t'))=true:=by cases ud rows t' <;> rfl
  show if (!teq (.bl (ud rows t')) (.bl (ud rows t')))=true then _ else _
  rw [e]
  exact aC (hN4 _ ⟨_,_,rfl⟩)
end
end K10
namespace K10
open PySem L2
theorem all_mk {l:PySem.W.OpenLaw} {w:World} {K:PySem.W.Frag} {h:Heap} {mg:Str→Option Value} {fa:Addr} {fn:Addr} {od an:Option Addr} {sl:Array (Option Value)} {oc kV dc pm cd ct:Value} {a_NoCut a_NoWeights:Addr} {tc1:Tok} (X:K.In h) (G:h.Ns mainGlobals mg) (hfa:mg "law" = some (.ref fa))
    (d1:DD K "is_whole" q8) (d2:DD K "greatest_divisor" zD) (d3:DD K "beyond" gZ) (d4:DD K "is_ahead" qU) (d5:DD K "turn_to" jm) (d6:DD K "is_near" qt) (d7:DD K "cut_of" kP) (d8:DD K "_law_cell_at" wR) (d9:DD K "_law_take" vV) (d10:DD K "_law_divisor" wV) (d11:DD K "_law_whole" uR) (d12:DD K "are_whole" uA) (d13:DD K "is_fraction" uC) (d14:DD K "lowest" fj) (d15:DD K "where_crossed" zw) (d16:DD K "from_least" ve) (d17:DD K "furthest" kq) (d18:DD K "points_back" uz) (d19:DD K "whole_sum" wu) (d20:DD K "_law_state" uZ) (d21:DD K "_law_field" zW) (d22:DD K "_law_low" kh) (d23:DD K "_law_is_fraction" zI) (d24:DD K "_law_bent" vU) (d25:DD K "places_of" uF) (d26:DD K "cut_piece" vY) (d27:DD K "is_row" gz) (d28:DD K "go_round" qY) (d29:DD K "are_weights" wc) (d30:DD K "sum_of" kR) (d31:DD K "_law_weights" zQ) (d32:DD K "_law_plus" vN) (d33:DD K "_law_times" uY) (d34:DD K "cut_down" qJ) (d35:DD K "is_field_row" wM) (d36:DD K "_law_summed" ux) (d37:DD K "piece_left" vk) (d38:DD K "_law_cut" qT) (d39:DD K "corners_left" wX) (d40:DD K "_law_due" ub) (d41:DD K "is_field" uf) (d42:DD K "need_field" uS) (d43:DD K "sum_by" kL) (d44:DD K "cut_by" qw) (d45:DD K "is_paper" kb)
    (aN:PySem.W.nsIn K mainGlobals "law" = some (some (.ref fn))) (ln:K.lookup fn=some ⟨oc,od,.func (PySem.W.fnOf "law" "law" (zM jO) (yF jO) (xk jO) .none kV dc pm an cd ct),sl⟩) (cn:PySem.W.codeIn K cd "law" = true) (kn:PySem.W.keepIn K (.ref fn)=true)
    (z1:PySem.W.nsIn K mainGlobals "len" = some none)
    (z2:PySem.W.nsIn K mainGlobals "range" = some none)
    (z3:PySem.W.nsIn K mainGlobals "max" = some none)
    (z4:PySem.W.nsIn K mainGlobals "min" = some none)
    (z5:PySem.W.nsIn K mainGlobals "abs" = some none)
    (z6:PySem.W.nsIn K mainGlobals "isinstance" = some none)
    (z7:PySem.W.nsIn K mainGlobals "tuple" = some none)
    (z8:PySem.W.nsIn K mainGlobals "list" = some none)
    (z9:PySem.W.nsIn K mainGlobals "int" = some none)
    (z10:PySem.W.nsIn K mainGlobals "bool" = some none)
    (z11:PySem.W.nsIn K mainGlobals "str" = some none)
    (z12:PySem.W.nsIn K mainGlobals "dict" = some none)
    (z13:PySem.W.nsIn K mainGlobals "all" = some none)
    (z14:PySem.W.nsIn K mainGlobals "zip" = some none)
    (z15:PySem.W.nsIn K mainGlobals "enumerate" = some none)
    (z16:PySem.W.nsIn K mainGlobals "ValueError" = some none)
    (y1:PySem.W.nsIn K mainGlobals "FAR" = some (some (.int 60001 tc1)))
    (k_NoCut:PySem.W.nsIn K mainGlobals "NoCut" = some (some (.ref a_NoCut))) (x_NoCut:PySem.W.excIn K a_NoCut xbH "ValueError.__new__" = true)
    (k_NoWeights:PySem.W.nsIn K mainGlobals "NoWeights" = some (some (.ref a_NoWeights))) (x_NoWeights:PySem.W.excIn K a_NoWeights xbH "ValueError.__new__" = true)
    (h_NoWeights:PySem.W.exmAny K (.ref a_NoWeights) [.ref a_NoWeights,.ref a_NoCut]=some true)
    (h_NoCut:PySem.W.exmAny K (.ref a_NoCut) [.ref a_NoWeights,.ref a_NoCut]=some true) :
    ∃ fd:FuncData,(∀ (s:Shared) (v:Value),BindsTo s fd ⟨[v],[]⟩ [("_law_script", v)])∧∀ base:Heap,K.In base→base.Ns mainGlobals mg→gI l.prog w K mg base CX0 12 fa fd ["_law_script"] (tH K):=by
  have e:=hfa.symm.trans (PySem.W.mg_of X G aN)
  cases e
  obtain ⟨f1,e1,a1,F1⟩:=d1
  obtain ⟨f2,e2,a2,F2⟩:=d2
  obtain ⟨f3,e3,a3,F3⟩:=d3
  obtain ⟨f4,e4,a4,F4⟩:=d4
  obtain ⟨f5,e5,a5,F5⟩:=d5
  obtain ⟨f6,e6,a6,F6⟩:=d6
  obtain ⟨f7,e7,a7,F7⟩:=d7
  obtain ⟨f8,e8,a8,F8⟩:=d8
  obtain ⟨f9,e9,a9,F9⟩:=d9
  obtain ⟨f10,e10,a10,F10⟩:=d10
  obtain ⟨f11,e11,a11,F11⟩:=d11
  obtain ⟨f12,e12,a12,F12⟩:=d12
  obtain ⟨f13,e13,a13,F13⟩:=d13
  obtain ⟨f14,e14,a14,F14⟩:=d14
  obtain ⟨f15,e15,a15,F15⟩:=d15
  obtain ⟨f16,e16,a16,F16⟩:=d16
  obtain ⟨f17,e17,a17,F17⟩:=d17
  obtain ⟨f18,e18,a18,F18⟩:=d18
  obtain ⟨f19,e19,a19,F19⟩:=d19
  obtain ⟨f20,e20,a20,F20⟩:=d20
  obtain ⟨f21,e21,a21,F21⟩:=d21
  obtain ⟨f22,e22,a22,F22⟩:=d22
  obtain ⟨f23,e23,a23,F23⟩:=d23
  obtain ⟨f24,e24,a24,F24⟩:=d24
  obtain ⟨f25,e25,a25,F25⟩:=d25
  obtain ⟨f26,e26,a26,F26⟩:=d26
  obtain ⟨f27,e27,a27,F27⟩:=d27
  obtain ⟨f28,e28,a28,F28⟩:=d28
  obtain ⟨f29,e29,a29,F29⟩:=d29
  obtain ⟨f30,e30,a30,F30⟩:=d30
  obtain ⟨f31,e31,a31,F31⟩:=d31
  obtain ⟨f32,e32,a32,F32⟩:=d32
  obtain ⟨f33,e33,a33,F33⟩:=d33
  obtain ⟨f34,e34,a34,F34⟩:=d34
  obtain ⟨f35,e35,a35,F35⟩:=d35
  obtain ⟨f36,e36,a36,F36⟩:=d36
  obtain ⟨f37,e37,a37,F37⟩:=d37
  obtain ⟨f38,e38,a38,F38⟩:=d38
  obtain ⟨f39,e39,a39,F39⟩:=d39
  obtain ⟨f40,e40,a40,F40⟩:=d40
  obtain ⟨f41,e41,a41,F41⟩:=d41
  obtain ⟨f42,e42,a42,F42⟩:=d42
  obtain ⟨f43,e43,a43,F43⟩:=d43
  obtain ⟨f44,e44,a44,F44⟩:=d44
  obtain ⟨f45,e45,a45,F45⟩:=d45
  have F46:=oG (st:=jO) ln cn kn
  have b1:=zT (p1 := "thing") F1 fun _ _ _ _ _ _ _=>rfl
  have b2:=yO (p1 := "one") (p2 := "other") F2 fun _ _ _ _ _ _ _ _=>rfl
  have b3:=yO (p1 := "row") (p2 := "corner") F3 fun _ _ _ _ _ _ _ _=>rfl
  have b4:=yO (p1 := "one") (p2 := "other") F4 fun _ _ _ _ _ _ _ _=>rfl
  have b5:=yO (p1 := "one") (p2 := "other") F5 fun _ _ _ _ _ _ _ _=>rfl
  have b6:=zT (p1 := "place") F6 fun _ _ _ _ _ _ _=>rfl
  have b7:=zT (p1 := "totals") F7 fun _ _ _ _ _ _ _=>rfl
  have b8:=yO (p1 := "_law_script") (p2 := "_law_k") F8 fun _ _ _ _ _ _ _ _=>rfl
  have b9:=yO (p1 := "_law_state_here") (p2 := "_law_many") F9 fun _ _ _ _ _ _ _ _=>rfl
  have b10:=yO (p1 := "_law_one") (p2 := "_law_other") F10 fun _ _ _ _ _ _ _ _=>rfl
  have b11:=zT (p1 := "_law_thing") F11 fun _ _ _ _ _ _ _=>rfl
  have b12:=zT (p1 := "things") F12 fun _ _ _ _ _ _ _=>rfl
  have b13:=zT (p1 := "thing") F13 fun _ _ _ _ _ _ _=>rfl
  have b14:=yO (p1 := "top") (p2 := "bottom") F14 fun _ _ _ _ _ _ _ _=>rfl
  have b15:=oH (p1 := "row") (p2 := "one") (p3 := "other") F15 fun _ _ _ _ _ _ _ _ _=>rfl
  have b16:=zT (p1 := "piece") F16 fun _ _ _ _ _ _ _=>rfl
  have b17:=oH (p1 := "first") (p2 := "rows") (p3 := "sign") F17 fun _ _ _ _ _ _ _ _ _=>rfl
  have b18:=yO (p1 := "first") (p2 := "rows") F18 fun _ _ _ _ _ _ _ _=>rfl
  have b19:=yO (p1 := "rows") (p2 := "weights") F19 fun _ _ _ _ _ _ _ _=>rfl
  have b20:=yO (p1 := "_law_script") (p2 := "_law_k") F20 fun _ _ _ _ _ _ _ _=>rfl
  have b21:=zT (p1 := "_law_state_here") F21 fun _ _ _ _ _ _ _=>rfl
  have b22:=yO (p1 := "_law_top") (p2 := "_law_bottom") F22 fun _ _ _ _ _ _ _ _=>rfl
  have b23:=zT (p1 := "_law_thing") F23 fun _ _ _ _ _ _ _=>rfl
  have b24:=xaT (p1 := "_law_state_here") (p2 := "_law_field_here") (p3 := "_law_weights_here") (p4 := "_law_row") F24 fun _ _ _ _ _ _ _ _ _ _=>rfl
  have b25:=zT (p1 := "piece") F25 fun _ _ _ _ _ _ _=>rfl
  have b26:=yO (p1 := "piece") (p2 := "row") F26 fun _ _ _ _ _ _ _ _=>rfl
  have b27:=zT (p1 := "thing") F27 fun _ _ _ _ _ _ _=>rfl
  have b28:=zT (p1 := "rows") F28 fun _ _ _ _ _ _ _=>rfl
  have b29:=yO (p1 := "field") (p2 := "thing") F29 fun _ _ _ _ _ _ _ _=>rfl
  have b30:=yO (p1 := "rows") (p2 := "weights") F30 fun _ _ _ _ _ _ _ _=>rfl
  have b31:=yO (p1 := "_law_state_here") (p2 := "_law_rows") F31 fun _ _ _ _ _ _ _ _=>rfl
  have b32:=yO (p1 := "_law_one") (p2 := "_law_other") F32 fun _ _ _ _ _ _ _ _=>rfl
  have b33:=yO (p1 := "_law_one") (p2 := "_law_other") F33 fun _ _ _ _ _ _ _ _=>rfl
  have b34:=yO (p1 := "piece") (p2 := "rows") F34 fun _ _ _ _ _ _ _ _=>rfl
  have b35:=zT (p1 := "thing") F35 fun _ _ _ _ _ _ _=>rfl
  have b36:=yO (p1 := "_law_rows") (p2 := "_law_weights_here") F36 fun _ _ _ _ _ _ _ _=>rfl
  have b37:=zT (p1 := "rows") F37 fun _ _ _ _ _ _ _=>rfl
  have b38:=yO (p1 := "_law_rows") (p2 := "_law_weights_here") F38 fun _ _ _ _ _ _ _ _=>rfl
  have b39:=zT (p1 := "rows") F39 fun _ _ _ _ _ _ _=>rfl
  have b40:=yO (p1 := "_law_field_here") (p2 := "_law_thing") F40 fun _ _ _ _ _ _ _ _=>rfl
  have b41:=zT (p1 := "thing") F41 fun _ _ _ _ _ _ _=>rfl
  have b42:=zT (p1 := "thing") F42 fun _ _ _ _ _ _ _=>rfl
  have b43:=yO (p1 := "field") (p2 := "weights") F43 fun _ _ _ _ _ _ _ _=>rfl
  have b44:=yO (p1 := "field") (p2 := "weights") F44 fun _ _ _ _ _ _ _ _=>rfl
  have b45:=yO (p1 := "field") (p2 := "thing") F45 fun _ _ _ _ _ _ _ _=>rfl
  have B:Blt mg bn:=⟨fun x hx=>by
    simp only [bn,List.mem_cons,List.not_mem_nil,or_false] at hx
    rcases hx with rfl | rfl | rfl | rfl | rfl | rfl | rfl | rfl | rfl | rfl | rfl | rfl | rfl | rfl | rfl | rfl
    · exact PySem.W.mg_none_of X G z1
    · exact PySem.W.mg_none_of X G z2
    · exact PySem.W.mg_none_of X G z3
    · exact PySem.W.mg_none_of X G z4
    · exact PySem.W.mg_none_of X G z5
    · exact PySem.W.mg_none_of X G z6
    · exact PySem.W.mg_none_of X G z7
    · exact PySem.W.mg_none_of X G z8
    · exact PySem.W.mg_none_of X G z9
    · exact PySem.W.mg_none_of X G z10
    · exact PySem.W.mg_none_of X G z11
    · exact PySem.W.mg_none_of X G z12
    · exact PySem.W.mg_none_of X G z13
    · exact PySem.W.mg_none_of X G z14
    · exact PySem.W.mg_none_of X G z15
    · exact PySem.W.mg_none_of X G z16⟩
  have jN:=PySem.W.mg_of X G y1
  have m_NoCut:=PySem.W.mg_of X G k_NoCut
  have m_NoWeights:=PySem.W.mg_of X G k_NoWeights
  refine ⟨PySem.W.fnOf "law" "law" (zM jO) (yF jO) (xk jO) .none kV dc pm an cd ct,fun s v=>.of_eq rfl,fun base XB _=>?_⟩
  have zN:=sE (P:=l.prog) (w:=w) (base:=base) B F1 (PySem.W.mg_of X G a1) b1
  have xO:=vX (P:=l.prog) (w:=w) (base:=base) B F2 (PySem.W.mg_of X G a2) b2
  have wa:=n8 (P:=l.prog) (w:=w) (base:=base) B F3 (PySem.W.mg_of X G a3) b3
  have qZ:=sI (P:=l.prog) (w:=w) (base:=base) B F4 (PySem.W.mg_of X G a4) b4
  have ze:=tw (P:=l.prog) (w:=w) (base:=base) B F5 (PySem.W.mg_of X G a5) b5
  have jo:=rS (P:=l.prog) (w:=w) (base:=base) B F6 (PySem.W.mg_of X G a6) b6
  have vo:=nG (P:=l.prog) (w:=w) (base:=base) B F7 (PySem.W.mg_of X G a7) b7
  have ox_cut_of__NoCut:=kg (P:=l.prog) (w:=w) (base:=base) B F7 (PySem.W.mg_of X G a7) b7 (gi XB m_NoCut x_NoCut)
  have wU:=jn (P:=l.prog) (w:=w) (base:=base) B F8 (PySem.W.mg_of X G a8) b8
  have xy:=bB (dJ (P:=l.prog) (w:=w) (base:=base) F9 (PySem.W.mg_of X G a9) b9)
  have yR:=jz (P:=l.prog) (w:=w) (base:=base) B F10 (PySem.W.mg_of X G a10) b10
  have yW:=gA (P:=l.prog) (w:=w) (base:=base) B F11 (PySem.W.mg_of X G a11) b11
  have qh:=fM (P:=l.prog) (w:=w) (base:=base) B F12 (PySem.W.mg_of X G a12) b12 zN
  have uI:=jT (P:=l.prog) (w:=w) (base:=base) B F13 (PySem.W.mg_of X G a13) b13 zN xO
  have uk:=mi (P:=l.prog) (w:=w) (base:=base) B F14 (PySem.W.mg_of X G a14) b14 xO
  have wx:=kI (P:=l.prog) (w:=w) (base:=base) B F15 (PySem.W.mg_of X G a15) b15 xO wa
  have uX:=gH (P:=l.prog) (w:=w) (base:=base) B F16 (PySem.W.mg_of X G a16) b16 qZ
  have vq:=sP (P:=l.prog) (w:=w) (base:=base) B F17 (PySem.W.mg_of X G a17) b17 ze
  have uq:=jY (P:=l.prog) (w:=w) (base:=base) B F18 (PySem.W.mg_of X G a18) b18 ze
  have vO:=dN (P:=l.prog) (w:=w) (base:=base) B F19 (PySem.W.mg_of X G a19) b19 xO
  have vi:=gx (P:=l.prog) (w:=w) (base:=base) F20 (PySem.W.mg_of X G a20) b20 wU
  have vg:=gU (P:=l.prog) (w:=w) (base:=base) B F21 (PySem.W.mg_of X G a21) b21 xy
  have yI:=sr (P:=l.prog) (w:=w) (base:=base) B F22 (PySem.W.mg_of X G a22) b22 yR
  have zA:=v_ (P:=l.prog) (w:=w) (base:=base) B F23 (PySem.W.mg_of X G a23) b23 yW yR
  have qb:=dE (P:=l.prog) (w:=w) (base:=base) B F24 (PySem.W.mg_of X G a24) b24 xy
  have v8:=dA (P:=l.prog) (w:=w) (base:=base) B F25 (PySem.W.mg_of X G a25) b25 uk uX
  have vW:=fC (P:=l.prog) (w:=w) (base:=base) B F26 (PySem.W.mg_of X G a26) b26 wx wa
  have zZ:=mR (P:=l.prog) (w:=w) (base:=base) B F27 (PySem.W.mg_of X G a27) b27 qh
  have km:=sS (P:=l.prog) (w:=w) (base:=base) B F28 (PySem.W.mg_of X G a28) b28 vq uq ze
  have y9:=jW (P:=l.prog) (w:=w) (base:=base) B F29 (PySem.W.mg_of X G a29) b29 uI
  have gD:=nu (P:=l.prog) (w:=w) (base:=base) B F30 (PySem.W.mg_of X G a30) b30 vO uk
  have wO:=jf (P:=l.prog) (w:=w) (base:=base) B F31 (PySem.W.mg_of X G a31) b31 xy yI
  have qc:=fS (P:=l.prog) (w:=w) (base:=base) B F32 (PySem.W.mg_of X G a32) b32 yI
  have uV:=gE (P:=l.prog) (w:=w) (base:=base) B F33 (PySem.W.mg_of X G a33) b33 yI
  have qR:=sZ (P:=l.prog) (w:=w) (base:=base) B F34 (PySem.W.mg_of X G a34) b34 vW
  have wQ:=jK (P:=l.prog) (w:=w) (base:=base) B F35 (PySem.W.mg_of X G a35) b35 zZ
  have uJ:=jM (P:=l.prog) (w:=w) (base:=base) B F36 (PySem.W.mg_of X G a36) b36 qc uV
  have vc:=gQ (P:=l.prog) (w:=w) (base:=base) B F37 (PySem.W.mg_of X G a37) b37 jN qR
  have wd:=sG (P:=l.prog) (w:=w) (base:=base) B F38 (PySem.W.mg_of X G a38) b38 uJ
  have wZ:=k7 (P:=l.prog) (w:=w) (base:=base) B F39 (PySem.W.mg_of X G a39) b39 v8 vc
  have ko:=sF (P:=l.prog) (w:=w) (base:=base) B F40 (PySem.W.mg_of X G a40) b40 wd yW zA
  have kj:=sW (P:=l.prog) (w:=w) (base:=base) B F41 (PySem.W.mg_of X G a41) b41 km jo wZ wQ
  have yj:=gq (P:=l.prog) (w:=w) (base:=base) B F42 (PySem.W.mg_of X G a42) b42 kj
  have vv:=mr (P:=l.prog) (w:=w) (base:=base) B F43 (PySem.W.mg_of X G a43) b43 yj gD y9
  have ox_sum_by__NoWeights:=u_ (P:=l.prog) (w:=w) (base:=base) B F43 (PySem.W.mg_of X G a43) b43 (gi XB m_NoWeights x_NoWeights) yj y9
  have kN:=nJ (P:=l.prog) (w:=w) (base:=base) B F44 (PySem.W.mg_of X G a44) b44 vo vv
  have ox_cut_by__NoWeights:=u6 (P:=l.prog) (w:=w) (base:=base) B F44 (PySem.W.mg_of X G a44) b44 vo ox_sum_by__NoWeights
  have ox_cut_by__NoCut:=q9 (P:=l.prog) (w:=w) (base:=base) B F44 (PySem.W.mg_of X G a44) b44 vv ox_cut_of__NoCut
  have ku:=sR (P:=l.prog) (w:=w) (base:=base) B F45 (PySem.W.mg_of X G a45) b45 yj zZ kN m_NoWeights m_NoCut h_NoWeights h_NoCut ox_cut_by__NoWeights ox_cut_by__NoCut
  exact xbw B F46 vi vg wO wd qb ku xy ko
theorem walk {l:PySem.W.OpenLaw} {q:Program} {loose:List Str} {XP:(Str→Option Value)→Heap→Prop} {YP:World→Heap→Prop} {d:DefRec} {K:Params→PySem.W.Frag} (hn:l.most=some 63) (hdf:d.params.defaults=[])
    (hY:∀ (w:World) (h:Heap),YP w h→(K w.params).In h) (hT:∀ P,xce (K P)=none)
    (F:∀ (w:World) (mg:Str→Option Value) (fa:Addr) (h:Heap),(K w.params).In h→h.Ns mainGlobals mg→mg d.name=some (.ref fa) →
      ∃ fd:FuncData,(∀ (s:Shared) (u:Value),BindsTo s fd ⟨[u],[]⟩ [("_law_script", u)])∧∀ base:Heap,(K w.params).In base→base.Ns mainGlobals mg→gI l.prog w (K w.params) mg base CX0 12 fa fd ["_law_script"] (tH (K w.params))) :
    PySem.W.WalkO q loose XP YP l.row.toRowW d [] (fun f vs=>PySem.call f vs) :=
  L2.l6 (n:=63) (k:=12) (x := "_law_script") (CX:=fun _=>CX0) (sp:=fun w=>tH (K w.params)) hn (by decide) hdf ⟨rfl,by decide,by decide⟩ hY F (fun _ _ a ns hl hO hS=>⟨a,ns,rfl,⟨fun b=>.inl (hO b),pJ.none (hT _)⟩,hS,hl,fun _=>rfl⟩) fun _ _ _ _ _ z=>z
end K10
namespace K10
open PySem L2
def ke (k:Str) (t:Nat) (v:Value):Str × Nat × Value:=(k,t,v)
def kd (P:Params) (n:Nat) (l:List (Str × Nat × Value)):Obj:=⟨.type "dict", none,.dict ⟨l.map fun e=>⟨PyData.keyHash P e.1,.str e.1 e.2.1,e.2.2⟩⟩ n,#[]⟩
def kf (x:Str) (st:Stmt) (cd:Nat) (m:Str) (t:Nat):Obj:=⟨.type "function", none,.func (PySem.W.fnOf x x (zM st) (yF st) (xk st) .none .none .none (.str m t) none (.ref cd) .none),#[]⟩
def kp (x:Str) (st:Stmt):Obj:=⟨.none,none,.func { name:=x,qualname:=x,params:=zM st,body:=.stmts (yF st),scope:=xk st,globals:=0,closure:=[],defaults:=.none,kwdefaults:=.none },#[]⟩
def kc (x:Str) (a l n m c d:Nat) (u v:Value) (e t f:Nat):Obj:=⟨.type "code", none,.fields ⟨[.str x a,.str x (a+1),.str "/claim/cut.py" (a+2),.int l 0,.int n 0,.int 0 0,.int 0 0,.int m 0,.ref c,.bool true,.int 181 0,.ref d,.none,u,v,.ref e,.int t 0,.int l 0,.str "/claim/cut.py" f]⟩,#[]⟩
def k0:Obj:=⟨.none,none,.fields ⟨[]⟩,#[]⟩
def k1 (l:List Value):Obj:=⟨.type "tuple", none,.seq ⟨l⟩ 0,#[]⟩
def tp (p:Program) (i:Nat):Stmt:=p.main.body.getD i (.Pass ⟨0,0,0,0⟩)
def mn:List (Str × Nat × Value):=ke "__name__" 165 (.str "law_roundcuts_k10_papers_looked_over" 512)::ke "__doc__" 166 .none::ke "__package__" 167 .none::ke "__loader__" 168 (.builtin "__main__.__loader__#opaque")::ke "__spec__" 169 .none::ke "__annotations__" 170 (.ref 6)::ke "__builtins__" 171 (.ref 4)::ke "__file__" 173 (.str "/claim/cut.py" 172)::ke "__cached__" 174 .none::ke "CutError" 206 (.ref 24)::ke "NoField" 222 (.ref 37)::ke "NoWeights" 238 (.ref 49)::ke "NoCut" 254 (.ref 61)::ke "is_whole" 263 (.ref 70)::ke "are_whole" 269 (.ref 75)::ke "is_fraction" 278 (.ref 82)::ke "greatest_divisor" 286 (.ref 89)::ke "lowest" 295 (.ref 96)::ke "FAR" 299 (.int 60001 298)::ke "corners_left" 306 (.ref 103)::ke "piece_left" 313 (.ref 110)::ke "cut_down" 322 (.ref 117)::ke "places_of" 328 (.ref 122)::ke "cut_piece" 341 (.ref 129)::ke "beyond" 355 (.ref 136)::ke "where_crossed" 361 (.ref 141)::ke "from_least" 371 (.ref 148)::ke "is_ahead" 379 (.ref 155)::ke "is_row" 388 (.ref 162)::ke "turn_to" 396 (.ref 169)::ke "go_round" 406 (.ref 176)::ke "furthest" 417 (.ref 183)::ke "points_back" 426 (.ref 190)::ke "is_field" 434 (.ref 195)::ke "is_field_row" 444 (.ref 202)::ke "is_near" 450 (.ref 207)::ke "need_field" 457 (.ref 214)::ke "sum_by" 467 (.ref 221)::ke "are_weights" 473 (.ref 226)::ke "sum_of" 479 (.ref 231)::ke "whole_sum" 485 (.ref 236)::ke "cut_by" 493 (.ref 243)::ke "cut_of" 503 (.ref 250)::ke "is_paper" 511 (.ref 257)::ke "_law_cell_at" 521 (.ref 264)::ke "_law_state" 530 (.ref 271)::ke "_law_take" 540 (.ref 278)::ke "_law_field" 546 (.ref 283)::ke "_law_divisor" 554 (.ref 290)::ke "_law_low" 563 (.ref 297)::ke "_law_weights" 569 (.ref 302)::ke "_law_plus" 577 (.ref 309)::ke "_law_times" 585 (.ref 316)::ke "_law_summed" 597 (.ref 323)::ke "_law_cut" 608 (.ref 330)::ke "_law_whole" 615 (.ref 337)::ke "_law_is_fraction" 622 (.ref 344)::ke "_law_due" 628 (.ref 349)::ke "_law_bent" 645 (.ref 356)::ke "law" 660 (.ref 363)::[]
def ob (p:Program) (P:Params):List Obj:=k1 [] ::
  ⟨.none,none,.fields ⟨[(.int 2 0),(.int 0 0),(.ref 20),(.int 4 0),(.int 0 0),(.ref 33),(.int 6 0),(.int 0 0),(.ref 45),(.int 8 0),(.int 0 0),(.ref 57),(.int 11 0),(.int 0 0),(.ref 69),(.int 13 0),(.int 0 0),(.ref 74),(.int 15 0),(.int 0 0),(.ref 81),(.int 20 0),(.int 0 0),(.ref 88),(.int 25 0),(.int 0 0),(.ref 95),(.int 30 0),(.int 0 0),(.ref 102),(.int 32 0),(.int 0 0),(.ref 109),(.int 34 0),(.int 0 0),(.ref 116),(.int 38 0),(.int 0 0),(.ref 121),(.int 40 0),(.int 0 0),(.ref 128),(.int 51 0),(.int 0 0),(.ref 135),(.int 55 0),(.int 0 0),(.ref 140),(.int 60 0),(.int 0 0),(.ref 147),(.int 66 0),(.int 0 0),(.ref 154),(.int 69 0),(.int 0 0),(.ref 161),(.int 73 0),(.int 0 0),(.ref 168),(.int 75 0),(.int 0 0),(.ref 175),(.int 84 0),(.int 0 0),(.ref 182),(.int 90 0),(.int 0 0),(.ref 189),(.int 96 0),(.int 0 0),(.ref 194),(.int 102 0),(.int 0 0),(.ref 201),(.int 107 0),(.int 0 0),(.ref 206),(.int 109 0),(.int 0 0),(.ref 213),(.int 113 0),(.int 0 0),(.ref 220),(.int 118 0),(.int 0 0),(.ref 225),(.int 122 0),(.int 0 0),(.ref 230),(.int 125 0),(.int 0 0),(.ref 235),(.int 135 0),(.int 0 0),(.ref 242),(.int 137 0),(.int 0 0),(.ref 249),(.int 142 0),(.int 0 0),(.ref 256),(.int 151 0),(.int 0 0),(.ref 263),(.int 155 0),(.int 0 0),(.ref 270),(.int 160 0),(.int 0 0),(.ref 277),(.int 169 0),(.int 0 0),(.ref 282),(.int 194 0),(.int 0 0),(.ref 289),(.int 198 0),(.int 0 0),(.ref 296),(.int 203 0),(.int 0 0),(.ref 301),(.int 216 0),(.int 0 0),(.ref 308),(.int 218 0),(.int 0 0),(.ref 315),(.int 220 0),(.int 0 0),(.ref 322),(.int 226 0),(.int 0 0),(.ref 329),(.int 231 0),(.int 0 0),(.ref 336),(.int 233 0),(.int 0 0),(.ref 343),(.int 237 0),(.int 0 0),(.ref 348),(.int 246 0),(.int 0 0),(.ref 355),(.int 257 0),(.int 0 0),(.ref 362)]⟩,#[]⟩ ::
  ⟨(.type "code"),none,.fields ⟨[(.str "<module>" 182),(.str "<module>" 183),(.str "/claim/cut.py" 184),(.int 1 0),(.int 0 0),(.int 0 0),(.int 0 0),(.int 0 0),(.ref 11),(.bool false),(.int 181 0),(.ref 12),.none,.none,.none,.none,(.int 185 0),(.int 1 0),(.str "/claim/cut.py" 186)]⟩,#[]⟩ ::
  ⟨(.type "frame"),none,.plain,⟨[some (.ref 13),some (.ref 3),some (.ref 3),none,some (.str "__main__" 164),none,some (.ref 0)]⟩⟩ ::
  k1 [(.type "ValueError")] ::
  ⟨(.type "builtin_function_or_method"),none,.fields ⟨[(.builtin "type.__prepare__"),(.type "type")]⟩,#[]⟩ ::
  kd P 4 (ke "__module__" 196 (.str "roundcuts.errors" 187)::ke "__qualname__" 198 (.str "CutError" 197)::ke "__firstlineno__" 200 (.int 2 199)::ke "__static_attributes__" 201 (.ref 22)::[]) ::
  k1 [] ::
  k0 ::
  ⟨(.type "code"),none,.fields ⟨[(.str "CutError" 191),(.str "CutError" 192),(.str "/claim/cut.py" 193),(.int 2 0),(.int 0 0),(.int 0 0),(.int 0 0),(.int 0 0),(.ref 18),(.bool false),(.int 181 0),(.ref 19),.none,.none,.none,.none,(.int 194 0),(.int 2 0),(.str "/claim/cut.py" 195)]⟩,#[]⟩ ::
  ⟨(.type "frame"),none,.plain,⟨[some (.ref 20),some (.ref 3),some (.ref 17),none,some (.str "roundcuts.errors" 187),none,some (.ref 0)]⟩⟩ ::
  k1 [] ::
  kd P 3 (ke "__module__" 196 (.str "roundcuts.errors" 187)::ke "__firstlineno__" 200 (.int 2 199)::ke "__static_attributes__" 201 (.ref 22)::ke "__weakref__" 203 (.ref 25)::ke "__doc__" 204 .none::[]) ::
  ⟨(.type "type"),none,.cls { name := "CutError", bases:=[(.type "ValueError")],mro:=[(.ref 24),(.type "ValueError"),(.type "Exception"),(.type "BaseException"),(.type "object")],ns:=23,qualname := "CutError", hasDict:=true,slotNames:=[],subclasses:=[(.ref 37),(.ref 49),(.ref 61)],abstract:=false,hasDel:=false },⟨[some (.ref 15),none,some (.str "CutError" 189),some (.str "CutError" 197),some (.builtin "ValueError.__new__"),some (.bool true)]⟩⟩ ::
  ⟨(.type "getset_descriptor"),none,.fields ⟨[(.str "__weakref__" 202),(.ref 24),(.builtin "ExceptionGroup.__weakref__"),.none]⟩,#[]⟩ ::
  ⟨(.type "super"),none,.fields ⟨[(.ref 24),(.ref 24),(.ref 24)]⟩,#[]⟩ ::
  ⟨(.type "builtin_function_or_method"),none,.fields ⟨[(.builtin "object.__init_subclass__"),(.ref 24)]⟩,#[]⟩ ::
  k1 [(.ref 24)] ::
  ⟨(.type "builtin_function_or_method"),none,.fields ⟨[(.builtin "type.__prepare__"),(.type "type")]⟩,#[]⟩ ::
  kd P 4 (ke "__module__" 214 (.str "roundcuts.errors" 187)::ke "__qualname__" 216 (.str "NoField" 215)::ke "__firstlineno__" 218 (.int 4 217)::ke "__static_attributes__" 219 (.ref 35)::[]) ::
  k1 [] ::
  k0 ::
  ⟨(.type "code"),none,.fields ⟨[(.str "NoField" 209),(.str "NoField" 210),(.str "/claim/cut.py" 211),(.int 4 0),(.int 0 0),(.int 0 0),(.int 0 0),(.int 0 0),(.ref 31),(.bool false),(.int 181 0),(.ref 32),.none,.none,.none,.none,(.int 212 0),(.int 4 0),(.str "/claim/cut.py" 213)]⟩,#[]⟩ ::
  ⟨(.type "frame"),none,.plain,⟨[some (.ref 33),some (.ref 3),some (.ref 30),none,some (.str "roundcuts.errors" 187),none,some (.ref 0)]⟩⟩ ::
  k1 [] ::
  kd P 2 (ke "__module__" 214 (.str "roundcuts.errors" 187)::ke "__firstlineno__" 218 (.int 4 217)::ke "__static_attributes__" 219 (.ref 35)::ke "__doc__" 220 .none::[]) ::
  ⟨(.type "type"),none,.cls { name := "NoField", bases:=[(.ref 24)],mro:=[(.ref 37),(.ref 24),(.type "ValueError"),(.type "Exception"),(.type "BaseException"),(.type "object")],ns:=36,qualname := "NoField", hasDict:=true,slotNames:=[],subclasses:=[],abstract:=false,hasDel:=false },⟨[some (.ref 28),none,some (.str "NoField" 207),some (.str "NoField" 215),some (.builtin "ValueError.__new__"),some (.bool true)]⟩⟩ ::
  ⟨(.type "super"),none,.fields ⟨[(.ref 37),(.ref 37),(.ref 37)]⟩,#[]⟩ ::
  ⟨(.type "builtin_function_or_method"),none,.fields ⟨[(.builtin "object.__init_subclass__"),(.ref 37)]⟩,#[]⟩ ::
  k1 [(.ref 24)] ::
  ⟨(.type "builtin_function_or_method"),none,.fields ⟨[(.builtin "type.__prepare__"),(.type "type")]⟩,#[]⟩ ::
  kd P 4 (ke "__module__" 230 (.str "roundcuts.errors" 187)::ke "__qualname__" 232 (.str "NoWeights" 231)::ke "__firstlineno__" 234 (.int 6 233)::ke "__static_attributes__" 235 (.ref 47)::[]) ::
  k1 [] ::
  k0 ::
  ⟨(.type "code"),none,.fields ⟨[(.str "NoWeights" 225),(.str "NoWeights" 226),(.str "/claim/cut.py" 227),(.int 6 0),(.int 0 0),(.int 0 0),(.int 0 0),(.int 0 0),(.ref 43),(.bool false),(.int 181 0),(.ref 44),.none,.none,.none,.none,(.int 228 0),(.int 6 0),(.str "/claim/cut.py" 229)]⟩,#[]⟩ ::
  ⟨(.type "frame"),none,.plain,⟨[some (.ref 45),some (.ref 3),some (.ref 42),none,some (.str "roundcuts.errors" 187),none,some (.ref 0)]⟩⟩ ::
  k1 [] ::
  kd P 2 (ke "__module__" 230 (.str "roundcuts.errors" 187)::ke "__firstlineno__" 234 (.int 6 233)::ke "__static_attributes__" 235 (.ref 47)::ke "__doc__" 236 .none::[]) ::
  ⟨(.type "type"),none,.cls { name := "NoWeights", bases:=[(.ref 24)],mro:=[(.ref 49),(.ref 24),(.type "ValueError"),(.type "Exception"),(.type "BaseException"),(.type "object")],ns:=48,qualname := "NoWeights", hasDict:=true,slotNames:=[],subclasses:=[],abstract:=false,hasDel:=false },⟨[some (.ref 40),none,some (.str "NoWeights" 223),some (.str "NoWeights" 231),some (.builtin "ValueError.__new__"),some (.bool true)]⟩⟩ ::
  ⟨(.type "super"),none,.fields ⟨[(.ref 49),(.ref 49),(.ref 49)]⟩,#[]⟩ ::
  ⟨(.type "builtin_function_or_method"),none,.fields ⟨[(.builtin "object.__init_subclass__"),(.ref 49)]⟩,#[]⟩ ::
  k1 [(.ref 24)] ::
  ⟨(.type "builtin_function_or_method"),none,.fields ⟨[(.builtin "type.__prepare__"),(.type "type")]⟩,#[]⟩ ::
  kd P 4 (ke "__module__" 246 (.str "roundcuts.errors" 187)::ke "__qualname__" 248 (.str "NoCut" 247)::ke "__firstlineno__" 250 (.int 8 249)::ke "__static_attributes__" 251 (.ref 59)::[]) ::
  k1 [] ::
  k0 ::
  ⟨(.type "code"),none,.fields ⟨[(.str "NoCut" 241),(.str "NoCut" 242),(.str "/claim/cut.py" 243),(.int 8 0),(.int 0 0),(.int 0 0),(.int 0 0),(.int 0 0),(.ref 55),(.bool false),(.int 181 0),(.ref 56),.none,.none,.none,.none,(.int 244 0),(.int 8 0),(.str "/claim/cut.py" 245)]⟩,#[]⟩ ::
  ⟨(.type "frame"),none,.plain,⟨[some (.ref 57),some (.ref 3),some (.ref 54),none,some (.str "roundcuts.errors" 187),none,some (.ref 0)]⟩⟩ ::
  k1 [] ::
  kd P 2 (ke "__module__" 246 (.str "roundcuts.errors" 187)::ke "__firstlineno__" 250 (.int 8 249)::ke "__static_attributes__" 251 (.ref 59)::ke "__doc__" 252 .none::[]) ::
  ⟨(.type "type"),none,.cls { name := "NoCut", bases:=[(.ref 24)],mro:=[(.ref 61),(.ref 24),(.type "ValueError"),(.type "Exception"),(.type "BaseException"),(.type "object")],ns:=60,qualname := "NoCut", hasDict:=true,slotNames:=[],subclasses:=[],abstract:=false,hasDel:=false },⟨[some (.ref 52),none,some (.str "NoCut" 239),some (.str "NoCut" 247),some (.builtin "ValueError.__new__"),some (.bool true)]⟩⟩ ::
  ⟨(.type "super"),none,.fields ⟨[(.ref 61),(.ref 61),(.ref 61)]⟩,#[]⟩ ::
  ⟨(.type "builtin_function_or_method"),none,.fields ⟨[(.builtin "object.__init_subclass__"),(.ref 61)]⟩,#[]⟩ ::
  k1 [] ::
  k0 ::
  k1 [(.str "thing" 260)] ::
  k1 [] ::
  kp "is_whole" (tp p 6) ::
  kc "is_whole" 257 11 1 3 64 65 (.ref 66) (.ref 67) 68 261 262 ::
  kf "is_whole" (tp p 6) 69 "roundcuts.fractions" 255 ::
  k1 [] ::
  k0 ::
  kp "are_whole" (tp p 7) ::
  kc "are_whole" 264 13 1 3 71 72 .none .none 73 267 268 ::
  kf "are_whole" (tp p 7) 74 "roundcuts.fractions" 255 ::
  k1 [] ::
  k0 ::
  k1 [(.str "thing" 273),(.str "top" 274),(.str "bottom" 275)] ::
  k1 [] ::
  kp "is_fraction" (tp p 8) ::
  kc "is_fraction" 270 15 1 3 76 77 (.ref 78) (.ref 79) 80 276 277 ::
  kf "is_fraction" (tp p 8) 81 "roundcuts.fractions" 255 ::
  k1 [] ::
  k0 ::
  k1 [(.str "one" 282),(.str "other" 283)] ::
  k1 [] ::
  kp "greatest_divisor" (tp p 9) ::
  kc "greatest_divisor" 279 20 2 3 83 84 (.ref 85) (.ref 86) 87 284 285 ::
  kf "greatest_divisor" (tp p 9) 88 "roundcuts.fractions" 255 ::
  k1 [] ::
  k0 ::
  k1 [(.str "top" 290),(.str "bottom" 291),(.str "shared" 292)] ::
  k1 [] ::
  kp "lowest" (tp p 10) ::
  kc "lowest" 287 25 2 3 90 91 (.ref 92) (.ref 93) 94 293 294 ::
  kf "lowest" (tp p 10) 95 "roundcuts.fractions" 255 ::
  k1 [] ::
  k0 ::
  k1 [(.str "rows" 303)] ::
  k1 [] ::
  kp "corners_left" (tp p 13) ::
  kc "corners_left" 300 30 1 3 97 98 (.ref 99) (.ref 100) 101 304 305 ::
  kf "corners_left" (tp p 13) 102 "roundcuts.pieces" 296 ::
  k1 [] ::
  k0 ::
  k1 [(.str "rows" 310)] ::
  k1 [] ::
  kp "piece_left" (tp p 14) ::
  kc "piece_left" 307 32 1 3 104 105 (.ref 106) (.ref 107) 108 311 312 ::
  kf "piece_left" (tp p 14) 109 "roundcuts.pieces" 296 ::
  k1 [] ::
  k0 ::
  k1 [(.str "piece" 317),(.str "rows" 318),(.str "row" 319)] ::
  k1 [] ::
  kp "cut_down" (tp p 15) ::
  kc "cut_down" 314 34 2 3 111 112 (.ref 113) (.ref 114) 115 320 321 ::
  kf "cut_down" (tp p 15) 116 "roundcuts.pieces" 296 ::
  k1 [] ::
  k0 ::
  kp "places_of" (tp p 16) ::
  kc "places_of" 323 38 1 3 118 119 .none .none 120 326 327 ::
  kf "places_of" (tp p 16) 121 "roundcuts.pieces" 296 ::
  k1 [] ::
  k0 ::
  k1 [(.str "piece" 332),(.str "row" 333),(.str "left" 334),(.str "at" 335),(.str "corner" 336),(.str "before" 337),(.str "crossing" 338)] ::
  k1 [] ::
  kp "cut_piece" (tp p 17) ::
  kc "cut_piece" 329 40 2 3 123 124 (.ref 125) (.ref 126) 127 339 340 ::
  kf "cut_piece" (tp p 17) 128 "roundcuts.pieces" 296 ::
  k1 [] ::
  k0 ::
  k1 [(.str "row" 345),(.str "corner" 346),(.str "a" 347),(.str "b" 348),(.str "c" 349),(.str "x" 350),(.str "y" 351),(.str "bottom" 352)] ::
  k1 [] ::
  kp "beyond" (tp p 18) ::
  kc "beyond" 342 51 2 3 130 131 (.ref 132) (.ref 133) 134 353 354 ::
  kf "beyond" (tp p 18) 135 "roundcuts.pieces" 296 ::
  k1 [] ::
  k0 ::
  kp "where_crossed" (tp p 19) ::
  kc "where_crossed" 356 55 3 3 137 138 .none .none 139 359 360 ::
  kf "where_crossed" (tp p 19) 140 "roundcuts.pieces" 296 ::
  k1 [] ::
  k0 ::
  k1 [(.str "piece" 365),(.str "start" 366),(.str "at" 367),(.str "corner" 368)] ::
  k1 [] ::
  kp "from_least" (tp p 20) ::
  kc "from_least" 362 60 1 3 142 143 (.ref 144) (.ref 145) 146 369 370 ::
  kf "from_least" (tp p 20) 147 "roundcuts.pieces" 296 ::
  k1 [] ::
  k0 ::
  k1 [(.str "one" 375),(.str "other" 376)] ::
  k1 [] ::
  kp "is_ahead" (tp p 21) ::
  kc "is_ahead" 372 66 2 3 149 150 (.ref 151) (.ref 152) 153 377 378 ::
  kf "is_ahead" (tp p 21) 154 "roundcuts.pieces" 296 ::
  k1 [] ::
  k0 ::
  k1 [(.str "thing" 385)] ::
  k1 [] ::
  kp "is_row" (tp p 23) ::
  kc "is_row" 382 69 1 3 156 157 (.ref 158) (.ref 159) 160 386 387 ::
  kf "is_row" (tp p 23) 161 "roundcuts.rows" 380 ::
  k1 [] ::
  k0 ::
  k1 [(.str "one" 392),(.str "other" 393)] ::
  k1 [] ::
  kp "turn_to" (tp p 24) ::
  kc "turn_to" 389 73 2 3 163 164 (.ref 165) (.ref 166) 167 394 395 ::
  kf "turn_to" (tp p 24) 168 "roundcuts.rows" 380 ::
  k1 [] ::
  k0 ::
  k1 [(.str "rows" 400),(.str "first" 401),(.str "left" 402),(.str "right" 403)] ::
  k1 [] ::
  kp "go_round" (tp p 25) ::
  kc "go_round" 397 75 1 3 170 171 (.ref 172) (.ref 173) 174 404 405 ::
  kf "go_round" (tp p 25) 175 "roundcuts.rows" 380 ::
  k1 [] ::
  k0 ::
  k1 [(.str "first" 410),(.str "rows" 411),(.str "sign" 412),(.str "last" 413),(.str "row" 414)] ::
  k1 [] ::
  kp "furthest" (tp p 26) ::
  kc "furthest" 407 84 3 3 177 178 (.ref 179) (.ref 180) 181 415 416 ::
  kf "furthest" (tp p 26) 182 "roundcuts.rows" 380 ::
  k1 [] ::
  k0 ::
  k1 [(.str "first" 421),(.str "rows" 422),(.str "row" 423)] ::
  k1 [] ::
  kp "points_back" (tp p 27) ::
  kc "points_back" 418 90 2 3 184 185 (.ref 186) (.ref 187) 188 424 425 ::
  kf "points_back" (tp p 27) 189 "roundcuts.rows" 380 ::
  k1 [] ::
  k0 ::
  kp "is_field" (tp p 29) ::
  kc "is_field" 429 96 1 3 191 192 .none .none 193 432 433 ::
  kf "is_field" (tp p 29) 194 "roundcuts.fields" 427 ::
  k1 [] ::
  k0 ::
  k1 [(.str "thing" 438),(.str "a" 439),(.str "b" 440),(.str "c" 441)] ::
  k1 [] ::
  kp "is_field_row" (tp p 30) ::
  kc "is_field_row" 435 102 1 3 196 197 (.ref 198) (.ref 199) 200 442 443 ::
  kf "is_field_row" (tp p 30) 201 "roundcuts.fields" 427 ::
  k1 [] ::
  k0 ::
  kp "is_near" (tp p 31) ::
  kc "is_near" 445 107 1 3 203 204 .none .none 205 448 449 ::
  kf "is_near" (tp p 31) 206 "roundcuts.fields" 427 ::
  k1 [] ::
  k0 ::
  k1 [(.str "thing" 454)] ::
  k1 [] ::
  kp "need_field" (tp p 32) ::
  kc "need_field" 451 109 1 3 208 209 (.ref 210) (.ref 211) 212 455 456 ::
  kf "need_field" (tp p 32) 213 "roundcuts.fields" 427 ::
  k1 [] ::
  k0 ::
  k1 [(.str "field" 463),(.str "weights" 464)] ::
  k1 [] ::
  kp "sum_by" (tp p 34) ::
  kc "sum_by" 460 113 2 3 215 216 (.ref 217) (.ref 218) 219 465 466 ::
  kf "sum_by" (tp p 34) 220 "roundcuts.sums" 458 ::
  k1 [] ::
  k0 ::
  kp "are_weights" (tp p 35) ::
  kc "are_weights" 468 118 2 3 222 223 .none .none 224 471 472 ::
  kf "are_weights" (tp p 35) 225 "roundcuts.sums" 458 ::
  k1 [] ::
  k0 ::
  kp "sum_of" (tp p 36) ::
  kc "sum_of" 474 122 2 3 227 228 .none .none 229 477 478 ::
  kf "sum_of" (tp p 36) 230 "roundcuts.sums" 458 ::
  k1 [] ::
  k0 ::
  kp "whole_sum" (tp p 37) ::
  kc "whole_sum" 480 125 2 3 232 233 .none .none 234 483 484 ::
  kf "whole_sum" (tp p 37) 235 "roundcuts.sums" 458 ::
  k1 [] ::
  k0 ::
  k1 [(.str "field" 489),(.str "weights" 490)] ::
  k1 [] ::
  kp "cut_by" (tp p 38) ::
  kc "cut_by" 486 135 2 3 237 238 (.ref 239) (.ref 240) 241 491 492 ::
  kf "cut_by" (tp p 38) 242 "roundcuts.sums" 458 ::
  k1 [] ::
  k0 ::
  k1 [(.str "totals" 497),(.str "a" 498),(.str "b" 499),(.str "c" 500)] ::
  k1 [] ::
  kp "cut_of" (tp p 39) ::
  kc "cut_of" 494 137 1 3 244 245 (.ref 246) (.ref 247) 248 501 502 ::
  kf "cut_of" (tp p 39) 249 "roundcuts.sums" 458 ::
  k1 [] ::
  k0 ::
  k1 [(.str "field" 507),(.str "thing" 508)] ::
  k1 [] ::
  kp "is_paper" (tp p 40) ::
  kc "is_paper" 504 142 2 3 251 252 (.ref 253) (.ref 254) 255 509 510 ::
  kf "is_paper" (tp p 40) 256 "roundcuts.sums" 458 ::
  k1 [] ::
  k0 ::
  k1 [(.str "_law_script" 517),(.str "_law_k" 518)] ::
  k1 [] ::
  kp "_law_cell_at" (tp p 42) ::
  kc "_law_cell_at" 514 151 2 3 258 259 (.ref 260) (.ref 261) 262 519 520 ::
  kf "_law_cell_at" (tp p 42) 263 "law_roundcuts_k10_papers_looked_over" 512 ::
  k1 [] ::
  k0 ::
  k1 [(.str "_law_script" 525),(.str "_law_k" 526),(.str "_law_cell" 527)] ::
  k1 [] ::
  kp "_law_state" (tp p 43) ::
  kc "_law_state" 522 155 2 3 265 266 (.ref 267) (.ref 268) 269 528 529 ::
  kf "_law_state" (tp p 43) 270 "law_roundcuts_k10_papers_looked_over" 512 ::
  k1 [] ::
  k0 ::
  k1 [(.str "_law_state_here" 534),(.str "_law_many" 535),(.str "_law_found" 536),(.str "_law_stirred" 537)] ::
  k1 [] ::
  kp "_law_take" (tp p 44) ::
  kc "_law_take" 531 160 2 3 272 273 (.ref 274) (.ref 275) 276 538 539 ::
  kf "_law_take" (tp p 44) 277 "law_roundcuts_k10_papers_looked_over" 512 ::
  k1 [] ::
  k0 ::
  kp "_law_field" (tp p 45) ::
  kc "_law_field" 541 169 1 3 279 280 .none .none 281 544 545 ::
  kf "_law_field" (tp p 45) 282 "law_roundcuts_k10_papers_looked_over" 512 ::
  k1 [] ::
  k0 ::
  k1 [(.str "_law_one" 550),(.str "_law_other" 551)] ::
  k1 [] ::
  kp "_law_divisor" (tp p 46) ::
  kc "_law_divisor" 547 194 2 3 284 285 (.ref 286) (.ref 287) 288 552 553 ::
  kf "_law_divisor" (tp p 46) 289 "law_roundcuts_k10_papers_looked_over" 512 ::
  k1 [] ::
  k0 ::
  k1 [(.str "_law_top" 558),(.str "_law_bottom" 559),(.str "_law_by" 560)] ::
  k1 [] ::
  kp "_law_low" (tp p 47) ::
  kc "_law_low" 555 198 2 3 291 292 (.ref 293) (.ref 294) 295 561 562 ::
  kf "_law_low" (tp p 47) 296 "law_roundcuts_k10_papers_looked_over" 512 ::
  k1 [] ::
  k0 ::
  kp "_law_weights" (tp p 48) ::
  kc "_law_weights" 564 203 2 3 298 299 .none .none 300 567 568 ::
  kf "_law_weights" (tp p 48) 301 "law_roundcuts_k10_papers_looked_over" 512 ::
  k1 [] ::
  k0 ::
  k1 [(.str "_law_one" 573),(.str "_law_other" 574)] ::
  k1 [] ::
  kp "_law_plus" (tp p 49) ::
  kc "_law_plus" 570 216 2 3 303 304 (.ref 305) (.ref 306) 307 575 576 ::
  kf "_law_plus" (tp p 49) 308 "law_roundcuts_k10_papers_looked_over" 512 ::
  k1 [] ::
  k0 ::
  k1 [(.str "_law_one" 581),(.str "_law_other" 582)] ::
  k1 [] ::
  kp "_law_times" (tp p 50) ::
  kc "_law_times" 578 218 2 3 310 311 (.ref 312) (.ref 313) 314 583 584 ::
  kf "_law_times" (tp p 50) 315 "law_roundcuts_k10_papers_looked_over" 512 ::
  k1 [] ::
  k0 ::
  k1 [(.str "_law_rows" 589),(.str "_law_weights_here" 590),(.str "_law_found" 591),(.str "_law_row" 592),(.str "_law_weight" 593),(.str "_law_at" 594)] ::
  k1 [] ::
  kp "_law_summed" (tp p 51) ::
  kc "_law_summed" 586 220 2 3 317 318 (.ref 319) (.ref 320) 321 595 596 ::
  kf "_law_summed" (tp p 51) 322 "law_roundcuts_k10_papers_looked_over" 512 ::
  k1 [] ::
  k0 ::
  k1 [(.str "_law_rows" 601),(.str "_law_weights_here" 602),(.str "_law_a" 603),(.str "_law_b" 604),(.str "_law_c" 605)] ::
  k1 [] ::
  kp "_law_cut" (tp p 52) ::
  kc "_law_cut" 598 226 2 3 324 325 (.ref 326) (.ref 327) 328 606 607 ::
  kf "_law_cut" (tp p 52) 329 "law_roundcuts_k10_papers_looked_over" 512 ::
  k1 [] ::
  k0 ::
  k1 [(.str "_law_thing" 612)] ::
  k1 [] ::
  kp "_law_whole" (tp p 53) ::
  kc "_law_whole" 609 231 1 3 331 332 (.ref 333) (.ref 334) 335 613 614 ::
  kf "_law_whole" (tp p 53) 336 "law_roundcuts_k10_papers_looked_over" 512 ::
  k1 [] ::
  k0 ::
  k1 [(.str "_law_thing" 619)] ::
  k1 [] ::
  kp "_law_is_fraction" (tp p 54) ::
  kc "_law_is_fraction" 616 233 1 3 338 339 (.ref 340) (.ref 341) 342 620 621 ::
  kf "_law_is_fraction" (tp p 54) 343 "law_roundcuts_k10_papers_looked_over" 512 ::
  k1 [] ::
  k0 ::
  kp "_law_due" (tp p 55) ::
  kc "_law_due" 623 237 2 3 345 346 .none .none 347 626 627 ::
  kf "_law_due" (tp p 55) 348 "law_roundcuts_k10_papers_looked_over" 512 ::
  k1 [] ::
  k0 ::
  k1 [(.str "_law_state_here" 632),(.str "_law_field_here" 633),(.str "_law_weights_here" 634),(.str "_law_row" 635),(.str "_law_a" 636),(.str "_law_b" 637),(.str "_law_c" 638),(.str "_law_at" 639),(.str "_law_odd" 640),(.str "_law_other" 641),(.str "_law_some" 642)] ::
  k1 [] ::
  kp "_law_bent" (tp p 56) ::
  kc "_law_bent" 629 246 4 3 350 351 (.ref 352) (.ref 353) 354 643 644 ::
  kf "_law_bent" (tp p 56) 355 "law_roundcuts_k10_papers_looked_over" 512 ::
  k1 [] ::
  k0 ::
  k1 [(.str "_law_script" 649),(.str "_law_k" 650),(.str "_law_state_here" 651),(.str "_law_field_here" 652),(.str "_law_turn" 653),(.str "_law_weights_here" 654),(.str "_law_row" 655),(.str "_law_thing" 656),(.str "_law_found" 657)] ::
  k1 [] ::
  kp "law" (tp p 57) ::
  kc "law" 646 257 1 3 357 358 (.ref 359) (.ref 360) 361 658 659 ::
  kf "law" (tp p 57) 362 "law_roundcuts_k10_papers_looked_over" 512::[]
def hp (p:Program) (P:Params) (n:Nat) (m:List (Str × Nat × Value)) (e:Nat) (c:List (Nat × Obj)):List Obj:=c.foldl (fun l x=>l.set x.1 x.2) ((PySem.W.boot_heap P).objs.toList.set 3 (kd P e m)++(ob p P).take n)
def sh (p:Program) (w:World) (os:OsState) (n:Nat) (m:List (Str × Nat × Value)) (e:Nat) (c:List (Nat × Obj)) (k:Nat):Shared:=⟨⟨⟨hp p w.params n m e c⟩,{}⟩,⟨[]⟩,{},k,os⟩
def hf (p:Program) (P:Params):Heap:=⟨⟨hp p P 353 mn 60 []⟩,{}⟩
abbrev as:List Addr:=[3,23,24,48,49,60,61,69,70,74,75,81,82,88,89,95,96,102,103,109,110,116,117,121,122,128,129,135,136,140,141,147,148,154,155,161,162,168,169,175,176,182,183,189,190,194,195,201,202,206,207,213,214,220,221,225,226,230,231,235,236,242,243,249,250,256,257,263,264,270,271,277,278,282,283,289,290,296,297,301,302,308,309,315,316,322,323,329,330,336,337,343,344,348,349,355,356,362,363]
def Kp (p:Program) (P:Params):PySem.W.Frag:=as.map fun a=>(a,(hp p P 353 mn 60 []).getD a k0)
abbrev pg:Program:=PySem.Challenge.pw_roundcuts_k10_papers_looked_over
abbrev K (P:Params):PySem.W.Frag:=Kp pg P
theorem xb1 (p:Program) (P:Params):as=(Kp p P).map (·.1):=by unfold Kp; rw [List.map_map]; exact (List.map_id _).symm
abbrev Hk (p:Program):PySem.W.Hook:=PySem.W.kHook (Kp p) as (xb1 p)
abbrev keep:List Nat:=[1,2,3,4,6,7,8,9,10,12,13,14,15,16,17,18,19,20,21,23,24,25,26,27,29,30,31,32,34,35,36,37,38,39,40,42,43,44,45,46,47,48,49,50,51,52,53,54,55,56,57]
abbrev vw:Program:=PySem.W.view pg keep
theorem dk {P:Params} {x:Str} {st:Stmt} {f cd t:Nat} {m:Str} (a:PySem.W.nsIn (K P) mainGlobals x=some (some (.ref f))) (l:(K P).lookup f=some (kf x st cd m t)) (c:PySem.W.codeIn (K P) (.ref cd) x=true):DD (K P) x st :=
  dd a l c (by unfold PySem.W.keepIn; dsimp only; rw [l]; rfl)
end K10
set_option maxHeartbeats 0 in
lay_quick PySem.Challenge.pw_roundcuts_k10_papers_looked_over
namespace K10
open PySem L2 PySem.W
abbrev tb:=PySem.W.Fast.tw14364793385576792824
abbrev p':=PySem.W.Fast.tw12752589471597573155
abbrev v':=view p' keep
abbrev im:=PySem.W.Fast.tw5923862056798008813 p'.main.body
abbrev ann:Option Value:=some (.ref 6)
abbrev q:Pos:=⟨0,0,0,0⟩
abbrev bd:=behindTheImports p'
abbrev env:Env:={ scope:=p'.main.scope,locals:=mainNs,globals:=mainNs,cells:=[],code:=(.ref 13),frame:=some 14 }
abbrev cb:Code:=.body bd env
theorem r0 (w:World) (os:OsState):topGo tb p' w 11 ann 12 ⟨boot_heap w.params,⟨[]⟩,boot_drawn,boot_toks,os⟩ (topStub p')=some ((sh p' w os 4 ((mn.take 9).set 0 (ke "__name__" 165 (.str "__main__" 164))) 9 [(12,k0)] 187),⟨denote tb cb,cb,⟨0,0,0,0⟩,[topFrame q]⟩):=by kernel_rfl
theorem r1 (w:World) (os:OsState):segRun tb p' w 11 ann 1 1 (sh p' w os 4 ((mn.take 9).set 0 (ke "__name__" 165 (.str "__main__" 164))) 9 [(12,k0)] 187) (blockOf bd env cb ⟨0,0,0,0⟩ [topFrame q])=some (.next,(sh p' w os 4 ((mn.take 9).set 0 (ke "__name__" 165 (.str "__main__" 164))) 9 [(12,k0)] 187),cb,⟨0,0,0,0⟩):=by kernel_rfl
theorem c0 (w:World) (os:OsState):segRun tb p' w 11 ann 1 626 (sh p' w os 4 ((mn.take 9).set 0 (ke "__name__" 165 (.str "__main__" 164))) 9 [(12,k0)] 187) (piecesOf ((bd.drop 0).take 4) env cb ⟨0,0,0,0⟩ [topFrame q])=some (.next,(sh p' w os 41 ((mn.take 12).set 0 (ke "__name__" 165 (.str "roundcuts.errors" 187))) 12 [(12,⟨.none,none,.fields ⟨[(.int 2 0),(.int 0 0),(.ref 20),(.int 4 0),(.int 0 0),(.ref 33),(.int 6 0),(.int 0 0),(.ref 45)]⟩,#[]⟩),(24,⟨(.type "type"),none,.cls { name := "CutError", bases:=[(.type "ValueError")],mro:=[(.ref 24),(.type "ValueError"),(.type "Exception"),(.type "BaseException"),(.type "object")],ns:=23,qualname := "CutError", hasDict:=true,slotNames:=[],subclasses:=[(.ref 37),(.ref 49)],abstract:=false,hasDel:=false },⟨[some (.ref 15),none,some (.str "CutError" 189),some (.str "CutError" 197),some (.builtin "ValueError.__new__"),some (.bool true)]⟩⟩)] 239),cb,⟨6,0,7,8⟩):=by kernel_rfl
theorem c1 (w:World) (os:OsState):segRun tb p' w 11 ann 1 720 (sh p' w os 41 ((mn.take 12).set 0 (ke "__name__" 165 (.str "roundcuts.errors" 187))) 12 [(12,⟨.none,none,.fields ⟨[(.int 2 0),(.int 0 0),(.ref 20),(.int 4 0),(.int 0 0),(.ref 33),(.int 6 0),(.int 0 0),(.ref 45)]⟩,#[]⟩),(24,⟨(.type "type"),none,.cls { name := "CutError", bases:=[(.type "ValueError")],mro:=[(.ref 24),(.type "ValueError"),(.type "Exception"),(.type "BaseException"),(.type "object")],ns:=23,qualname := "CutError", hasDict:=true,slotNames:=[],subclasses:=[(.ref 37),(.ref 49)],abstract:=false,hasDel:=false },⟨[some (.ref 15),none,some (.str "CutError" 189),some (.str "CutError" 197),some (.builtin "ValueError.__new__"),some (.bool true)]⟩⟩)] 239) (piecesOf ((bd.drop 4).take 20) env cb ⟨6,0,7,8⟩ [topFrame q])=some (.next,(sh p' w os 152 ((mn.take 29).set 0 (ke "__name__" 165 (.str "roundcuts.rows" 380))) 29 [(12,⟨.none,none,.fields ⟨[(.int 2 0),(.int 0 0),(.ref 20),(.int 4 0),(.int 0 0),(.ref 33),(.int 6 0),(.int 0 0),(.ref 45),(.int 8 0),(.int 0 0),(.ref 57),(.int 11 0),(.int 0 0),(.ref 69),(.int 13 0),(.int 0 0),(.ref 74),(.int 15 0),(.int 0 0),(.ref 81),(.int 20 0),(.int 0 0),(.ref 88),(.int 25 0),(.int 0 0),(.ref 95),(.int 30 0),(.int 0 0),(.ref 102),(.int 32 0),(.int 0 0),(.ref 109),(.int 34 0),(.int 0 0),(.ref 116),(.int 38 0),(.int 0 0),(.ref 121),(.int 40 0),(.int 0 0),(.ref 128),(.int 51 0),(.int 0 0),(.ref 135),(.int 55 0),(.int 0 0),(.ref 140),(.int 60 0),(.int 0 0),(.ref 147),(.int 66 0),(.int 0 0),(.ref 154),(.int 69 0),(.int 0 0),(.ref 161)]⟩,#[]⟩)] 389),cb,⟨69,0,72,41⟩):=by kernel_rfl
theorem c2 (w:World) (os:OsState):segRun tb p' w 11 ann 1 698 (sh p' w os 152 ((mn.take 29).set 0 (ke "__name__" 165 (.str "roundcuts.rows" 380))) 29 [(12,⟨.none,none,.fields ⟨[(.int 2 0),(.int 0 0),(.ref 20),(.int 4 0),(.int 0 0),(.ref 33),(.int 6 0),(.int 0 0),(.ref 45),(.int 8 0),(.int 0 0),(.ref 57),(.int 11 0),(.int 0 0),(.ref 69),(.int 13 0),(.int 0 0),(.ref 74),(.int 15 0),(.int 0 0),(.ref 81),(.int 20 0),(.int 0 0),(.ref 88),(.int 25 0),(.int 0 0),(.ref 95),(.int 30 0),(.int 0 0),(.ref 102),(.int 32 0),(.int 0 0),(.ref 109),(.int 34 0),(.int 0 0),(.ref 116),(.int 38 0),(.int 0 0),(.ref 121),(.int 40 0),(.int 0 0),(.ref 128),(.int 51 0),(.int 0 0),(.ref 135),(.int 55 0),(.int 0 0),(.ref 140),(.int 60 0),(.int 0 0),(.ref 147),(.int 66 0),(.int 0 0),(.ref 154),(.int 69 0),(.int 0 0),(.ref 161)]⟩,#[]⟩)] 389) (piecesOf ((bd.drop 24).take 25) env cb ⟨69,0,72,41⟩ [topFrame q])=some (.next,(sh p' w os 292 (mn.take 51) 51 [(12,⟨.none,none,.fields ⟨[(.int 2 0),(.int 0 0),(.ref 20),(.int 4 0),(.int 0 0),(.ref 33),(.int 6 0),(.int 0 0),(.ref 45),(.int 8 0),(.int 0 0),(.ref 57),(.int 11 0),(.int 0 0),(.ref 69),(.int 13 0),(.int 0 0),(.ref 74),(.int 15 0),(.int 0 0),(.ref 81),(.int 20 0),(.int 0 0),(.ref 88),(.int 25 0),(.int 0 0),(.ref 95),(.int 30 0),(.int 0 0),(.ref 102),(.int 32 0),(.int 0 0),(.ref 109),(.int 34 0),(.int 0 0),(.ref 116),(.int 38 0),(.int 0 0),(.ref 121),(.int 40 0),(.int 0 0),(.ref 128),(.int 51 0),(.int 0 0),(.ref 135),(.int 55 0),(.int 0 0),(.ref 140),(.int 60 0),(.int 0 0),(.ref 147),(.int 66 0),(.int 0 0),(.ref 154),(.int 69 0),(.int 0 0),(.ref 161),(.int 73 0),(.int 0 0),(.ref 168),(.int 75 0),(.int 0 0),(.ref 175),(.int 84 0),(.int 0 0),(.ref 182),(.int 90 0),(.int 0 0),(.ref 189),(.int 96 0),(.int 0 0),(.ref 194),(.int 102 0),(.int 0 0),(.ref 201),(.int 107 0),(.int 0 0),(.ref 206),(.int 109 0),(.int 0 0),(.ref 213),(.int 113 0),(.int 0 0),(.ref 220),(.int 118 0),(.int 0 0),(.ref 225),(.int 122 0),(.int 0 0),(.ref 230),(.int 125 0),(.int 0 0),(.ref 235),(.int 135 0),(.int 0 0),(.ref 242),(.int 137 0),(.int 0 0),(.ref 249),(.int 142 0),(.int 0 0),(.ref 256),(.int 151 0),(.int 0 0),(.ref 263),(.int 155 0),(.int 0 0),(.ref 270),(.int 160 0),(.int 0 0),(.ref 277),(.int 169 0),(.int 0 0),(.ref 282),(.int 194 0),(.int 0 0),(.ref 289),(.int 198 0),(.int 0 0),(.ref 296),(.int 203 0),(.int 0 0),(.ref 301)]⟩,#[]⟩)] 570),cb,⟨203,0,215,28⟩):=by kernel_rfl
theorem c3 (w:World) (os:OsState):segRun tb p' w 11 ann 1 297 (sh p' w os 292 (mn.take 51) 51 [(12,⟨.none,none,.fields ⟨[(.int 2 0),(.int 0 0),(.ref 20),(.int 4 0),(.int 0 0),(.ref 33),(.int 6 0),(.int 0 0),(.ref 45),(.int 8 0),(.int 0 0),(.ref 57),(.int 11 0),(.int 0 0),(.ref 69),(.int 13 0),(.int 0 0),(.ref 74),(.int 15 0),(.int 0 0),(.ref 81),(.int 20 0),(.int 0 0),(.ref 88),(.int 25 0),(.int 0 0),(.ref 95),(.int 30 0),(.int 0 0),(.ref 102),(.int 32 0),(.int 0 0),(.ref 109),(.int 34 0),(.int 0 0),(.ref 116),(.int 38 0),(.int 0 0),(.ref 121),(.int 40 0),(.int 0 0),(.ref 128),(.int 51 0),(.int 0 0),(.ref 135),(.int 55 0),(.int 0 0),(.ref 140),(.int 60 0),(.int 0 0),(.ref 147),(.int 66 0),(.int 0 0),(.ref 154),(.int 69 0),(.int 0 0),(.ref 161),(.int 73 0),(.int 0 0),(.ref 168),(.int 75 0),(.int 0 0),(.ref 175),(.int 84 0),(.int 0 0),(.ref 182),(.int 90 0),(.int 0 0),(.ref 189),(.int 96 0),(.int 0 0),(.ref 194),(.int 102 0),(.int 0 0),(.ref 201),(.int 107 0),(.int 0 0),(.ref 206),(.int 109 0),(.int 0 0),(.ref 213),(.int 113 0),(.int 0 0),(.ref 220),(.int 118 0),(.int 0 0),(.ref 225),(.int 122 0),(.int 0 0),(.ref 230),(.int 125 0),(.int 0 0),(.ref 235),(.int 135 0),(.int 0 0),(.ref 242),(.int 137 0),(.int 0 0),(.ref 249),(.int 142 0),(.int 0 0),(.ref 256),(.int 151 0),(.int 0 0),(.ref 263),(.int 155 0),(.int 0 0),(.ref 270),(.int 160 0),(.int 0 0),(.ref 277),(.int 169 0),(.int 0 0),(.ref 282),(.int 194 0),(.int 0 0),(.ref 289),(.int 198 0),(.int 0 0),(.ref 296),(.int 203 0),(.int 0 0),(.ref 301)]⟩,#[]⟩)] 570) (piecesOf ((bd.drop 49).take 9) env cb ⟨203,0,215,28⟩ [topFrame q])=some (.next,(sh p' w os 353 mn 60 [] 661),cb,⟨257,0,268,15⟩):=by kernel_rfl
theorem xb5:bd=(((bd.drop 0).take 4)++(((bd.drop 4).take 20)++(((bd.drop 24).take 25)++(((bd.drop 49).take 9)++[])))):=by kernel_rfl
theorem cl (w:World) (os:OsState):topRun tb p' w 11 ann 2 (sh p' w os 353 mn 60 [] 661) ⟨doneF .next,cb,⟨257,0,268,15⟩,[topFrame q]⟩=some (sh p' w os 353 mn 60 [] 661):=by kernel_rfl
theorem run (w:World) (os:OsState):topRun tb p' w 11 ann (12+(1+(626+(720+(698+(297+2)))))) ⟨boot_heap w.params,⟨[]⟩,boot_drawn,boot_toks,os⟩ (topStub p')=some ⟨hf p' w.params,⟨[]⟩,{},661,os⟩ :=
  go_top (r0 w os) (piece_block (r1 w os) (xb5 ▸ (piece_app (c0 w os) (piece_app (c1 w os) (piece_app (c2 w os) (piece_app (c3 w os) (piece_nil (cl w os))))))))
theorem z0 (w:World):((boot_heap w.params).isNs mainGlobals && (⟨[]⟩:Array GenState).size == 0,(boot_heap w.params).objs.size,(boot_heap w.params).nsMap mainGlobals "__annotations__")=(true,11,ann):=by kernel_rfl
theorem z1 (w:World) (os:OsState):(staticsOk im (boot_heap w.params) (hf p' w.params) && namesBound p' (hf p' w.params) && gensDone ⟨hf p' w.params,⟨[]⟩,{},661,os⟩ && laidKept (boot_heap w.params) (hf p' w.params))=true:=by kernel_rfl
theorem z2 (w:World) (os:OsState):PySem.W.Fast.tw4187177175401517315 v' [] im (fun s=>xlAt v' [] s && recOk [] s) true ⟨hf p' w.params,⟨[]⟩,{},661,os⟩=openGood v' []:=by kernel_rfl
theorem z3 (w:World) (os:OsState):Hook.obs (Hk p') ⟨hf p' w.params,⟨[]⟩,{},661,os⟩=Hook.val (Hk p') w:=by kernel_rfl
theorem xb4:LeftO p' v' [] (fun s=>xlAt v' [] s && recOk [] s) (Hook.obs (Hk p')) (Hook.val (Hk p')) 4684:=by
  have h1:=run; have h2:=z1; have h3:=z2
  rw [show tb=treeTable from PySem.W.Fast.te14364793385576792824.symm] at h1
  rw [show im=importedModules p'.main.body from congrFun PySem.W.Fast.te5923862056798008813.symm _] at h2 h3
  rw [show PySem.W.Fast.tw4187177175401517315=openSeen from PySem.W.Fast.te4187177175401517315.symm] at h3
  exact LeftO.of_pieces (boot_open rfl rfl fun _=>rfl) z0 h1 (by decide) fun w=>funext fun os=>by
    rw [h2 w os,h3 w os,z3 w os]
theorem lS (p:Program) (h:p=p'):LeftO p (view p keep) [] (fun s=>xlAt (view p keep) [] s && recOk [] s) (Hook.obs (Hk p)) (Hook.val (Hk p)) 4684:=by
  subst h; exact xb4
theorem left:LeftO pg vw [] (fun s=>xlAt vw [] s && recOk [] s) (Hook.obs (Hk pg)) (Hook.val (Hk pg)) 4684:=lS pg PySem.W.Fast.te12752589471597573155
end K10
namespace K10
open PySem L2
theorem there {l:PySem.W.OpenLaw} {w:World} {P:Params} {h:Heap} {mg:Str→Option Value} {fa:Addr} (X:(K P).In h) (G:h.Ns mainGlobals mg) (hfa:mg "law" = some (.ref fa)) :
    ∃ fd:FuncData,(∀ (s:Shared) (v:Value),BindsTo s fd ⟨[v],[]⟩ [("_law_script", v)])∧∀ base:Heap,(K P).In base→base.Ns mainGlobals mg→gI l.prog w (K P) mg base CX0 12 fa fd ["_law_script"] (tH (K P)) :=
  all_mk (a_NoCut:=61) (a_NoWeights:=49) X G hfa (dk (f:=70) (cd:=69) (m := "roundcuts.fractions") (t:=255) (by kernel_rfl) (by kernel_rfl) (by kernel_rfl))
    (dk (f:=89) (cd:=88) (m := "roundcuts.fractions") (t:=255) (by kernel_rfl) (by kernel_rfl) (by kernel_rfl))
    (dk (f:=136) (cd:=135) (m := "roundcuts.pieces") (t:=296) (by kernel_rfl) (by kernel_rfl) (by kernel_rfl))
    (dk (f:=155) (cd:=154) (m := "roundcuts.pieces") (t:=296) (by kernel_rfl) (by kernel_rfl) (by kernel_rfl))
    (dk (f:=169) (cd:=168) (m := "roundcuts.rows") (t:=380) (by kernel_rfl) (by kernel_rfl) (by kernel_rfl))
    (dk (f:=207) (cd:=206) (m := "roundcuts.fields") (t:=427) (by kernel_rfl) (by kernel_rfl) (by kernel_rfl))
    (dk (f:=250) (cd:=249) (m := "roundcuts.sums") (t:=458) (by kernel_rfl) (by kernel_rfl) (by kernel_rfl))
    (dk (f:=264) (cd:=263) (m := "law_roundcuts_k10_papers_looked_over") (t:=512) (by kernel_rfl) (by kernel_rfl) (by kernel_rfl))
    (dk (f:=278) (cd:=277) (m := "law_roundcuts_k10_papers_looked_over") (t:=512) (by kernel_rfl) (by kernel_rfl) (by kernel_rfl))
    (dk (f:=290) (cd:=289) (m := "law_roundcuts_k10_papers_looked_over") (t:=512) (by kernel_rfl) (by kernel_rfl) (by kernel_rfl))
    (dk (f:=337) (cd:=336) (m := "law_roundcuts_k10_papers_looked_over") (t:=512) (by kernel_rfl) (by kernel_rfl) (by kernel_rfl))
    (dk (f:=75) (cd:=74) (m := "roundcuts.fractions") (t:=255) (by kernel_rfl) (by kernel_rfl) (by kernel_rfl))
    (dk (f:=82) (cd:=81) (m := "roundcuts.fractions") (t:=255) (by kernel_rfl) (by kernel_rfl) (by kernel_rfl))
    (dk (f:=96) (cd:=95) (m := "roundcuts.fractions") (t:=255) (by kernel_rfl) (by kernel_rfl) (by kernel_rfl))
    (dk (f:=141) (cd:=140) (m := "roundcuts.pieces") (t:=296) (by kernel_rfl) (by kernel_rfl) (by kernel_rfl))
    (dk (f:=148) (cd:=147) (m := "roundcuts.pieces") (t:=296) (by kernel_rfl) (by kernel_rfl) (by kernel_rfl))
    (dk (f:=183) (cd:=182) (m := "roundcuts.rows") (t:=380) (by kernel_rfl) (by kernel_rfl) (by kernel_rfl))
    (dk (f:=190) (cd:=189) (m := "roundcuts.rows") (t:=380) (by kernel_rfl) (by kernel_rfl) (by kernel_rfl))
    (dk (f:=236) (cd:=235) (m := "roundcuts.sums") (t:=458) (by kernel_rfl) (by kernel_rfl) (by kernel_rfl))
    (dk (f:=271) (cd:=270) (m := "law_roundcuts_k10_papers_looked_over") (t:=512) (by kernel_rfl) (by kernel_rfl) (by kernel_rfl))
    (dk (f:=283) (cd:=282) (m := "law_roundcuts_k10_papers_looked_over") (t:=512) (by kernel_rfl) (by kernel_rfl) (by kernel_rfl))
    (dk (f:=297) (cd:=296) (m := "law_roundcuts_k10_papers_looked_over") (t:=512) (by kernel_rfl) (by kernel_rfl) (by kernel_rfl))
    (dk (f:=344) (cd:=343) (m := "law_roundcuts_k10_papers_looked_over") (t:=512) (by kernel_rfl) (by kernel_rfl) (by kernel_rfl))
    (dk (f:=356) (cd:=355) (m := "law_roundcuts_k10_papers_looked_over") (t:=512) (by kernel_rfl) (by kernel_rfl) (by kernel_rfl))
    (dk (f:=122) (cd:=121) (m := "roundcuts.pieces") (t:=296) (by kernel_rfl) (by kernel_rfl) (by kernel_rfl))
    (dk (f:=129) (cd:=128) (m := "roundcuts.pieces") (t:=296) (by kernel_rfl) (by kernel_rfl) (by kernel_rfl))
    (dk (f:=162) (cd:=161) (m := "roundcuts.rows") (t:=380) (by kernel_rfl) (by kernel_rfl) (by kernel_rfl))
    (dk (f:=176) (cd:=175) (m := "roundcuts.rows") (t:=380) (by kernel_rfl) (by kernel_rfl) (by kernel_rfl))
    (dk (f:=226) (cd:=225) (m := "roundcuts.sums") (t:=458) (by kernel_rfl) (by kernel_rfl) (by kernel_rfl))
    (dk (f:=231) (cd:=230) (m := "roundcuts.sums") (t:=458) (by kernel_rfl) (by kernel_rfl) (by kernel_rfl))
    (dk (f:=302) (cd:=301) (m := "law_roundcuts_k10_papers_looked_over") (t:=512) (by kernel_rfl) (by kernel_rfl) (by kernel_rfl))
    (dk (f:=309) (cd:=308) (m := "law_roundcuts_k10_papers_looked_over") (t:=512) (by kernel_rfl) (by kernel_rfl) (by kernel_rfl))
    (dk (f:=316) (cd:=315) (m := "law_roundcuts_k10_papers_looked_over") (t:=512) (by kernel_rfl) (by kernel_rfl) (by kernel_rfl))
    (dk (f:=117) (cd:=116) (m := "roundcuts.pieces") (t:=296) (by kernel_rfl) (by kernel_rfl) (by kernel_rfl))
    (dk (f:=202) (cd:=201) (m := "roundcuts.fields") (t:=427) (by kernel_rfl) (by kernel_rfl) (by kernel_rfl))
    (dk (f:=323) (cd:=322) (m := "law_roundcuts_k10_papers_looked_over") (t:=512) (by kernel_rfl) (by kernel_rfl) (by kernel_rfl))
    (dk (f:=110) (cd:=109) (m := "roundcuts.pieces") (t:=296) (by kernel_rfl) (by kernel_rfl) (by kernel_rfl))
    (dk (f:=330) (cd:=329) (m := "law_roundcuts_k10_papers_looked_over") (t:=512) (by kernel_rfl) (by kernel_rfl) (by kernel_rfl))
    (dk (f:=103) (cd:=102) (m := "roundcuts.pieces") (t:=296) (by kernel_rfl) (by kernel_rfl) (by kernel_rfl))
    (dk (f:=349) (cd:=348) (m := "law_roundcuts_k10_papers_looked_over") (t:=512) (by kernel_rfl) (by kernel_rfl) (by kernel_rfl))
    (dk (f:=195) (cd:=194) (m := "roundcuts.fields") (t:=427) (by kernel_rfl) (by kernel_rfl) (by kernel_rfl))
    (dk (f:=214) (cd:=213) (m := "roundcuts.fields") (t:=427) (by kernel_rfl) (by kernel_rfl) (by kernel_rfl))
    (dk (f:=221) (cd:=220) (m := "roundcuts.sums") (t:=458) (by kernel_rfl) (by kernel_rfl) (by kernel_rfl))
    (dk (f:=243) (cd:=242) (m := "roundcuts.sums") (t:=458) (by kernel_rfl) (by kernel_rfl) (by kernel_rfl))
    (dk (f:=257) (cd:=256) (m := "roundcuts.sums") (t:=458) (by kernel_rfl) (by kernel_rfl) (by kernel_rfl))
    (by kernel_rfl:PySem.W.nsIn (K P) mainGlobals "law" = some (some (.ref 363))) (by kernel_rfl:(K P).lookup 363=some (kf "law" jO 362 "law_roundcuts_k10_papers_looked_over" 512)) (by kernel_rfl:PySem.W.codeIn (K P) (.ref 362) "law" = true) (by kernel_rfl) (by kernel_rfl) (by kernel_rfl) (by kernel_rfl) (by kernel_rfl) (by kernel_rfl) (by kernel_rfl) (by kernel_rfl) (by kernel_rfl) (by kernel_rfl) (by kernel_rfl) (by kernel_rfl) (by kernel_rfl) (by kernel_rfl) (by kernel_rfl) (by kernel_rfl) (by kernel_rfl) ((by kernel_rfl:PySem.W.nsIn (K P) mainGlobals "FAR" = some (some (.int 60001 298)))) (by kernel_rfl) (by kernel_rfl) (by kernel_rfl) (by kernel_rfl) (by kernel_rfl) (by kernel_rfl)
end K10
end
open PySem PySem.W PyProof.Rows
set_option maxRecDepth 100000 in
set_option maxHeartbeats 0 in
theorem PySem.Challenge.cw_roundcuts_k10_papers_looked_over_holds : PySem.Challenge.rw_roundcuts_k10_papers_looked_over.Holds := by
  w_on; o_law
  refine holds_open (q:=K10.vw) (XP:=XL K10.vw []) (YP:=Hook.says (K10.Hk _)) K10.left (Hook.of _) (Hook.keeps _) (fun s e=>xl_of s (Bool.and_eq_true_iff.mp e).1)
    XL.keeps rfl rfl rfl (fun s e=>recFacts_of (Bool.and_eq_true_iff.mp e).2) rfl (by assumption) (by decide +kernel) ⟨rfl,rfl,rfl,rfl,rfl,by decide +kernel⟩ ?hw ?hc
  case hw=>w_witness2
  exact K10.walk (l:=PySem.Challenge.rw_roundcuts_k10_papers_looked_over) rfl rfl (fun w h Y=>PySem.W.kIn_of Y) (fun P=>by kernel_rfl) (fun w mg fa h X G e=>K10.there X G e)
