import PyProof.Rows.All
import Wide.All
import OpenK.AllK
import Wide.FinOn
import Lean
import PyProof.EqAt
import PyProof.EqKinds
import PyProof.TupleCall
import PyProof.ZipIter
import PyProof.NeData
import PyProof.P3Eq
import PyProof.EnumFor
import PyProof.EnumMake
import PyProof.Draws
import PyProof.Cells
import KE.KTryMore
import KE.KIsAll
import PyProof.ExcAttrAll.ValueError
import KE.KLam
import PySem.Challenge.RW_roundcuts_k31_whole_places_and_hulls
set_option Elab.async false
set_option linter.all false
set_option maxRecDepth 100000
set_option maxHeartbeats 4000000
set_option exponentiation.threshold 3000
set_option bootstrap.genMatcherCode false
set_option genSizeOfSpec false
set_option genInjectivity false
abbrev xdc:=@Bool.and_eq_true
abbrev xdd:=@Bool.false_ne_true
abbrev xde:=@Int.dvd_coe_gcd
abbrev xdf:=@Int.emod_lt_of_pos
abbrev xdg:=@Int.emod_nonneg
abbrev xdh:=@Int.gcd_pos_of_ne_zero_right
abbrev xdi:=@Int.le_of_lt
abbrev xdj:=@Int.le_refl
abbrev xdk:=@Int.lt_or_le
abbrev xdl:=@Int.lt_trichotomy
abbrev xdm:=@Int.mul_dvd_mul_left
abbrev xdn:=@Int.mul_ediv_cancel'
abbrev xdo:=@Int.mul_le_mul_of_nonneg_right
abbrev xdp:=@Int.mul_neg_of_neg_of_pos
abbrev xdq:=@Int.mul_neg_of_pos_of_neg
abbrev xdr:=@Int.mul_pos
abbrev xds:=@Int.natAbs_mul
abbrev xdt:=@Int.toNat_natCast
abbrev xdu:=@List.Sublist.refl
abbrev xdv:=@List.Sublist.trans
abbrev xdw:=@List.all_eq_true
abbrev xdx:=@List.all_map
abbrev xdy:=@List.append_assoc
abbrev xdz:=@List.append_nil
abbrev xdA:=@List.cons_append
abbrev xdB:=@List.drop_eq_getElem_cons
abbrev xdC:=@List.drop_length
abbrev xdD:=@List.drop_zero
abbrev xdE:=@List.filterMap_cons
abbrev xdF:=@List.filter_append
abbrev xdG:=@List.filter_cons_of_neg
abbrev xdH:=@List.filter_cons_of_pos
abbrev xdI:=@List.flatMap_append
abbrev xdJ:=@List.flatMap_cons
abbrev xdK:=@List.foldl_append
abbrev xdL:=@List.foldl_cons
abbrev xdM:=@List.getD_eq_getElem?_getD
abbrev xdN:=@List.getElem?_append_left
abbrev xdO:=@List.getElem?_eq_getElem
abbrev xdP:=@List.getElem?_eq_none
abbrev xdQ:=@List.getElem?_eq_some_iff
abbrev xdR:=@List.getElem?_map
abbrev xdS:=@List.getElem?_set_ne
abbrev xdT:=@List.getElem?_set_self
abbrev xdU:=@List.length_append
abbrev xdV:=@List.length_cons
abbrev xdW:=@List.length_drop
abbrev xdX:=@List.length_eq_zero_iff
abbrev xdY:=@List.length_filter_le
abbrev xdZ:=@List.length_map
abbrev xd0:=@List.length_nil
abbrev xd1:=@List.length_reverse
abbrev xd2:=@List.length_set
abbrev xd3:=@List.length_singleton
abbrev xd4:=@List.length_take
abbrev xd5:=@List.lookup_cons
abbrev xd6:=@List.map_append
abbrev xd7:=@List.map_cons
abbrev xd8:=@List.map_map
abbrev xd9:=@List.map_nil
abbrev xd_:=@List.mem_append
abbrev xea:=@List.mem_append_left
abbrev xeb:=@List.mem_append_right
abbrev xec:=@List.mem_cons
abbrev xed:=@List.mem_cons_of_mem
abbrev xee:=@List.mem_cons_self
abbrev xef:=@List.mem_filter
abbrev xeg:=@List.mem_map
abbrev xeh:=@List.mem_map_of_mem
abbrev xei:=@List.mem_of_getElem?
abbrev xej:=@List.mem_of_mem_take
abbrev xek:=@List.mem_range
abbrev xel:=@List.mem_singleton
abbrev xem:=@List.nil_append
abbrev xen:=@List.nodup_append
abbrev xeo:=@List.nodup_cons
abbrev xep:=@List.not_mem_nil
abbrev xeq:=@List.range_succ
abbrev xer:=@List.reverse_cons
abbrev xes:=@List.singleton_sublist
abbrev xet:=@List.size_toArray
abbrev xeu:=@List.sublist_append_iff
abbrev xev:=@List.sublist_append_right
abbrev xew:=@List.take_of_length_le
abbrev xex:=@List.take_succ
abbrev xey:=@Nat.le_add_right
abbrev xez:=@Nat.le_of_lt
abbrev xeA:=@Nat.le_refl
abbrev xeB:=@Nat.le_succ
abbrev xeC:=@Nat.le_trans
abbrev xeD:=@Nat.lt_irrefl
abbrev xeE:=@Nat.lt_of_le_of_lt
abbrev xeF:=@Nat.lt_of_lt_of_le
abbrev xeG:=@Nat.lt_succ_of_lt
abbrev xeH:=@Nat.lt_succ_self
abbrev xeI:=@Nat.ne_of_gt
abbrev xeJ:=@Nat.ne_of_lt
abbrev xeK:=@Nat.sub_zero
abbrev xeL:=@Nat.zero_le
abbrev xeM:=@Option.getD_some
abbrev xeN:=@Option.some.inj
abbrev xeO:=@congrArg
abbrev xeP:=@decide_eq_false
abbrev xeQ:=@decide_eq_true
abbrev xeR:=@decide_eq_true_eq
abbrev xeS:=@if_false
abbrev xeT:=@of_decide_eq_false
abbrev xeU:=@of_decide_eq_true
abbrev xeV:=@or_false
noncomputable section
namespace L2
open PySem PySem.Spec PyProof.Rows
abbrev Key:=Sum Int Str
def xac:Key→Value→Bool
 | .inl k,v=>Value.isInt k v
 | .inr x,v=>Value.isStrOf x v
def xcM (w:World):Key→Int
 | .inl k=>hashInt k
 | .inr x=>hashStr w x
theorem yA:∀ {k:Key} {v:Value},xac k v=true→(∃i t,k=Sum.inl i∧v=Value.int i t)∨(∃x t,k=Sum.inr x∧v=Value.str x t)
 | .inl i,v,h=>by
  obtain⟨t,e⟩:=Value.isInt_shape (k:=i) (v:=v) h
  exact .inl ⟨i,t,rfl,e⟩
 | .inr x,v,h=>by
  obtain⟨t,e⟩:=Value.isStrOf_shape (x:=x) (v:=v) h
  exact .inr ⟨x,t,rfl,e⟩
theorem xao (a b:Int):decide ((Sum.inl a:Key)=Sum.inl b)=(a == b):=by
 by_cases e:a=b
 ·subst e;simp
 ·have h:¬(Sum.inl a:Key)=Sum.inl b:=fun q=>e (Sum.inl.inj q)
  rw[xeP h]
  exact(beq_eq_false_iff_ne.mpr e).symm
theorem lY (a b:Str):decide ((Sum.inr a:Key)=Sum.inr b)=decide (a=b):=by
 by_cases e:a=b
 ·subst e;simp
 ·have h:¬(Sum.inr a:Key)=Sum.inr b:=fun q=>e (Sum.inr.inj q)
  rw[xeP h,xeP e]
theorem xaf (a:Int)(b:Str):decide ((Sum.inl a:Key)=Sum.inr b)=false:=xeP (fun q=>nomatch q)
theorem xaK (a:Str)(b:Int):decide ((Sum.inr a:Key)=Sum.inl b)=false:=xeP (fun q=>nomatch q)
def nW (prog:Program)(w:World):PySem.KeyKind prog w Key where
 is:=xac
 hash:=xcM w
 inj:=fun v a b ha hb=>by
  rcases yA ha with ⟨i,t,rfl,rfl⟩ | ⟨x,t,rfl,rfl⟩
  ·rcases yA hb with ⟨j,u,rfl,e⟩ | ⟨y,u,rfl,e⟩
   ·injection e with e1 _;rw[e1]
   ·exact nomatch e
  ·rcases yA hb with ⟨j,u,rfl,e⟩ | ⟨y,u,rfl,e⟩
   ·exact nomatch e
   ·injection e with e1 _;rw[e1]
 byValue:=fun k v h=>by
  rcases yA h with ⟨i,t,rfl,rfl⟩ | ⟨x,t,rfl,rfl⟩<;>rfl
 pyHash:=fun hv h=>by
  rcases yA hv with ⟨i,t,rfl,rfl⟩ | ⟨x,t,rfl,rfl⟩
  ·exact wpAny_pyHash_int h
  ·exact wpAny_pyHash_str h
 eqBool:=fun hu hv h=>by
  rcases yA hu with ⟨i,t,rfl,rfl⟩ | ⟨x,t,rfl,rfl⟩
  ·rcases yA hv with ⟨j,u,rfl,rfl⟩ | ⟨y,u,rfl,rfl⟩
   ·rw[xao] at h;exact wpAny_eqBool_int h
   ·rw[xaf] at h;exact SeqAt.EqAt.int_str i t y u _ _ _ _ h
  ·rcases yA hv with ⟨j,u,rfl,rfl⟩ | ⟨y,u,rfl,rfl⟩
   ·rw[xaK] at h;exact SeqAt.EqAt.str_int x t j u _ _ _ _ h
   ·rw[lY] at h;exact wpAny_eqBool_str h
 «strs» := fun k x t v h=>by
  rcases yA h with ⟨i,u,rfl,e⟩ | ⟨y,u,rfl,e⟩
  ·exact nomatch e
  ·injection e with e1 _
   subst e1
   cases v<;>rfl
end L2
namespace L2
open PySem PySem.Spec PyProof.Rows
inductive V where
 | non | bl (b:Bool) | int (i:Int) | str (x:Str) | byt (b:Array UInt8) | flt (b:UInt64) | ref (a:Addr) | ty (n:String)
 deriving DecidableEq
def RelV:V→Value→Prop
 | .non,u=>u=Value.none
 | .bl b,u=>u=Value.bool b
 | .int i,u=>∃t,u=Value.int i t
 | .str x,u=>∃t,u=Value.str x t
 | .byt b,u=>∃t,u=Value.bytes b t
 | .flt b,u=>∃t,u=Value.float b t
 | .ref a,u=>u=Value.ref a
 | .ty n,u=>u=Value.type n
abbrev yy:List V→List Value→Prop:=Paired RelV
theorem yy.length {xs:List V}{us:List Value}(r:yy xs us):xs.length=us.length:=Paired.length r
theorem yy.get:∀ {xs:List V} {us:List Value} {i:Nat} {x:V},yy xs us→xs[i]? = some x→∃u,us[i]? = some u∧RelV x u
 | _,_,_,_,.nil,e=>by simp at e
 | _,_,0,_,.cons r _,e=>by simp at e;subst e;exact⟨_,rfl,r⟩
 | _,_,i+1,x,.cons _ t,e=>by
  obtain⟨u,h1,h2⟩:=yy.get (i:=i) (x:=x) t (by simpa using e)
  exact⟨u,by simpa using h1,h2⟩
theorem yy.set {x:V}{u:Value}(r:RelV x u):∀ {xs:List V} {us:List Value} (i:Nat),yy xs us→yy (xs.set i x) (us.set i u)
 | _,_,_,.nil=>.nil
 | _,_,0,.cons _ t=>.cons r t
 | _,_,i+1,.cons q t=>.cons q (yy.set r i t)
theorem yy.append:∀ {xs ys:List V} {us ws:List Value},yy xs us→yy ys ws→yy (xs++ys) (us++ws)
 | _,_,_,_,.nil,s=>s
 | _,_,_,_,.cons r t,s=>.cons r (yy.append t s)
theorem yy.take:∀ {xs:List V} {us:List Value} (n:Nat),yy xs us→yy (xs.take n) (us.take n)
 | _,_,0,_=>.nil
 | _,_,_+1,.nil=>.nil
 | _,_,n+1,.cons r t=>.cons r (yy.take n t)
theorem yy.drop:∀ {xs:List V} {us:List Value} (n:Nat),yy xs us→yy (xs.drop n) (us.drop n)
 | _,_,0,r=>r
 | _,_,_+1,.nil=>.nil
 | _,_,n+1,.cons _ t=>yy.drop n t
def xbE:Option V→Option Value→Prop
 | some v,some u=>RelV v u
 | none,none=>True
 | _,_=>False
def KV {κ:Type}:List (κ×V)→List (κ×Value)→Prop:=Paired fun(p:κ×V) (q:κ×Value)=>p.1=q.1∧RelV p.2 q.2
def kV:Key→V
 | .inl i=>.int i
 | .inr x=>.str x
inductive HO where
  | lst (xs:List V)
  | tup (xs:List V)
  | dK (kvs:List (Key×V)) | dT (kvs:List (List Key×V))
  | set (S:Int→Bool) (n:Nat)
  | ins (C dx:Addr) (fs:List (Str×V))
  | own (x:Addr)
  | xd (fs:List (Str×V))
  | met (f x:Addr)
  | rng (lo hi:Int)
  | frz (o:Obj) (u:HO)
  | tbl (ps:Array Value)
 | tb (q:Str)
  | ext (φ:Heap→Prop)
abbrev Hp:=Addr→Option HO
def upd (H:Hp)(a:Addr)(o:HO):Hp:=fun b=>if b=a then some o else H b
theorem xM {H:Hp}{a:Addr}{o:HO}:upd H a o a=some o:=by unfold upd;rw[if_pos rfl]
theorem xC {H:Hp}{a b:Addr}{o:HO}(h:b≠a):upd H a o b=H b:=by unfold upd;rw[if_neg h]
theorem lQ {H:Hp}{a b:Addr}{o u:HO}(h:H a=some o)(h':H b=some u)(d:o≠u):a≠b:=by
 intro e;subst e;rw[h] at h';exact d (xeN h')
theorem xn {H:Hp}{a b:Addr}{o:HO}(h:H a=some o)(h':H b=none):a≠b:=by
 intro e;subst e;rw[h] at h';cases h'
section
variable (P:Program) (w:World)
def zI (H:Hp)(h:Heap)(a:Addr):HO→Prop
 | .lst xs=>xs.length≤sizeLine∧∃(its:List Value) (n:Nat),yy xs its∧h.get? a=some { cls:=.type "list", data:=.seq its.toArray n }
 | .tup xs=>xs.length≤sizeLine∧∃its:List Value,yy xs its∧IsTup h a its.toArray
 | .dK kvs=>kvs.length≤sizeLine∧(a == sysModules)=false∧∃vs,KV kvs vs∧h.DictOf (nW P w) a vs
 | .dT kvs=>kvs.length≤sizeLine∧(a == sysModules)=false∧∃xs:List (List Key×Addr×Value),
   Paired (fun(p:List Key×V) (q:List Key×Addr×Value)=>p.1=q.1∧H q.2.1=some (.tup (p.1.map kV))∧RelV p.2 q.2.2) kvs xs ∧
   ∃o es ep,h.get? a=some o∧o.ExactDict∧o.data=.dict es ep∧es.toList=xs.map (entryOfKey (tupleKind (nW P w)))∧(xs.map (·.1)).Nodup
 | .set S n=>h.SetOf (intKind P w) a S n
 | .ins C dx fs=>H dx=some (.own a)∧fs.length≤1000∧dx≠a∧h.get? a=some (PySem.W.instObj C dx) ∧
   ∃mA,h.Ns1 dx mA∧(∀f,xbE (fs.lookup f) (mA f))∧PySem.Within mA (fs.map (·.1))
 | .own _=>∃o,h.get? a=some o
 | .xd fs=>∃mA,h.Ns1 a mA∧∀f,xbE (fs.lookup f) (mA f)
 | .rng lo hi=>∃t u v,h.get? a=some { cls:=.type "range", data:=.fields #[.int lo t,.int hi u,.int 1 v] }
 | .frz o u=>h.get? a=some o∧zI H h a u
 | .tbl ps=>h.get? a=some { cls:=.none,data:=.fields ps }
 | .tb q=>∃ps:Array Value,h.get? a=some { cls:=.none,data:=.fields ps }∧TriplesOk ps.toList∧∀pos cv,codeAmong pos ps.toList=some cv →
   ∃c oc vs t,cv=.ref c∧H c=some (.frz oc (.own c))∧oc.data=.fields vs∧vs[1]? = some (.str q t)
 | .met f x=>h.get? a=some (PySem.W.methodObj (.ref f) (.ref x))
 | .ext φ=>φ h∧(∃o,h.get? a=some o)∧∀h1 h2:Heap,φ h1→(∀o,h1.get? a=some o→h2.get? a=some o)→φ h2
def HOk (H:Hp)(h:Heap):Prop:=∀a o,H a=some o→zI P w H h a o
end
section
variable {P:Program} {w:World} {H H':Hp} {h h':Heap} {a:Addr} {o:HO}
theorem zI.lt (x:zI P w H h a o):a<h.objs.size:=by
 cases o with
 | lst xs=>obtain⟨_,_,_,_,e⟩:=x;exact Heap.lt_size e
 | tup xs=>obtain⟨_,_,_,p⟩:=x;exact p.lt
 | dK kvs=>obtain⟨_,_,_,_,o,_,_,e,_⟩:=x;exact Heap.lt_size e
 | dT kvs=>obtain⟨_,_,_,_,o,_,_,e,_⟩:=x;exact Heap.lt_size e
 | set S n=>obtain⟨o,_,_,_,e,_⟩:=x;exact Heap.lt_size e
 | ins C dx fs=>obtain⟨_,_,_,e,_⟩:=x;exact Heap.lt_size e
 | own y=>obtain⟨_,e⟩:=x;exact Heap.lt_size e
 | xd fs=>obtain⟨_,⟨_,_,_,e,_⟩,_⟩:=x;exact Heap.lt_size e
 | rng lo hi=>obtain⟨_,_,_,e⟩:=x;exact Heap.lt_size e
 | frz ob u=>obtain⟨e,_⟩:=x;exact Heap.lt_size e
 | tbl ps=>exact Heap.lt_size (show h.get? a=some _ from x)
 | tb q=>obtain⟨_,e,_⟩:=x;exact Heap.lt_size e
 | met f y=>exact Heap.lt_size (show h.get? a=some _ from x)
 | ext φ=>obtain⟨_,⟨_,e⟩,_⟩:=x;exact Heap.lt_size e
theorem Paired.mapP {α β:Type}{F G:α→β→Prop}:∀ {l₁:List α} {l₂:List β},Paired F l₁ l₂→(∀a b,F a b→G a b)→Paired G l₁ l₂
 | _,_,.nil,_=>.nil
 | _,_,.cons r t,f=>.cons (f _ _ r) (Paired.mapP t f)
theorem zI.stay (x:zI P w H h a o)(k:∀b u,(b=a∨H b=some (.own a))→h.get? b=some u→h'.get? b=some u)
  (ho:∀b,H b=some (.own a)→H' b=some (.own a)) (ht:∀b xs,H b=some (.tup xs)→H' b=some (.tup xs)) (hf:∀b o u,H b=some (.frz o u)→H' b=some (.frz o u)):zI P w H' h' a o:=by
 induction o with
 | lst xs=>obtain⟨z,its,n,r,e⟩:=x;exact⟨z,its,n,r,k _ _ (.inl rfl) e⟩
 | tup xs=>obtain⟨z,its,r,ob,e,c⟩:=x;exact⟨z,its,r,ob,k _ _ (.inl rfl) e,c⟩
 | dK kvs=>obtain⟨z,y,vs,r,ob,es,ep,e,c⟩:=x;exact⟨z,y,vs,r,ob,es,ep,k _ _ (.inl rfl) e,c⟩
 | dT kvs =>
  obtain⟨z,y,xs,r,ob,es,ep,e,c⟩:=x
  exact⟨z,y,xs,Paired.mapP r fun p q z=>⟨z.1,ht _ _ z.2.1,z.2.2⟩,ob,es,ep,k _ _ (.inl rfl) e,c⟩
 | set S n=>obtain⟨ob,es,ep,t,e,c⟩:=x;exact⟨ob,es,ep,t,k _ _ (.inl rfl) e,c⟩
 | ins C dx fs =>
  obtain⟨d,z,ne,e,mA,⟨od,es,ep,e2,c⟩,r⟩:=x
  exact⟨ho _ d,z,ne,k _ _ (.inl rfl) e,mA,⟨od,es,ep,k _ _ (.inr d) e2,c⟩,r⟩
 | own y=>obtain⟨ob,e⟩:=x;exact⟨ob,k _ _ (.inl rfl) e⟩
 | xd fs=>obtain⟨mA,⟨od,es,ep,e,c⟩,r⟩:=x;exact⟨mA,⟨od,es,ep,k _ _ (.inl rfl) e,c⟩,r⟩
 | rng lo hi=>obtain⟨t,u,v,e⟩:=x;exact⟨t,u,v,k _ _ (.inl rfl) e⟩
 | frz ob u ih=>obtain⟨e,q⟩:=x;exact⟨k _ _ (.inl rfl) e,ih q⟩
 | tbl ps =>
  have e:h.get? a=some { cls:=.none,data:=.fields ps }:=x
  show h'.get? a=some { cls:=.none,data:=.fields ps }
  exact k a _ (.inl rfl) e
 | tb q =>
  obtain⟨ps,e,z,y⟩:=x
  exact⟨ps,k _ _ (.inl rfl) e,z,fun pos cv e=>let ⟨c,oc,vs,t,e1,e2,e3⟩:=y pos cv e;⟨c,oc,vs,t,e1,hf _ _ _ e2,e3⟩⟩
 | met f y =>
  have e:h.get? a=some (PySem.W.methodObj (.ref f) (.ref y)):=x
  show h'.get? a=some (PySem.W.methodObj (.ref f) (.ref y))
  exact k a _ (.inl rfl) e
 | ext φ=>obtain⟨p,⟨o,e⟩,st⟩:=x;exact⟨st _ _ p fun o q=>k _ _ (.inl rfl) q,⟨o,k _ _ (.inl rfl) e⟩,st⟩
theorem HOk.lt (x:HOk P w H h)(e:H a=some o):a<h.objs.size:=(x a o e).lt
theorem HOk.fresh (x:HOk P w H h)(e:h.objs.size≤a):H a=none:=by
 cases q:H a with
 | none=>rfl
 | some u=>exact absurd (xeF (x.lt q) e) (xeD _)
theorem HOk.kept (x:HOk P w H h)(k:∀b u,h.get? b=some u→h'.get? b=some u):HOk P w H h':=fun a o e =>
 (x a o e).stay (fun b u _ q=>k b u q) (fun _ q=>q) (fun _ _ q=>q) fun _ _ _ q=>q
theorem HOk.laid (x:HOk P w H h)(k:∀b u,h.get? b=some u→h'.get? b=some u)(hp:h.objs.size≤a)(new:zI P w (upd H a o) h' a o):HOk P w (upd H a o) h':=fun b u e=>by
 have hn:=x.fresh hp
 by_cases hb:b=a
 ·subst hb;rw[xM] at e;cases e;exact new
 ·rw[xC hb] at e
  exact(x b u e).stay (fun c v _ q=>k c v q) (fun c q=>by rw[xC (xn q hn)];exact q) (fun c xs q=>by rw[xC (xn q hn)];exact q) fun c o u q=>by rw[xC (xn q hn)];exact q
end
def Rd (H:Hp)(a:Addr)(u:HO):Prop:=H a=some u∨∃o,H a=some (.frz o u)
theorem Rd.ok {P:Program}{w:World}{H:Hp}{h:Heap}{a:Addr}{u:HO}(r:Rd H a u)(x:HOk P w H h):zI P w H h a u:=by
 rcases r with r | ⟨o,r⟩
 ·exact x a u r
 ·obtain⟨_,q⟩:=x a _ r
  exact q
def Mut:Option HO→Prop
 | some (.lst _)=>True
 | some (.dK _)=>True
 | some (.dT _)=>True
 | some (.set _ _)=>True
 | some (.ins _ _ _)=>True
 | some (.ext _)=>True
 | some (.tb _)=>True
 | _=>False
section
variable {P:Program} {w:World} {H:Hp} {h h':Heap} {x e:Addr} {o':HO}
theorem HOk.write (ok:HOk P w H h)(mu:Mut (H x))(he:e=x∨H e=some (.own x))(k:∀b u,b≠e→h.get? b=some u→h'.get? b=some u)(heo:∃u,h'.get? e=some u)
  (new:zI P w (upd H x o') h' x o'):HOk P w (upd H x o') h':=fun b u q=>by
 have nown:∀c y,H c=some (.own y)→c≠x:=fun c y r z=>by subst z;rw[r] at mu;exact mu
 have ntup:∀c xs,H c=some (.tup xs)→c≠x:=fun c xs r z=>by subst z;rw[r] at mu;exact mu
 have nfrz:∀c o u,H c=some (.frz o u)→c≠x:=fun c o u r z=>by subst z;rw[r] at mu;exact mu
 by_cases hb:b=x
 ·subst hb;rw[xM] at q;cases q;exact new
 ·rw[xC hb] at q
  by_cases hbe:b=e
  ·have q':H b=some (.own x):=by
    rcases he with z | z
    ·exact absurd (hbe.trans z) hb
    ·rw[hbe];exact z
   rw[q] at q';cases q'
   obtain⟨v,hv⟩:=heo
   exact⟨v,by rw[hbe];exact hv⟩
  ·refine(ok b u q).stay (fun c v hc r=>k c v ?_ r) (fun c r=>by rw[xC (nown c b r)];exact r) (fun c xs r=>by rw[xC (ntup c xs r)];exact r) fun c o u r=>by rw[xC (nfrz c o u r)];exact r
   rcases hc with rfl | hc
   ·exact hbe
   ·rintro rfl
    rcases he with z | z
    ·exact nown c b hc z
    ·rw[hc] at z;cases z;exact hb rfl
end
structure Un (fs ex:List Addr)(H H':Hp)(h h':Heap):Prop where
 keep:∀b o,h.get? b=some o→H b=none→b∉fs→b∉ex→h'.get? b=some o
 slot:∀b o,h.get? b=some o→H b=none→b∈fs→b∉ex→∃sl,h'.get? b=some { o with slots:=sl }
 free:∀b o,h.get? b=some o→H b=none→b∉ex→H' b=none
 there:∀b o,h.get? b=some o→b∉ex→∃o',h'.get? b=some o'
 tups:∀b xs,H b=some (.tup xs)→H' b=some (.tup xs)
 frzs:∀b o u,H b=some (.frz o u)→H' b=some (.frz o u)
 tbls:∀b ps,H b=some (.tbl ps)→∃more,H' b=some (.tbl (ps++more))
section
variable {fs fs' ex ex':List Addr} {H H1 H2:Hp} {h h1 h2 h':Heap} {a x e:Addr} {o:HO}
theorem Un.any (u:Un fs ex H H1 h h1){b:Addr}{ob:Obj}(q:h.get? b=some ob)(n:H b=none)(hx:b∉ex):∃sl,h1.get? b=some { ob with slots:=sl }:=by
 by_cases hb:b∈fs
 ·exact u.slot b ob q n hb hx
 ·exact⟨ob.slots,u.keep b ob q n hb hx⟩
theorem Un.kept (k:∀b u,h.get? b=some u→h'.get? b=some u):Un fs ex H H h h' :=
 ⟨fun b ob q _ _ _=>k b ob q,fun b ob q _ _ _=>⟨ob.slots,k b ob q⟩,fun _ _ _ n _=>n,fun b ob q _=>⟨ob,k b ob q⟩,fun _ _ q=>q,fun _ _ _ q=>q,fun _ ps q=>⟨#[],by rw[q];simp⟩⟩
theorem Un.refl:Un fs ex H H h h:=Un.kept fun _ _ q=>q
theorem Un.laid (k:∀b u,h.get? b=some u→h'.get? b=some u)(hp:h.objs.size≤a)(hn:H a=none):Un fs ex H (upd H a o) h h' where
 keep:=fun b u q _ _ _=>k b u q
 slot:=fun b u q _ _ _=>⟨u.slots,k b u q⟩
 free:=fun b u q n _=>by rw[xC (xeJ (xeF (Heap.lt_size q) hp))];exact n
 there:=fun b u q _=>⟨u,k b u q⟩
 tups:=fun b xs q=>by rw[xC (xn q hn)];exact q
 frzs:=fun b u xs q=>by rw[xC (xn q hn)];exact q
 tbls:=fun b ps q=>⟨#[],by rw[xC (xn q hn),q];simp⟩
theorem Un.write (mu:Mut (H x))(he:e=x∨H e=some (.own x))(k:∀b u,b≠e→h.get? b=some u→h'.get? b=some u)(heo:∃u,h'.get? e=some u):Un fs ex H (upd H x o) h h':=by
 have hx:∀b,H b=none→b≠x:=fun b n z=>by subst z;rw[n] at mu;exact mu
 have hb:∀b,H b=none→b≠e:=fun b n z=>by
  subst z
  rcases he with r | r
  ·exact hx b n r
  ·rw[n] at r;cases r
 have hm:∀b u,H b=some u→¬Mut (some u)→b≠x:=fun b u q nm z=>by subst z;rw[q] at mu;exact nm mu
 refine⟨fun b u q n _ _=>k b u (hb b n) q,fun b u q n _ _=>⟨u.slots,k b u (hb b n) q⟩,fun b u q n _=>by rw[xC (hx b n)];exact n,fun b u q _=>?_,
  fun b xs q=>by rw[xC (hm b _ q fun z=>z)];exact q,fun b u xs q=>by rw[xC (hm b _ q fun z=>z)];exact q,fun b ps q=>⟨#[],by rw[xC (hm b _ q fun z=>z),q];simp⟩⟩
 by_cases hbe:b=e
 ·subst hbe;exact heo
 ·exact⟨u,k b u hbe q⟩
end
def trk (h:Heap)(H:Hp):List Addr:=(List.range h.objs.size).filter fun a=>(H a).isSome
def cA (h:Heap)(H:Hp):Heap:=PySem.W.hideAll h (trk h H)
theorem nu (h:Heap)(H:Hp):(cA h H).objs.size=h.objs.size:=PySem.W.hideAll_size _ _
theorem cD {h:Heap}{H:Hp}{b:Addr}{o:Obj}(e:h.get? b=some o)(n:H b=none):(cA h H).get? b=some o :=
 PySem.W.hideAll_get _ e fun hm=>by
  have q:(H b).isSome=true:=(xef.mp hm).2
  rw[n] at q;simp at q
theorem lC {h:Heap}{H:Hp}{b:Addr}{o:Obj}(e:(cA h H).get? b=some o):h.get? b=some o∧H b=none:=by
 have e':h.get? b=some o:=PySem.W.of_hideAll (trk h H) e
 refine⟨e',?_⟩
 cases q:H b with
 | none=>rfl
 | some x =>
  have hm:b∈trk h H:=xef.mpr ⟨xek.mpr (Heap.lt_size e'),by simp[q]⟩
  have z:(cA h H).get? b=none:=PySem.W.hideAll_none (trk h H) hm
  rw[z] at e;cases e
def ot (g h:Heap)(L:Addr):List (Addr×Obj):=(List.range h.objs.size).filterMap fun a=>if a=L∨(g.get? a).isSome=true then none else(h.get? a).map fun o=>(a,o)
def rest (g h:Heap)(L d:Addr):List (Addr×Obj):=(ot g h L).filter fun p=>decide (p.1≠d)
end L2
namespace L2
open PySem PySem.Spec PyProof.Rows
structure Mod (K:PySem.W.Frag)(mg:Str→Option Value)(base:Heap):Prop where
 kin:K.In base
 glob:base.Ns mainGlobals mg
 blt:∃mb,base.Ns builtinsNs mb∧∀x:Str,x ≠ "__name__" → mb x=bootBuiltins x
 nolimit:base.NoLimit
structure Cx where
 prog:Program
 w:World
 K:PySem.W.Frag
 mg:Str→Option Value
 base:Heap
 A:Around
 N:List Str
 s₀:Shared
 H₀:Hp
 env:Env
 outer:List Env
 stack:List Env
 ex:List Addr
 fn:Str→Bool
 calm:Bool
 pn:List (Addr×Obj)
 xe:Value→Shared→Prop
def frs (l:List Env):List Addr:=l.filterMap (·.frame)
abbrev Cx.fs (X:Cx):List Addr:=frs X.outer
def Vis (sc:Scope)(x:Str):Prop:=sc.names.lookup x=some .local∨sc.names.lookup x=some .cell∨sc.names.lookup x=some .free
def Loc (sc:Scope)(x:Str):Prop:=sc.names.lookup x=some .local∨sc.names.lookup x=some .cell
def Look (env:Env)(h:Heap)(m:Str→Option Value)(x:Str)(u:Value):Prop :=
 (env.kindOf x=some .local∧m x=some u)∨((env.kindOf x=some .cell∨env.kindOf x=some .free)∧∃c,env.cells.lookup x=some c∧h.IsCell c (some u))
structure Cx.Ok (X:Cx):Prop where
 mod:Mod X.K X.mg X.base
 kind:X.env.scope.kind=.function
 glob:X.env.globals=mainGlobals
 blt:X.env.builtins=builtinsNs
 above:X.s₀.heap.objs.size≤X.env.locals
 inj:∀x y c,X.env.cells.lookup x=some c→X.env.cells.lookup y=some c→x=y
 has:∀x,(X.env.kindOf x=some .cell∨X.env.kindOf x=some .free)→∃c,X.env.cells.lookup x=some c
 cab:∀x c,X.fn x=true→X.env.cells.lookup x=some c→X.s₀.heap.objs.size≤c
 hd:X.calm=true→X.A.handled=none
 frames:X.A.frames=some X.stack
 stk:X.stack=X.outer∨(X.stack=X.env::X.outer∧X.env.frame=some X.env.locals)
 exf:∀b∈X.ex,b≠X.env.locals∧∀x c,X.env.cells.lookup x=some c→c≠b
 bs:∀b o,X.base.get? b=some o→X.s₀.heap.get? b=some o∧X.H₀ b=none
 bsz:X.base.objs.size≤X.s₀.heap.objs.size
 noex:∀b o,X.base.get? b=some o→b∉X.ex
 exfs:∀b∈X.ex,b∉X.fs
 funs:X.s₀.heap.FunFrames X.base X.outer
 frf:∀b∈X.fs,X.H₀ b=none
structure Inv (X:Cx)(pins:List (Addr×Obj))(σ:List (Option V))(H:Hp)(s:Shared):Prop where
 ok:X.Ok
 os:s.os=X.s₀.os
 bare:AllBare s.gens
 base:Un X.fs X.ex X.H₀ H X.s₀.heap s.heap
 loc:∃m,s.heap.Ns X.env.locals m∧∀(i:Nat) (x:Str) (v:V),X.N[i]? = some x→σ[i]? = some (some v)→Vis X.env.scope x→∃u,RelV v u∧Look X.env s.heap m x u
 cell:∀x c,X.env.cells.lookup x=some c→∃v,s.heap.IsCell c v
 free:H X.env.locals=none
 freeC:∀x c,X.env.cells.lookup x=some c→H c=none
 pin:∀p∈X.pn++pins,s.heap.get? p.1=some p.2∧H p.1=none∧p.1≠X.env.locals∧p.1∉X.fs∧∀v,p.2.data≠.cell v
 hok:HOk X.prog X.w H s.heap
 len:σ.length=X.N.length
section
variable {X:Cx} {pins:List (Addr×Obj)} {σ:List (Option V)} {H H':Hp} {s:Shared} {h':Heap}
theorem Cx.Ok.nofr (ok:X.Ok){b:Addr}{o:Obj}(e:X.base.get? b=some o):b∉X.fs:=fun hb=>by
 have:=(ok.funs.mem hb).1
 rw[e] at this;cases this
theorem Inv.bs (I:Inv X pins σ H s):∀b o,X.base.get? b=some o→s.heap.get? b=some o∧H b=none:=fun b o e =>
 ⟨I.base.keep b o (I.ok.bs b o e).1 (I.ok.bs b o e).2 (I.ok.nofr e) (I.ok.noex b o e),I.base.free b o (I.ok.bs b o e).1 (I.ok.bs b o e).2 (I.ok.noex b o e)⟩
theorem Inv.bk (I:Inv X pins σ H s):∀b o,X.base.get? b=some o→s.heap.get? b=some o:=fun b o e=>(I.bs b o e).1
theorem Inv.mod (I:Inv X pins σ H s):Mod X.K X.mg X.base:=I.ok.mod
theorem Inv.kIn (I:Inv X pins σ H s):X.K.In s.heap:=I.ok.mod.kin.keeps I.bk
theorem Inv.lt (I:Inv X pins σ H s):X.env.locals<s.heap.objs.size:=let ⟨_,hn,_⟩:=I.loc;hn.lt
theorem Inv.sz (I:Inv X pins σ H s):X.s₀.heap.objs.size≤s.heap.objs.size:=xeC I.ok.above (xez I.lt)
theorem Inv.nofs (I:Inv X pins σ H s){a:Addr}(h:s.heap.objs.size≤a):a∉X.fs:=fun hb=>by
 obtain⟨_,o,ho,_⟩:=I.ok.funs.mem hb
 exact absurd (xeF (Heap.lt_size ho) (xeC I.sz h)) (xeD _)
theorem Inv.cne (I:Inv X pins σ H s):∀x c,X.env.cells.lookup x=some c→c≠X.env.locals:=fun x c e z=>by
 obtain⟨v,o,ho,hd⟩:=I.cell x c e
 obtain⟨m,⟨o',es,ep,ho',hd',_⟩,_⟩:=I.loc
 rw[z,ho'] at ho;cases ho;rw[hd'] at hd;cases hd
theorem Inv.funs (I:Inv X pins σ H s):s.heap.FunFrames X.base X.outer:=by
 have all:∀(l:List Env),(∀b∈frs l,b∈X.fs)→X.s₀.heap.FunFrames X.base l→s.heap.FunFrames X.base l:=by
  intro l
  induction l with
  | nil=>intro _ _;trivial
  | cons env r ih =>
   intro hs hl
   obtain⟨hk,⟨L,o,hf,hn,ho,hd⟩,hr⟩:=hl
   have hL:L∈X.fs:=hs L (by unfold frs;rw[xdE,hf];exact xee)
   obtain⟨sl,e⟩:=I.base.slot L o ho (I.ok.frf L hL) hL fun z=>I.ok.exfs L z hL
   exact⟨hk,⟨L,_,hf,hn,e,hd⟩,ih (fun b hb=>hs b (by unfold frs;rw[xdE,hf];exact xed _ hb)) hr⟩
 exact all X.outer (fun _ hb=>hb) I.ok.funs
theorem Inv.stack (I:Inv X pins σ H s):s.heap.FunFrames X.base X.stack:=by
 rcases I.ok.stk with e | ⟨e,hf⟩
 ·rw[e];exact I.funs
 ·rw[e]
  obtain⟨m,hn,_⟩:=I.loc
  refine .cons (by rw[I.ok.kind];decide) hf hn ?_ I.funs
  exact Heap.get?_none_of_le (xeC I.ok.bsz I.ok.above)
theorem Inv.stkSub (I:Inv X pins σ H s):∀b∈frs X.stack,b∈X.env.locals::X.fs:=fun b hb=>by
 rcases I.ok.stk with e | ⟨e,hf⟩
 ·rw[e] at hb;exact xed _ hb
 ·rw[e] at hb
  unfold frs at hb
  rw[xdE,hf] at hb
  exact hb
theorem Inv.stkFree (I:Inv X pins σ H s):∀b∈frs X.stack,H b=none:=fun b hb=>by
 rcases xec.mp (I.stkSub b hb) with e | hb
 ·rw[e];exact I.free
 ·obtain⟨_,o,ho,_⟩:=I.ok.funs.mem hb
  exact I.base.free b o ho (I.ok.frf b hb) fun z=>I.ok.exfs b z hb
theorem Inv.step {g':Array GenState}{t':Nat}{d':Drawn}{ch:List Addr}(I:Inv X pins σ H s)
  (hch:∀b∈ch,(b∈X.ex∨X.s₀.heap.objs.size≤b)∧b≠X.env.locals∧(∀x c,X.env.cells.lookup x=some c→c≠b)∧∀p∈X.pn++pins,p.1≠b)
  (keep:∀b o,b≠X.env.locals→b∉X.fs→b∉ch→s.heap.get? b=some o→H b=none→h'.get? b=some o)
  (slot:∀b o,b≠X.env.locals→b∈X.fs→b∉ch→s.heap.get? b=some o→H b=none→∃sl,h'.get? b=some { o with slots:=sl }) (free:∀b o,b∉ch→s.heap.get? b=some o→H b=none→H' b=none)
  (there:∀b o,b∉ch→s.heap.get? b=some o→∃o',h'.get? b=some o')
  (tups:∀b xs,H b=some (.tup xs)→H' b=some (.tup xs)) (frzs:∀b o u,H b=some (.frz o u)→H' b=some (.frz o u)) (tbls:∀b ps,H b=some (.tbl ps)→∃more,H' b=some (.tbl (ps++more)))
  (ns:∀m,s.heap.Ns X.env.locals m→h'.Ns X.env.locals m) (hok:HOk X.prog X.w H' h') (hg:AllBare g') :
  Inv X pins σ H' { s with heap:=h',gens:=g',drawn:=d',toks:=t' }:=by
 have neL:∀b o,X.s₀.heap.get? b=some o→b≠X.env.locals:=fun b o e=>xeJ (xeF (Heap.lt_size e) I.ok.above)
 have neC:∀b o,X.s₀.heap.get? b=some o→b∉X.ex→b∉ch:=fun b o e hx hb=>by
  rcases(hch b hb).1 with z | z
  ·exact hx z
  ·exact absurd (xeF (Heap.lt_size e) z) (xeD _)
 have cellK:∀x c,X.env.cells.lookup x=some c→∀v,s.heap.IsCell c v→h'.IsCell c v:=fun x c e v ⟨o,ho,hd⟩=>by
  have nch:c∉ch:=fun z=>(hch c z).2.2.1 x c e rfl
  by_cases hc:c∈X.fs
  ·obtain⟨sl,q⟩:=slot c o (I.cne x c e) hc nch ho (I.freeC x c e)
   exact⟨_,q,hd⟩
  ·exact⟨o,keep c o (I.cne x c e) hc nch ho (I.freeC x c e),hd⟩
 refine⟨I.ok,I.os,hg,⟨fun b o e n hb hx=>?_,fun b o e n hb hx=>?_,fun b o e n hx=>?_,fun b o e hx=>?_,fun b xs e=>tups b xs (I.base.tups b xs e),fun b o xs e=>frzs b o xs (I.base.frzs b o xs e),fun b ps e=>?_⟩,?_,fun x c e=>?_,?_,fun x c e=>?_,fun p hp=>?_,hok,I.len⟩
 ·exact keep b o (neL b o e) hb (neC b o e hx) (I.base.keep b o e n hb hx) (I.base.free b o e n hx)
 ·obtain⟨sl,e1⟩:=I.base.slot b o e n hb hx
  obtain⟨sl',e2⟩:=slot b _ (neL b o e) hb (neC b o e hx) e1 (I.base.free b o e n hx)
  exact⟨sl',e2⟩
 ·obtain⟨o',e1⟩:=I.base.there b o e hx
  exact free b o' (neC b o e hx) e1 (I.base.free b o e n hx)
 ·obtain⟨o',e1⟩:=I.base.there b o e hx
  exact there b o' (neC b o e hx) e1
 ·obtain⟨m1,e1⟩:=I.base.tbls b ps e
  obtain⟨m2,e2⟩:=tbls b _ e1
  exact⟨m1++m2,by rw[e2,Array.append_assoc]⟩
 ·obtain⟨m,hn,hl⟩:=I.loc
  refine⟨m,ns m hn,fun i x v e1 e2 e3=>?_⟩
  obtain⟨u,r,l⟩:=hl i x v e1 e2 e3
  refine⟨u,r,?_⟩
  rcases l with l | ⟨k,c,e,z⟩
  ·exact .inl l
  ·exact .inr ⟨k,c,e,cellK x c e _ z⟩
 ·obtain⟨v,z⟩:=I.cell x c e
  exact⟨v,cellK x c e v z⟩
 ·obtain⟨m,⟨o,_,_,ho,_⟩,_⟩:=I.loc
  exact free _ o (fun z=>(hch _ z).2.1 rfl) ho I.free
 ·obtain⟨v,o,ho,hd⟩:=I.cell x c e
  exact free c o (fun z=>(hch c z).2.2.1 x c e rfl) ho (I.freeC x c e)
 ·obtain⟨e,n,ne,nf,d⟩:=I.pin p hp
  have nch:p.1∉ch:=fun z=>(hch p.1 z).2.2.2 p hp rfl
  exact⟨keep p.1 p.2 ne nf nch e n,free p.1 p.2 nch e n,ne,nf,d⟩
theorem Inv.un {t':Nat}(I:Inv X pins σ H s)(u:Un X.fs [] H H' s.heap h')(hok:HOk X.prog X.w H' h'):Inv X pins σ H' { s with heap:=h',toks:=t' }:=by
 obtain⟨m,⟨o,es,ep,ho,r⟩,_⟩:=id I.loc
 obtain⟨sl,hL⟩:=u.any ho I.free (by simp)
 exact I.step (g':=s.gens) (d':=s.drawn) (ch:=[]) (fun _ z=>nomatch z) (fun b o _ hb _ e n=>u.keep b o e n hb (by simp)) (fun b o _ hb _ e n=>u.slot b o e n hb (by simp)) (fun b o _ e n=>u.free b o e n (by simp)) (fun b o _ e=>u.there b o e (by simp)) u.tups u.frzs u.tbls (fun m' hm=>by
  obtain⟨o',es',ep',ho',r'⟩:=hm
  rw[ho] at ho';cases ho'
  exact⟨_,es',ep',hL,r'⟩) hok I.bare
theorem Inv.call {g':Array GenState}{t':Nat}{d':Drawn}{ch:List Addr}(I:Inv X pins σ H s)(u:Un (frs X.stack) ch H H' s.heap h')(hok:HOk X.prog X.w H' h')(hg:AllBare g')
  (hch:∀b∈ch,(b∈X.ex∨X.s₀.heap.objs.size≤b)∧b≠X.env.locals∧(∀x c,X.env.cells.lookup x=some c→c≠b)∧∀p∈X.pn++pins,p.1≠b) :
  Inv X pins σ H' { s with heap:=h',gens:=g',drawn:=d',toks:=t' }:=by
 obtain⟨m,⟨o,es,ep,ho,r⟩,_⟩:=id I.loc
 obtain⟨sl,hL⟩:=u.any ho I.free fun z=>(hch _ z).2.1 rfl
 exact I.step (ch:=ch) hch (fun b o hL hb hc e n=>u.keep b o e n (fun z=>(xec.mp (I.stkSub b z)).elim hL hb) hc) (fun b o _ _ hc e n=>u.any e n hc) (fun b o hc e n=>u.free b o e n hc) (fun b o hc e=>u.there b o e hc) u.tups u.frzs u.tbls (fun m' hm=>by
  obtain⟨o',es',ep',ho',r'⟩:=hm
  rw[ho] at ho';cases ho'
  exact⟨_,es',ep',hL,r'⟩) hok hg
theorem Inv.turned {t':Nat}{it:Addr}(I:Inv X pins σ H s)(k:∀b o,b≠it→s.heap.get? b=some o→h'.get? b=some o)(hn:H it=none)(hL:it≠X.env.locals)
  (h1:it∈X.ex∨X.s₀.heap.objs.size≤it) (h2:∀x c,X.env.cells.lookup x=some c→c≠it) (h3:∀p∈X.pn++pins,p.1≠it):Inv X pins σ H { s with heap:=h',toks:=t' }:=by
 have nit:∀b u,H b=some u→b≠it:=fun b u e z=>by rw[z,hn] at e;cases e
 refine I.step (g':=s.gens) (d':=s.drawn) (ch:=[it]) (fun b hb=>?_) (fun b o _ _ hc e _=>k b o (fun z=>hc (by simp[z])) e) (fun b o _ _ hc e _=>⟨o.slots,k b o (fun z=>hc (by simp[z])) e⟩) (fun _ _ _ _ n=>n)
  (fun b o hc e=>⟨o,k b o (fun z=>hc (by simp[z])) e⟩) (fun _ _ e=>e) (fun _ _ _ e=>e) (fun b ps e=>⟨#[],by rw[e];simp⟩) (fun m hm=>?_) (fun b u e=>?_) I.bare
 ·have e:b=it:=by simpa using hb
  subst e
  exact⟨h1,hL,h2,h3⟩
 ·obtain⟨o,es,ep,ho,r⟩:=hm
  exact⟨o,es,ep,k _ o (Ne.symm hL) ho,r⟩
 ·refine(I.hok b u e).stay (fun c v hc q=>k c v ?_ q) (fun _ q=>q) (fun _ _ q=>q) fun _ _ _ q=>q
  rcases hc with z | z
  ·rw[z];exact nit b u e
  ·exact nit c _ z
theorem Inv.tok (I:Inv X pins σ H s)(t:Nat):Inv X pins σ H { s with toks:=t }:=I.un (h':=s.heap) (t':=t) Un.refl I.hok
theorem Inv.kept {t':Nat}(I:Inv X pins σ H s)(k:∀b u,s.heap.get? b=some u→h'.get? b=some u):Inv X pins σ H { s with heap:=h',toks:=t' }:=I.un (Un.kept k) (I.hok.kept k)
theorem Inv.laid {a:Addr}{o:HO}{t':Nat}(I:Inv X pins σ H s)(k:∀b u,s.heap.get? b=some u→h'.get? b=some u)(hp:s.heap.objs.size≤a)(new:zI X.prog X.w (upd H a o) h' a o) :
  Inv X pins σ (upd H a o) { s with heap:=h',toks:=t' }:=I.un (Un.laid k hp (I.hok.fresh hp)) (I.hok.laid k hp new)
theorem Inv.write {x e:Addr}{o:HO}{t':Nat}(I:Inv X pins σ H s)(mu:Mut (H x))(he:e=x∨H e=some (.own x))(k:∀b u,b≠e→s.heap.get? b=some u→h'.get? b=some u)(heo:∃u,h'.get? e=some u)
  (new:zI X.prog X.w (upd H x o) h' x o):Inv X pins σ (upd H x o) { s with heap:=h',toks:=t' }:=I.un (Un.write mu he k heo) (I.hok.write mu he k heo new)
theorem Inv.weak {σ':List (Option V)}(I:Inv X pins σ H s)(hl:σ'.length=σ.length)(w:∀(i:Nat) v,σ'[i]? = some (some v)→σ[i]? = some (some v)):Inv X pins σ' H s :=
 ⟨I.ok,I.os,I.bare,I.base,let ⟨m,hn,hl'⟩:=I.loc;⟨m,hn,fun i x v e1 e2 e3=>hl' i x v e1 (w i v e2) e3⟩,I.cell,I.free,I.freeC,I.pin,I.hok,hl.trans I.len⟩
theorem Inv.pins_of {pins':List (Addr×Obj)}(I:Inv X pins σ H s)(h:∀p∈pins',s.heap.get? p.1=some p.2∧H p.1=none∧p.1≠X.env.locals∧p.1∉X.fs∧∀v,p.2.data≠.cell v):Inv X pins' σ H s :=
 ⟨I.ok,I.os,I.bare,I.base,I.loc,I.cell,I.free,I.freeC,fun p hp=>(xd_.mp hp).elim (fun z=>I.pin p (xea _ z)) (h p),I.hok,I.len⟩
theorem aI {N:List Str}(hN:N.Nodup){i j:Nat}{x:Str}(a:N[i]? = some x)(b:N[j]? = some x):i=j:=by
 obtain⟨h1,e1⟩:=xdQ.mp a
 obtain⟨h2,e2⟩:=xdQ.mp b
 exact(List.getElem_inj hN).mp (e1.trans e2.symm)
theorem fQ {M:Model}{A:Around}{E:Value→Shared→Prop}{i:Nat}{x:Str}{v:V}{u:Value}{Q:Unit→Shared→Prop}(I:Inv X pins σ H s)(hN:X.N.Nodup)(hi:X.N[i]? = some x)(hx:Loc X.env.scope x)(r:RelV v u)
  (h:∀s',Inv X pins (σ.set i (some v)) H s'→(∃a,Heap.SameBut a s.heap s'.heap∧(a=X.env.locals∨X.env.cells.lookup x=some a))→Q () s') (hf:X.fn x=true∨X.env.scope.names.lookup x=some .local:=by first | exact .inl rfl | exact .inr rfl | assumption):wpAny M A (storeName X.env x u) Q E s:=by
 obtain⟨m,hn,hl⟩:=id I.loc
 have hcls:(X.env.scope.kind == .class || (X.env.scope.kind == .module&&X.env.locals != X.env.globals))=false:=by rw[I.ok.kind];rfl
 have hiσ:i<σ.length:=by rw[I.len];exact(xdQ.mp hi).1
 have cne:=I.cne
 have tracked:∀ {a:Addr} {h':Heap},(∃o,s.heap.get? a=some o∧H a=none)→Heap.SameBut a s.heap h'→HOk X.prog X.w H h':=fun {a h'} ha hs b ob e=>by
  obtain⟨_,_,hfree⟩:=ha
  refine(I.hok b ob e).stay (fun c w' hc q=>(hs.2 c ?_).trans q) (fun _ q=>q) (fun _ _ q=>q) fun _ _ _ q=>q
  rintro rfl
  rcases hc with rfl | hc
  ·rw[hfree] at e;cases e
  ·rw[hfree] at hc;cases hc
 rcases hx with hk | hk
 ·refine wpAny_storeName_local hk hn (fun h' hn' hs=>?_) hcls
  obtain⟨oL,_,_,hoL,_⟩:=id hn
  refine h _ ⟨I.ok,I.os,I.bare,⟨fun b o e n hb hx=>?_,fun b o e n hb hx=>?_,I.base.free,fun b o e hx=>?_,I.base.tups,I.base.frzs,I.base.tbls⟩,⟨_,hn',fun j y v' e1 e2 e3=>?_⟩,fun y c e=>?_,I.free,I.freeC,fun p hp=>?_,tracked ⟨oL,hoL,I.free⟩ hs,by simpa using I.len⟩ ⟨_,hs,.inl rfl⟩
  ·exact(hs.2 b (xeJ (xeF (Heap.lt_size e) I.ok.above))).trans (I.base.keep b o e n hb hx)
  ·obtain⟨sl,e1⟩:=I.base.slot b o e n hb hx
   exact⟨sl,(hs.2 b (xeJ (xeF (Heap.lt_size e) I.ok.above))).trans e1⟩
  ·obtain⟨o',e1⟩:=I.base.there b o e hx
   exact⟨o',(hs.2 b (xeJ (xeF (Heap.lt_size e) I.ok.above))).trans e1⟩
  ·by_cases hj:j=i
   ·subst hj
    rw[hi] at e1;cases e1
    rw[xdT hiσ] at e2
    cases e2
    exact⟨u,r,.inl ⟨hk,by simp⟩⟩
   ·rw[xdS (Ne.symm hj)] at e2
    obtain⟨u',r',q⟩:=hl j y v' e1 e2 e3
    refine⟨u',r',?_⟩
    rcases q with ⟨k,e⟩ | ⟨k,c,e,z⟩
    ·refine .inl ⟨k,?_⟩
     have:y≠x:=fun e=>hj (aI hN e1 (e▸hi))
     simp[this,e]
    ·exact .inr ⟨k,c,e,z.sameBut hs (cne y c e)⟩
  ·obtain⟨w',z⟩:=I.cell y c e
   exact⟨w',z.sameBut hs (cne y c e)⟩
  ·obtain⟨e,n,ne,nf,d⟩:=I.pin p hp
   exact⟨(hs.2 p.1 ne).trans e,n,ne,nf,d⟩
 ·have hfn:X.fn x=true:=by
   rcases hf with z | z
   ·exact z
   ·rw[z] at hk;cases hk
  obtain⟨c,hc⟩:=I.ok.has x (.inl hk)
  obtain⟨w',z⟩:=I.cell x c hc
  refine wpAny_storeName_cell I.ok.kind hk hc z (fun h' hc' hs=>?_)
  obtain⟨oc,hoc,hocd⟩:=id z
  refine h { s with heap:=h' } ⟨I.ok,I.os,I.bare,⟨fun b o e n hb hx=>?_,fun b o e n hb hx=>?_,I.base.free,fun b o e hx=>?_,I.base.tups,I.base.frzs,I.base.tbls⟩,⟨m,hn.sameBut hs (Ne.symm (cne x c hc)),fun j y v' e1 e2 e3=>?_⟩,fun y c' e=>?_,I.free,I.freeC,fun p hp=>?_,tracked ⟨oc,hoc,I.freeC x c hc⟩ hs,by simpa using I.len⟩ ⟨c,hs,.inr hc⟩
  ·exact(hs.2 b (xeJ (xeF (Heap.lt_size e) (I.ok.cab x c hfn hc)))).trans (I.base.keep b o e n hb hx)
  ·obtain⟨sl,e1⟩:=I.base.slot b o e n hb hx
   exact⟨sl,(hs.2 b (xeJ (xeF (Heap.lt_size e) (I.ok.cab x c hfn hc)))).trans e1⟩
  ·obtain⟨o',e1⟩:=I.base.there b o e hx
   exact⟨o',(hs.2 b (xeJ (xeF (Heap.lt_size e) (I.ok.cab x c hfn hc)))).trans e1⟩
  ·by_cases hj:j=i
   ·subst hj
    rw[hi] at e1;cases e1
    rw[xdT hiσ] at e2
    cases e2
    exact⟨u,r,.inr ⟨.inl hk,c,hc,hc'⟩⟩
   ·rw[xdS (Ne.symm hj)] at e2
    obtain⟨u',r',q⟩:=hl j y v' e1 e2 e3
    refine⟨u',r',?_⟩
    rcases q with q | ⟨k,c',e,z'⟩
    ·exact .inl q
    ·refine .inr ⟨k,c',e,z'.sameBut hs ?_⟩
     rintro rfl
     exact hj (aI hN e1 (I.ok.inj _ _ _ e hc▸hi))
  ·by_cases hcc:c'=c
   ·subst hcc;exact⟨_,hc'⟩
   ·obtain⟨w2,z2⟩:=I.cell y c' e
    exact⟨w2,z2.sameBut hs hcc⟩
  ·obtain⟨e,n,ne,nf,d⟩:=I.pin p hp
   refine⟨(hs.2 p.1 ?_).trans e,n,ne,nf,d⟩
   intro q
   rw[q,hoc] at e
   have q':oc=p.2:=xeN e
   exact d w' (by rw[←q'];exact hocd)
theorem kU {M:Model}{A:Around}{E:Value→Shared→Prop}{i:Nat}{x:Str}{v:V}{u:Value}{Q:Unit→Shared→Prop}(I:Inv X pins σ H s)(hN:X.N.Nodup)(hi:X.N[i]? = some x)(hx:Loc X.env.scope x)(r:RelV v u)
  (h:∀s',Inv X pins (σ.set i (some v)) H s'→Q () s') (hf:X.fn x=true∨X.env.scope.names.lookup x=some .local:=by first | exact .inl rfl | exact .inr rfl | assumption):wpAny M A (storeName X.env x u) Q E s :=
 fQ I hN hi hx r (fun s' I' _=>h s' I') hf
theorem Inv.call' {s':Shared}{ch:List Addr}(I:Inv X pins σ H s)(ho:s'.os=s.os)(u:Un (frs X.stack) ch H H' s.heap s'.heap)(hok:HOk X.prog X.w H' s'.heap)(hg:AllBare s'.gens)
  (hch:∀b∈ch,(b∈X.ex∨X.s₀.heap.objs.size≤b)∧b≠X.env.locals∧(∀x c,X.env.cells.lookup x=some c→c≠b)∧∀p∈X.pn++pins,p.1≠b):Inv X pins σ H' s':=by
 obtain⟨h',g',d',t',o'⟩:=s'
 have e:o'=s.os:=ho
 subst e
 exact I.call (g':=g') (t':=t') (d':=d') u hok hg hch
end
abbrev XK:=Value→Option Addr→Hp→Prop
abbrev St:=List (Option V)
abbrev VK:=V→Hp→Prop
abbrev TE:=St→Hp→VK→Prop
abbrev TT:=St→Hp→(Bool→Hp→Prop)→Prop
abbrev TA:=St→Hp→(List V→Hp→Prop)→Prop
structure Ends where
 nx:St→Hp→Prop
 rt:VK
 bk:St→Hp→Prop:=fun _ _=>False
 ct:St→Hp→Prop:=fun _ _=>False
abbrev TS:=Ends→St→Hp→Prop
def EP (X:Cx)(pins:List (Addr×Obj))(σ:St)(Q:VK)(u:Value)(s':Shared):Prop:=∃v H',Inv X pins σ H' s'∧RelV v u∧Q v H'
def TP (X:Cx)(pins:List (Addr×Obj))(σ:St)(Q:Bool→Hp→Prop)(b:Bool)(s':Shared):Prop:=∃H',Inv X pins σ H' s'∧Q b H'
def AP (X:Cx)(pins:List (Addr×Obj))(σ:St)(Q:List V→Hp→Prop)(us:List Value)(s':Shared):Prop:=∃vs H',Inv X pins σ H' s'∧yy vs us∧Q vs H'
def SP (X:Cx)(pins:List (Addr×Obj))(D:Ends)(f:Flow)(s':Shared):Prop :=
 match f with
 | .next=>∃ σ' H',Inv X pins σ' H' s'∧D.nx σ' H'
 | .brk=>∃ σ' H',Inv X pins σ' H' s'∧D.bk σ' H'
 | .cont=>∃ σ' H',Inv X pins σ' H' s'∧D.ct σ' H'
 | .ret u=>∃v σ' H',Inv X pins σ' H' s'∧RelV v u∧D.rt v H'
def PE (X:Cx)(e:Expr)(t:TE):Prop :=
 ∀ ⦃pins:List (Addr×Obj)⦄ (s:Shared) (σ:St) (H:Hp) (Q:VK),Inv X pins σ H s→t σ H Q→wpAny (model X.prog X.w) X.A (eval e X.env) (EP X pins σ Q) X.xe s
def PT (X:Cx)(e:Expr)(t:TT):Prop :=
 ∀ ⦃pins:List (Addr×Obj)⦄ (s:Shared) (σ:St) (H:Hp) (Q:Bool→Hp→Prop),Inv X pins σ H s→t σ H Q→wpAny (model X.prog X.w) X.A (isTrue e X.env (eval e X.env)) (TP X pins σ Q) X.xe s
def PW (X:Cx)(e:Expr)(t:TT):Prop :=
 ∀ ⦃whole:Sem Value⦄ (pins:List (Addr×Obj)) (s:Shared) (σ:St) (H:Hp) (Q:Bool→Hp→Prop),Inv X pins σ H s→t σ H Q→wpAny (model X.prog X.w) X.A (isTrue e X.env whole) (TP X pins σ Q) X.xe s
theorem PW.pt {X:Cx}{e:Expr}{t:TT}(h:PW X e t):PT X e t:=@h _
def PA (X:Cx)(es:List Expr)(t:TA):Prop :=
 ∀ ⦃pos:Pos⦄ (pins:List (Addr×Obj)) (s:Shared) (σ:St) (H:Hp) (Q:List V→Hp→Prop),Inv X pins σ H s→t σ H Q→wpAny (model X.prog X.w) X.A (spliced (backTo pos (starEach es X.env))) (AP X pins σ Q) X.xe s
def PS (X:Cx)(st:Stmt)(t:TS):Prop :=
 ∀ ⦃pins:List (Addr×Obj)⦄ (s:Shared) (σ:St) (H:Hp) (D:Ends),Inv X pins σ H s→t D σ H→wpAny (model X.prog X.w) X.A (exec st X.env) (SP X pins D) X.xe s
def PSs (X:Cx)(st:List Stmt)(t:TS):Prop :=
 ∀ ⦃pins:List (Addr×Obj)⦄ (s:Shared) (σ:St) (H:Hp) (D:Ends),Inv X pins σ H s→t D σ H→wpAny (model X.prog X.w) X.A (execs st X.env) (SP X pins D) X.xe s
theorem thn {α:Type}{t:Sem α}{Q Q':α→Shared→Prop}{M:Model}{A:Around}{E:Value→Shared→Prop}{s:Shared}(h:wpAny M A t Q E s)(hQ:∀a s,Q a s→Q' a s):wpAny M A t Q' E s:=wpAny_mono h hQ fun _ _ x=>x
end L2
namespace L2
open PySem PySem.Spec PyProof.Rows
section
variable {X:Cx}
def fb (i:Nat):TE:=fun σ H Q=>∃v,σ[i]? = some (some v)∧Q v H
def tC (v:V):TE:=fun _ H Q=>Q v H
theorem l5 {i:Nat}{x:Str}{pos:Pos}(hN:X.N[i]? = some x)(hv:Vis X.env.scope x)(hd:(x == ("__debug__" : Str))=false:=by decide)(hcd:(x == ("__classdict__" : Str))=false:=by decide):PE X (.Name x pos) (fb i):=by
 intro pins s σ H Q I h
 obtain⟨v,e,h⟩:=h
 obtain⟨m,hn,hl⟩:=I.loc
 obtain⟨u,r,l⟩:=hl i x v hN e hv
 have fin:EP X pins σ Q u s:=⟨v,H,I,r,h⟩
 rcases l with ⟨hk,hm⟩ | ⟨hk,c,hc,hcell⟩
 ·exact wpAny_Name (wpAny_loadName_local I.ok.kind hk hn hm fin) hd
 ·rcases hk with hk | hk
  ·exact wpAny_Name (wpAny_loadName_cell I.ok.kind hk hc hcell fin) hd
  ·exact wpAny_Name (wpAny_loadName_free I.ok.kind hk hc hcell fin hcd) hd
theorem xc {i j pos}:PE X (.Constant (.int i) j pos) (tC (.int i)):=fun _ _ _ H _ I h=>wpAny_Constant_int ⟨.int i,H,I.tok _,⟨_,rfl⟩,h⟩
theorem qh {b j pos}:PE X (.Constant (.bool b) j pos) (tC (.bl b)):=fun _ _ _ H _ I h=>Constant_bool ⟨.bl b,H,I,rfl,h⟩
theorem xaA {j pos}:PE X (.Constant .none j pos) (tC .non):=fun _ _ _ H _ I h=>Constant_none ⟨.non,H,I,rfl,h⟩
def Gl (X:Cx)(x:Str):Prop:=X.env.kindOf x=some .globalImplicit
theorem m7 {E:Value→Shared→Prop}{pins:List (Addr×Obj)}{s:Shared}{σ:St}{H:Hp}{x:Str}{u:Value}{pos:Pos}{Q:Value→Shared→Prop}(I:Inv X pins σ H s)(hg:Gl X x)(hm:X.mg x=some u)(h:Q u s)
  (hd:(x == ("__debug__" : Str))=false:=by decide):wpAny (model X.prog X.w) X.A (eval (.Name x pos) X.env) Q E s :=
 Calls.Name_function_global I.ok.kind hg (Calls.loadGlobal_global (by rw[I.ok.glob];exact I.mod.glob.keeps I.bk) hm h) hd
theorem jd {E:Value→Shared→Prop}{pins:List (Addr×Obj)}{s:Shared}{σ:St}{H:Hp}{x:Str}{u:Value}{pos:Pos}{Q:Value→Shared→Prop}(I:Inv X pins σ H s)(hg:Gl X x)(hm:X.mg x=none)(hv:bootBuiltins x=some u)(h:Q u s)
  (hn:x ≠ "__name__" := by decide) (hd:(x == ("__debug__" : Str))=false:=by decide):wpAny (model X.prog X.w) X.A (eval (.Name x pos) X.env) Q E s:=by
 obtain⟨mb,h1,h2⟩:=I.mod.blt
 exact Calls.Name_function_global I.ok.kind hg (Calls.loadGlobal_builtin (by rw[I.ok.glob];exact I.mod.glob.keeps I.bk) hm (by rw[I.ok.blt];exact h1.keeps I.bk) ((h2 x hn).trans hv) h) hd
theorem vc {x:Str}{v:V}{u:Value}{pos:Pos}(hg:Gl X x)(hm:X.mg x=some u)(r:RelV v u)(hd:(x == ("__debug__" : Str))=false:=by decide):PE X (.Name x pos) (tC v) :=
 fun _ _ _ H _ I h=>m7 I hg hm ⟨v,H,I,r,h⟩ hd
theorem zH {x:Str}{v:V}{u:Value}{pos:Pos}(hg:Gl X x)(hm:X.mg x=none)(hv:bootBuiltins x=some u)(r:RelV v u)(hn:x ≠ "__name__" := by decide)(hd:(x == ("__debug__" : Str))=false:=by decide):PE X (.Name x pos) (tC v) :=
 fun _ _ _ H _ I h=>jd I hg hm hv ⟨v,H,I,r,h⟩ hn hd
variable {a b:Expr} {ta tb:TE} {pos:Pos}
def PC (X:Cx)(op:CmpOp)(a b:Expr)(t:TE):Prop :=
 ∀(pins:List (Addr×Obj)) (s:Shared) (σ:St) (H:Hp) (Q:VK),Inv X pins σ H s→t σ H Q →
  wpAny (model X.prog X.w) X.A (eval a X.env) (fun v s₁=>wpAny (model X.prog X.w) X.A (eval b X.env) (fun u s₂=>wpAny (model X.prog X.w) X.A (compareOp op v u) (EP X pins σ Q) X.xe s₂) X.xe s₁) X.xe s
theorem bT (b:Expr){op:CmpOp}(h:op≠.In)(h2:op≠.NotIn):behindInMarks op b=false:=by
 have e1:(op == CmpOp.In)=false:=by cases op<;>first | rfl | exact absurd rfl h
 have e2:(op == CmpOp.NotIn)=false:=by cases op<;>first | rfl | exact absurd rfl h2
 cases b<;>simp[behindInMarks,e1,e2]
def xb9 (ta:TE):TE:=fun σ H Q=>ta σ H fun x H1=>Q (.bl (decide (x=.non))) H1
theorem RelV.none_iff {x:V}{v:Value}(r:RelV x v):(v == Value.none)=decide (x=.non):=by
 cases x with
 | non=>cases r;rfl
 | bl _=>cases r;rfl
 | int _=>obtain⟨t,rfl⟩:=r;rfl
 | str _=>obtain⟨t,rfl⟩:=r;rfl
 | byt _=>obtain⟨t,rfl⟩:=r;rfl
 | flt _=>obtain⟨t,rfl⟩:=r;rfl
 | ref _=>cases r;rfl
 | ty _=>cases r;rfl
theorem nR {j pos'}(ha:PE X a ta):PC X .Is a (.Constant .none j pos') (xb9 ta):=by
 intro pins s σ H Q I h
 refine thn (@ha pins s σ H _ I h) fun v s1 ⟨x,H1,I1,r1,q1⟩=>?_
 exact Constant_none (is_none_gen ⟨.bl _,H1,I1,by rw[r1.none_iff];rfl,q1⟩)
def tB (t:TE):TT:=fun σ H Q=>t σ H fun x H1=>∃c,x=.bl c∧Q c H1
theorem nh {op:CmpOp}{t:TE}(h:PC X op a b t)(h1:behindInMarks op b=false:=by first | exact bT _ (by decide) (by decide) | rfl):PT X (.Compare a [op] [b] pos) (tB t):=by
 intro pins s σ H Q I hw
 refine wpAny_isTrue_Compare1 (thn (@h pins s σ H _ I hw) fun v s1 h1=>thn h1 fun u s2 h2=>thn h2 fun c s3 ⟨x,H1,I1,r1,q1⟩=>?_) h1
 obtain⟨d,rfl,q⟩:=q1
 cases r1
 exact wpAny_truthy_bool ⟨H1,I1,q⟩
theorem wa {e:Expr}{t:TE}(h:PE X e t)(he:∀whole,isTrue e X.env whole=(do let v ←whole;standAt e.pos;holding [v] (truthy v)):=by intro _;rfl):PT X e (tB t):=by
 intro pins s σ H Q I hw
 refine isTrue_plain (thn (@h pins s σ H _ I hw) fun v s1 ⟨x,H1,I1,r1,q1⟩=>?_) (he _)
 obtain⟨d,rfl,q⟩:=q1
 cases r1
 exact wpAny_truthy_bool ⟨H1,I1,q⟩
variable {tA tB':TT} {rest:List Expr}
def xcL (t u:TT):TT:=fun σ H Q=>t σ H fun c H1=>if c=true then u σ H1 Q else Q false H1
def tOr (t u:TT):TT:=fun σ H Q=>t σ H fun c H1=>if c=true then Q true H1 else u σ H1 Q
def xcr (t:TT):TT:=fun σ H Q=>t σ H fun c H1=>Q (!c) H1
theorem kY (ha:PT X a tA):PW X (.BoolOp .And [a] pos) tA:=by
 intro wh pins s σ H Q I h
 refine isTrue_and (thn (@ha pins s σ H Q I h) fun c s1 e=>?_)
 cases c with
 | true=>exact isTrue_and_nil e
 | false=>exact e
theorem jw (ha:PT X a tA):PW X (.BoolOp .Or [a] pos) tA:=by
 intro wh pins s σ H Q I h
 refine isTrue_or (thn (@ha pins s σ H Q I h) fun c s1 e=>?_)
 cases c with
 | false=>exact isTrue_or_nil e
 | true=>exact e
theorem dO (ha:PT X a tA)(hb:PW X (.BoolOp .And (b::rest) pos) tB'):PW X (.BoolOp .And (a::b::rest) pos) (xcL tA tB'):=by
 intro wh pins s σ H Q I h
 refine isTrue_and (thn (@ha pins s σ H _ I h) fun c s1 ⟨H1,I1,q1⟩=>?_)
 cases c with
 | true=>exact @hb wh pins s1 σ H1 Q I1 q1
 | false=>exact⟨H1,I1,q1⟩
theorem dj (ha:PT X a tA)(hb:PW X (.BoolOp .Or (b::rest) pos) tB'):PW X (.BoolOp .Or (a::b::rest) pos) (tOr tA tB'):=by
 intro wh pins s σ H Q I h
 refine isTrue_or (thn (@ha pins s σ H _ I h) fun c s1 ⟨H1,I1,q1⟩=>?_)
 cases c with
 | true=>exact⟨H1,I1,q1⟩
 | false=>exact @hb wh pins s1 σ H1 Q I1 q1
theorem va (ha:PT X a tA):PT X (.UnaryOp .Not a pos) (xcr tA):=by
 intro pins s σ H Q I h
 exact isTrue_not (@ha pins s σ H (fun c H1=>Q (!c) H1) I h)
def xaO (ta tb:TE):TE:=fun σ H Q=>ta σ H fun x H1=>∃c,x=.bl c∧if c=true then tb σ H1 Q else Q (.bl false) H1
def xcp (ta tb:TE):TE:=fun σ H Q=>ta σ H fun x H1=>∃c,x=.bl c∧if c=true then Q (.bl true) H1 else tb σ H1 Q
def xa6 (ta:TE):TE:=fun σ H Q=>ta σ H fun x H1=>∃c,x=.bl c∧Q (.bl (!c)) H1
theorem f_ {op}{t:TE}(h:PE X a t):PE X (.BoolOp op [a] pos) t:=fun pins s σ H Q I hw=>BoolOp_one (@h pins s σ H Q I hw)
theorem aM (ha:PE X a ta)(hb:PE X (.BoolOp .And (b::rest) pos) tb):PE X (.BoolOp .And (a::b::rest) pos) (xaO ta tb):=by
 intro pins s σ H Q I h
 refine BoolOp_and (thn (@ha pins s σ H _ I h) fun v s1 ⟨x,H1,I1,r1,q1⟩=>?_)
 obtain⟨c,rfl,q1⟩:=q1
 cases r1
 refine wpAny_truthy_bool ?_
 cases c with
 | true=>exact @hb pins s1 σ H1 Q I1 q1
 | false=>exact⟨.bl false,H1,I1,rfl,q1⟩
theorem xa5 (ha:PE X a ta)(hb:PE X (.BoolOp .Or (b::rest) pos) tb):PE X (.BoolOp .Or (a::b::rest) pos) (xcp ta tb):=by
 intro pins s σ H Q I h
 refine BoolOp_or (thn (@ha pins s σ H _ I h) fun v s1 ⟨x,H1,I1,r1,q1⟩=>?_)
 obtain⟨c,rfl,q1⟩:=q1
 cases r1
 refine wpAny_truthy_bool ?_
 cases c with
 | false=>exact @hb pins s1 σ H1 Q I1 q1
 | true=>exact⟨.bl true,H1,I1,rfl,q1⟩
theorem xag (ha:PE X a ta):PE X (.UnaryOp .Not a pos) (xa6 ta):=by
 intro pins s σ H Q I h
 refine UnaryOp_ (thn (@ha pins s σ H _ I h) fun v s1 ⟨x,H1,I1,r1,q1⟩=>?_)
 obtain⟨c,rfl,q1⟩:=q1
 cases r1
 exact not_of (wpAny_truthy_bool ⟨.bl (!c),H1,I1,rfl,q1⟩)
end
end L2
namespace L2
open PySem PySem.Spec PyProof.Rows
def SqL (K:PySem.W.Frag)(H:Hp)(a:Addr)(xs:List V):Prop :=
 Rd H a (.lst xs) ∨
  ∃(o:Obj) (its:Array Value) (n:Nat),K.lookup a=some o∧o.cls=.type "list" ∧ o.dict=none∧o.data=.seq its n∧its.size≤sizeLine∧yy xs its.toList
def SqT (K:PySem.W.Frag)(H:Hp)(a:Addr)(xs:List V):Prop :=
 Rd H a (.tup xs) ∨
  ∃(o:Obj) (its:Array Value) (n:Nat),K.lookup a=some o∧o.cls=.type "tuple" ∧ o.data=.seq its n∧its.size≤sizeLine∧yy xs its.toList
def xda:Value→Option V
 | .none=>some .non
 | .bool b=>some (.bl b)
 | .int i _=>some (.int i)
 | .str x _=>some (.str x)
 | .bytes b _=>some (.byt b)
 | .float b _=>some (.flt b)
 | .ref a=>some (.ref a)
 | .type n=>some (.ty n)
 | _=>none
theorem RelV.abs {x:V}{u:Value}(r:RelV x u):xda u=some x:=by
 cases x with
 | non=>cases r;rfl
 | bl _=>cases r;rfl
 | int _=>obtain⟨t,rfl⟩:=r;rfl
 | str _=>obtain⟨t,rfl⟩:=r;rfl
 | byt _=>obtain⟨t,rfl⟩:=r;rfl
 | flt _=>obtain⟨t,rfl⟩:=r;rfl
 | ref _=>cases r;rfl
 | ty _=>cases r;rfl
theorem RelV.inj {x y:V}{u:Value}(r:RelV x u)(q:RelV y u):x=y:=xeN (r.abs.symm.trans q.abs)
theorem yy.inj:∀ {xs ys:List V} {us:List Value},yy xs us→yy ys us→xs=ys
 | _,_,_,.nil,.nil=>rfl
 | _,_,_,.cons r t,.cons r' t'=>by rw[r.inj r',yy.inj t t']
section
variable {X:Cx} {pins:List (Addr×Obj)} {σ:St} {H:Hp} {s:Shared} {a:Addr} {xs ys:List V}
theorem SqL.of {K:PySem.W.Frag}(h:H a=some (.lst xs)):SqL K H a xs:=.inl (.inl h)
theorem SqT.of {K:PySem.W.Frag}(h:H a=some (.tup xs)):SqT K H a xs:=.inl (.inl h)
theorem Inv.list (I:Inv X pins σ H s)(h:SqL X.K H a xs):∃its:List Value,yy xs its∧PlainL s.heap a its.toArray∧xs.length≤sizeLine:=by
 rcases h with h | ⟨o,its,n,hk,hc,hd,hs,hz,r⟩
 ·obtain⟨z,its,n,r,e⟩:=h.ok I.hok
  exact⟨its,r,⟨_,n,e,rfl,rfl,rfl⟩,z⟩
 ·refine⟨its.toList,r,⟨o,n,I.kIn a o hk,hc,hd,by simpa using hs⟩,?_⟩
  have e:=r.length
  simp only[Array.length_toList] at e
  omega
theorem Inv.tuple (I:Inv X pins σ H s)(h:SqT X.K H a xs):∃its:List Value,yy xs its∧IsTup s.heap a its.toArray∧xs.length≤sizeLine:=by
 rcases h with h | ⟨o,its,n,hk,hc,hs,hz,r⟩
 ·obtain⟨z,its,r,p⟩:=h.ok I.hok
  exact⟨its,r,p,z⟩
 ·refine⟨its.toList,r,⟨o,I.kIn a o hk,hc,n,by simpa using hs⟩,?_⟩
  have e:=r.length
  simp only[Array.length_toList] at e
  omega
theorem Inv.list_inj (I:Inv X pins σ H s)(h:SqL X.K H a xs)(h':SqL X.K H a ys):xs=ys:=by
 obtain⟨its,r,⟨o,n,e,_,_,d⟩,_⟩:=I.list h
 obtain⟨its',r',⟨o',n',e',_,_,d'⟩,_⟩:=I.list h'
 rw[e] at e';cases e'
 rw[d] at d'
 injection d' with d1 _
 have:its=its':=by simpa using xeO Array.toList d1
 subst this
 exact r.inj r'
theorem Inv.tuple_inj (I:Inv X pins σ H s)(h:SqT X.K H a xs)(h':SqT X.K H a ys):xs=ys:=by
 obtain⟨its,r,⟨o,e,_,n,d⟩,_⟩:=I.tuple h
 obtain⟨its',r',⟨o',e',_,n',d'⟩,_⟩:=I.tuple h'
 rw[e] at e';cases e'
 rw[d] at d'
 injection d' with d1 _
 have:its=its':=by simpa using xeO Array.toList d1
 subst this
 exact r.inj r'
end
abbrev Cx.wish (X:Cx)(E:Value→Shared→Prop):Cx:={ X with xe:=E }
abbrev Cx.nox (X:Cx):Cx:=X.wish fun _ _=>False
theorem Cx.Ok.wish {X:Cx}(ok:X.Ok)(E:Value→Shared→Prop):(X.wish E).Ok :=
 ⟨ok.mod,ok.kind,ok.glob,ok.blt,ok.above,ok.inj,ok.has,ok.cab,ok.hd,ok.frames,ok.stk,ok.exf,ok.bs,ok.bsz,ok.noex,ok.exfs,ok.funs,ok.frf⟩
theorem Cx.Ok.unwish {X:Cx}{E:Value→Shared→Prop}(ok:(X.wish E).Ok):X.Ok :=
 ⟨ok.mod,ok.kind,ok.glob,ok.blt,ok.above,ok.inj,ok.has,ok.cab,ok.hd,ok.frames,ok.stk,ok.exf,ok.bs,ok.bsz,ok.noex,ok.exfs,ok.funs,ok.frf⟩
section
variable {X:Cx} {pins:List (Addr×Obj)} {σ:St} {H:Hp} {s:Shared} {E:Value→Shared→Prop}
theorem Inv.wish (I:Inv X pins σ H s)(E:Value→Shared→Prop):Inv (X.wish E) pins σ H s:=⟨I.ok.wish E,I.os,I.bare,I.base,I.loc,I.cell,I.free,I.freeC,I.pin,I.hok,I.len⟩
theorem Inv.unwish (I:Inv (X.wish E) pins σ H s):Inv X pins σ H s:=⟨I.ok.unwish,I.os,I.bare,I.base,I.loc,I.cell,I.free,I.freeC,I.pin,I.hok,I.len⟩
theorem SP.unwish {D:Ends}{f:Flow}{s':Shared}(h:SP (X.wish E) pins D f s'):SP X pins D f s':=by
 cases f with
 | next=>obtain⟨σ',H',I,q⟩:=h;exact⟨σ',H',I.unwish,q⟩
 | brk=>obtain⟨σ',H',I,q⟩:=h;exact⟨σ',H',I.unwish,q⟩
 | cont=>obtain⟨σ',H',I,q⟩:=h;exact⟨σ',H',I.unwish,q⟩
 | ret u=>obtain⟨v,σ',H',I,r,q⟩:=h;exact⟨v,σ',H',I.unwish,r,q⟩
theorem PSs.nox {st:List Stmt}{t:TS}(h:PSs X.nox st t):PSs X st t:=fun pins s σ H D I hw =>
 wpAny_mono (@h pins s σ H D (I.wish _) hw) (fun _ _ q=>q.unwish) fun _ _ z=>False.elim z
end
section
variable {X:Cx} {st:Stmt} {rest:List Stmt} {t u:TS} {e:Expr} {te:TE} {pos:Pos}
def xay:TS:=fun D σ H=>D.nx σ H
def xbd (t u:TS):TS:=fun D σ H=>t { D with nx:=u D } σ H
theorem x_:PSs X [] xay:=fun _ _ σ H _ I h=>wpAny_execs_nil ⟨σ,H,I,h⟩
theorem xf (h1:PS X st t)(h2:PSs X rest u):PSs X (st::rest) (xbd t u):=by
 intro pins s σ H D I h
 refine wpAny_execs_cons (thn (@h1 pins s σ H { D with nx:=u D } I h) fun f s1 q=>?_)
 cases f with
 | next =>
  obtain⟨σ',H',I',q⟩:=q
  exact @h2 pins s1 σ' H' D I' q
 | ret v=>exact q
 | brk=>exact q
 | cont=>exact q
theorem xi (h1:PS X st t):PSs X [st] t:=by
 intro pins s σ H D I h
 refine wpAny_execs_cons (thn (@h1 pins s σ H D I h) fun f s1 q=>?_)
 cases f with
 | next=>exact wpAny_execs_nil q
 | ret v=>exact q
 | brk=>exact q
 | cont=>exact q
theorem Inv.quiet {pins:List (Addr×Obj)}{σ:St}{H:Hp}{s:Shared}(I:Inv X pins σ H s):interactive X.env=false:=by simp[interactive,I.ok.kind]
def t5 (te:TE):TS:=fun D σ H=>te σ H fun _ H1=>D.nx σ H1
theorem y8 (he:PE X e te)(hs:swapsWith e none pos.line X.env=pure false:=by rfl):PS X (.Expr e pos) (t5 te):=by
 intro pins s σ H D I h
 exact wpAny_Expr_any (thn (@he pins s σ H _ I h) fun v s1 ⟨x,H1,I1,r1,q1⟩=>⟨σ,H1,I1,q1⟩) I.quiet hs
def xa9 (te:TE):TS:=fun D σ H=>te σ H D.rt
theorem xD (he:PE X e te):PS X (.Return (some e) pos) (xa9 te):=by
 intro pins s σ H D I h
 exact wpAny_Return_some (thn (@he pins s σ H _ I h) fun v s1 ⟨x,H1,I1,r1,q1⟩=>⟨x,σ,H1,I1,r1,q1⟩)
def xcj (c:TT)(t u:TS):TS:=fun D σ H=>c σ H fun b H1=>if b=true then t D σ H1 else u D σ H1
theorem zg {c:Expr}{a b:List Stmt}{tc:TT}(hc:PT X c tc)(ha:PSs X a t)(hb:PSs X b u):PS X (.If c a b pos) (xcj tc t u):=by
 intro pins s σ H D I h
 refine wpAny_If (thn (@hc pins s σ H _ I h) fun d s1 ⟨H1,I1,q1⟩=>?_)
 cases d with
 | true=>exact @ha pins s1 σ H1 D I1 q1
 | false=>exact @hb pins s1 σ H1 D I1 q1
def pZ:TS:=fun _ _ _=>False
theorem cj:PS X st pZ:=fun _ _ _ _ _ _ h=>h.elim
end
abbrev TG:=V→St→Hp→(St→Hp→Prop)→Prop
abbrev TGs:=List V→St→Hp→(St→Hp→Prop)→Prop
def PG (X:Cx)(target:Expr)(t:TG):Prop :=
 ∀(pins:List (Addr×Obj)) (s:Shared) (σ:St) (H:Hp) (v:V) (u:Value) (Q:St→Hp→Prop),Inv X pins σ H s→RelV v u→t v σ H Q →
  wpAny (model X.prog X.w) X.A (assign target X.env u) (fun _ s'=>∃ σ' H',Inv X pins σ' H' s'∧Q σ' H') X.xe s
def PGs (X:Cx)(ts:List Expr)(t:TGs):Prop :=
 ∀(pins:List (Addr×Obj)) (s:Shared) (σ:St) (H:Hp) (vs:List V) (us:List Value) (Q:St→Hp→Prop),Inv X pins σ H s→yy vs us→t vs σ H Q →
  wpAny (model X.prog X.w) X.A (assignInOrder ((assignEach ts X.env).map (·.2)) us) (fun _ s'=>∃ σ' H',Inv X pins σ' H' s'∧Q σ' H') X.xe s
abbrev xbY:=V→V→V→Hp→(Hp→Prop)→Prop
def xco (X:Cx)(t:xbY):Prop :=
 ∀(pins:List (Addr×Obj)) (s:Shared) (σ:St) (H:Hp) (o i v:V) (ov iv u:Value) (Q:Hp→Prop),Inv X pins σ H s→RelV o ov→RelV i iv→RelV v u→t o i v H Q →
  wpAny (model X.prog X.w) X.A (setItem ov iv u) (fun _ s'=>∃H',Inv X pins σ H' s'∧Q H') X.xe s
section
variable {X:Cx} {pos:Pos}
def jN (i:Nat):TG:=fun v σ H Q=>Q (σ.set i (some v)) H
theorem ye {i:Nat}{x:Str}(hN:X.N.Nodup)(hi:X.N[i]? = some x)(hx:Loc X.env.scope x)(hf:X.fn x=true∨X.env.scope.names.lookup x=some .local:=by first | exact .inl rfl | exact .inr rfl | assumption):PG X (.Name x pos) (jN i):=by
 intro pins s σ H v u Q I r h
 exact wpAny_assign_Name (kU I hN hi hx r (fun s' I'=>⟨_,H,I',h⟩) hf)
def xbz:TGs:=fun vs σ H Q=>vs=[]∧Q σ H
def lG (t:TG)(u:TGs):TGs:=fun vs σ H Q=>∃v r,vs=v::r∧t v σ H fun σ' H'=>u r σ' H' Q
theorem yX:PGs X [] xbz:=by
 intro pins s σ H vs us Q I r h
 obtain⟨e,h⟩:=h
 subst e
 cases r
 exact assignInOrder_nil ⟨σ,H,I,h⟩
theorem xy {e:Expr}{es:List Expr}{t:TG}{u:TGs}(h1:PG X e t)(h2:PGs X es u)
  (hs:(assignEach (e::es) X.env).map (·.2)=assign e X.env::(assignEach es X.env).map (·.2):=by rfl):PGs X (e::es) (lG t u):=by
 intro pins s σ H vs us Q I r h
 obtain⟨v,vr,e1,h⟩:=h
 subst e1
 cases r with
 | cons r rr =>
  rw[hs]
  refine assignInOrder_cons (thn (@h1 pins s σ H _ _ _ I r h) fun _ s1 ⟨σ1,H1,I1,q1⟩=>?_)
  exact @h2 pins s1 σ1 H1 _ _ Q I1 rr q1
def xbh (K:PySem.W.Frag)(n:Nat)(t:TGs):TG:=fun v σ H Q=>∃a xs,v=.ref a∧SqT K H a xs∧xs.length=n∧t xs σ H Q
theorem xas {es:List Expr}{k:Nat}{t:TGs}{n:Nat}(hc:X.calm=true)(h:PGs X es t)
  (hn:(assignEach es X.env).length=n:=by rfl) (hst:(assignEach es X.env).findIdx? (·.1)=none:=by rfl):PG X (.Tuple es k pos) (xbh X.K n t):=by
 intro pins s σ H v u Q I r hw
 obtain⟨a,xs,e1,hq,hl,hw⟩:=hw
 subst e1
 cases r
 obtain⟨its,rv,ht,hz⟩:=I.tuple hq
 refine assign_Tuple_tuple (I.ok.hd hc) ht (by simp[hn,←hl,rv.length]) hst fun h' hx=>?_
 have I1:Inv X pins σ H { s with heap:=h' }:=I.kept (t':=s.toks) fun b o e=>hx b o (xeJ (Heap.lt_size e)) e
 exact @h pins _ σ H xs _ Q I1 (by simpa using rv) hw
def xcZ (to ti:TE)(t:xbY):TG:=fun v σ H Q=>to σ H fun o H1=>ti σ H1 fun i H2=>t o i v H2 fun H3=>Q σ H3
theorem c8 {o i:Expr}{to ti:TE}{t:xbY}(ho:PE X o to)(hi:PE X i ti)(hs:xco X t)
  (ha:∀v,assign (.Subscript o i pos) X.env v=(do
   let ov ←holding [v] (eval o X.env)
   let iv ←holding [v,ov] (eval i X.env)
   standAt pos
   holding [v,ov,iv] (setItem ov iv v)
   release [v,ov,iv] []):=by intro _;rfl):PG X (.Subscript o i pos) (xcZ to ti t):=by
 intro pins s σ H v u Q I r h
 rw[ha]
 refine wpAny_bind (wpAny_holding (thn (@ho pins s σ H _ I h) fun ov s1 ⟨x,H1,I1,r1,q1⟩=>?_))
 refine wpAny_bind (wpAny_holding (thn (@hi pins s1 σ H1 _ I1 q1) fun iv s2 ⟨y,H2,I2,r2,q2⟩=>?_))
 refine wpAny_bind (wpAny_standAt (wpAny_bind (wpAny_holding (thn (@hs pins s2 σ H2 x y v ov iv u _ I2 r1 r2 r q2) fun _ s3 ⟨H3,I3,q3⟩=>?_))))
 exact wpAny_release ⟨σ,H3,I3,q3⟩
def oA (te:TE)(g:TG):TS:=fun D σ H=>te σ H fun x H1=>g x σ H1 D.nx
theorem ku {tg e:Expr}{te:TE}{g:TG}(he:PE X e te)(hg:PG X tg g)(hs:swapsWithSole [tg] e pos.line X.env=pure false:=by rfl)(hw:swappedStores [tg] e X.env=pure none:=by rfl)
  (h1:(assignEach [tg] X.env).map (·.2)=[assign tg X.env]:=by rfl):PS X (.Assign [tg] e pos) (oA te g):=by
 intro pins s σ H D I h
 refine wpAny_Assign_stores (thn (@he pins s σ H _ I h) fun v s1 ⟨x,H1,I1,r1,q1⟩=>?_) hs hw
 rw[h1]
 exact thn (@hg pins s1 σ H1 x v _ I1 r1 q1) fun _ s2 q=>q
theorem fN {i:Nat}{x:Str}{e:Expr}{te:TE}{pos':Pos}(hN:X.N.Nodup)(hi:X.N[i]? = some x)(hx:Loc X.env.scope x)(he:PE X e te)(hs:swapsWith e (some (.Name x pos')) pos.line X.env=pure false:=by rfl)(hf:X.fn x=true∨X.env.scope.names.lookup x=some .local:=by first | exact .inl rfl | exact .inr rfl | assumption) :
  PS X (.Assign [.Name x pos'] e pos) (oA te (jN i)):=by
 intro pins s σ H D I h
 refine wpAny_Assign_Name (thn (@he pins s σ H _ I h) fun v s1 ⟨y,H1,I1,r1,q1⟩=>?_) hs
 exact kU I1 hN hi hx r1 (fun s2 I2=>⟨_,H1,I2,q1⟩) hf
def xb5 (i j:Nat)(ta:TA):TS:=fun D σ H=>ta σ H fun vs H1=>∃v w,vs=[v,w]∧D.nx ((σ.set i (some v)).set j (some w)) H1
theorem v8 {i j:Nat}{x y:Str}{a b:Expr}{ta:TA}{px py pt:Pos}{kt k2 pt2}(hc:X.calm=true)(hN:X.N.Nodup)(hi:X.N[i]? = some x)(hj:X.N[j]? = some y)(hij:i≠j)
  (hx:X.env.scope.names.lookup x=some .local) (hy:X.env.scope.names.lookup y=some .local) (ha:PA X [a,b] ta)
  (hw:swappedStores [.Tuple [.Name x px,.Name y py] kt pt] (.Tuple [a,b] k2 pt2) X.env=pure (some [x,y]))
  (hs:swapsWithSole [.Tuple [.Name x px,.Name y py] kt pt] (.Tuple [a,b] k2 pt2) pos.line X.env=pure false:=by rfl) :
  PS X (.Assign [.Tuple [.Name x px,.Name y py] kt pt] (.Tuple [a,b] k2 pt2) pos) (xb5 i j ta):=by
 intro pins s σ H D I h
 rw[exec_Assign_arm]
 refine wpAny_bind (wpAny_standAt ?_)
 rw[hs]
 refine wpAny_bind (wpAny_pure ?_)
 rw[if_neg (by decide)]
 refine wpAny_bind (Tuple_ (thn (@ha _ pins s σ H _ I h) fun us s1 ⟨vs,H1,I1,r1,q1⟩=>?_))
 obtain⟨v,w,e1,q1⟩:=q1
 subst e1
 obtain⟨u1,u2,rfl,rv,rw'⟩:∃u1 u2,us=[u1,u2]∧RelV v u1∧RelV w u2:=by
  cases r1 with
  | cons p q =>
   cases q with
   | cons p' q' =>
    cases q'
    exact⟨_,_,rfl,p,p'⟩
 refine wpAny_newObj_type ?_ (by show 2≤sizeLine;decide)
 have I2:Inv X pins σ H1 { s1 with heap:=s1.heap.push { cls:=.type "tuple", data:=.seq [u1,u2].toArray } }:=I1.kept (t':=s1.toks) fun b o e=>Heap.get?_push_of_some _ e
 rw[hw]
 refine wpAny_bind (wpAny_pure ?_)
 show wpAny (model X.prog X.w) X.A (do rule "assign.swapped-stores"; let items ←unpackItems (.ref s1.heap.objs.size) 2 none;assignInOrder [fun v=>bindName X.env y v,fun v=>bindName X.env x v] items.reverse;pure Flow.next) _ _ _
 refine wpAny_bind (wpAny_rule (wpAny_bind (unpackItems_tuple (items := #[u1,u2]) (I.ok.hd hc) (IsTup.new s1.heap _) fun h' hx'=>?_)))
 have I3:=I2.kept (h':=h') (t':=s1.toks) fun b o e=>hx' b o (xeJ (Heap.lt_size e)) e
 show wpAny _ _ (assignInOrder [fun v=>bindName X.env y v,fun v=>bindName X.env x v] [u2,u1] >>= fun _=>pure Flow.next) _ _ _
 refine wpAny_bind (assignInOrder_cons (wpAny_bindName (kU I3 hN hj (.inl hy) rw' (fun s2 I4=>?_) (.inr hy))))
 refine assignInOrder_cons (wpAny_bindName (kU I4 hN hi (.inl hx) rv (fun s3 I5=>assignInOrder_nil (wpAny_pure ?_)) (.inr hx)))
 rw[List.set_comm _ _ (Ne.symm hij)] at I5
 exact⟨_,H1,I5,q1⟩
end
section
variable {X:Cx} {pos:Pos}
def pQ (c:TT)(tb:TS):TS:=fun D σ H=>∃W:Nat→St→Hp→Prop,(∃m,W m σ H)∧∀m σ H,W m σ H →
 c σ H fun b H1=>if b=true then ∃N:St→Hp→Prop,(∀ σ' H',N σ' H'→∃m',m' < m∧W m' σ' H')∧tb { D with nx:=N,ct:=N,bk:=D.nx } σ H1 else D.nx σ H1
theorem kQ {c:Expr}{body:List Stmt}{tc:TT}{tb:TS}(hp:PassesOwn (model X.prog X.w) X.A X.env X.xe)(hc:PT X c tc)(hb:PSs X body tb):PS X (.While c body [] pos) (pQ tc tb):=by
 intro pins s σ H D I h
 obtain⟨W,⟨m0,w0⟩,turn⟩:=h
 refine wpAny_While (codeAny_whileLoop (fun n s'=>∃ σ' H',Inv X pins σ' H' s'∧W n σ' H') ?_ m0 ⟨σ,H,I,w0⟩)
 rintro n s1 ⟨σ1,H1,I1,w1⟩
 refine wpAny_passesOwn hp (thn (@hc pins s1 σ1 H1 _ I1 (turn n σ1 H1 w1)) fun b s2 ⟨H2,I2,q2⟩=>?_)
 cases b with
 | true =>
  obtain⟨N,hN,q2⟩:=q2
  rw[if_pos rfl]
  refine wpAny_passesOwn hp (thn (@hb pins s2 σ1 H2 _ I2 q2) fun f s3 q3=>?_)
  cases f with
  | next =>
   obtain⟨σ3,H3,I3,n3⟩:=q3
   obtain⟨m',hm,w3⟩:=hN σ3 H3 n3
   exact⟨m',hm,σ3,H3,I3,w3⟩
  | cont =>
   obtain⟨σ3,H3,I3,n3⟩:=q3
   obtain⟨m',hm,w3⟩:=hN σ3 H3 n3
   exact⟨m',hm,σ3,H3,I3,w3⟩
  | brk=>exact q3
  | ret v=>exact q3
 | false =>
  rw[if_neg xdd]
  exact wpAny_execs_nil ⟨σ1,H2,I2,q2⟩
end
structure It where
 go:Nat→Hp→Prop
 yld:Nat→Hp→V→Hp→Prop
 stop:Nat→Hp→Prop
def jQ (X:Cx)(pins:List (Addr×Obj))(H:Hp)(b:Addr):Prop :=
 H b=none∧b≠X.env.locals∧b∉X.fs∧(b∈X.ex∨X.s₀.heap.objs.size≤b)∧(∀x c,X.env.cells.lookup x=some c→c≠b)∧∀p∈X.pn++pins,p.1≠b
theorem Inv.fpOk {X:Cx}{pins:List (Addr×Obj)}{σ:St}{H H':Hp}{s:Shared}{b:Addr}(I:Inv X pins σ H s)(hb:s.heap.objs.size≤b)(hn:H' b=none):jQ X pins H' b:=by
 refine⟨hn,xeI (xeF I.lt hb),I.nofs hb,.inr (xeC I.sz hb),fun x c e z=>?_,fun p hp z=>?_⟩
 ·obtain⟨v,q⟩:=I.cell x c e
  exact absurd (xeF q.lt (by rw[z];exact hb)) (xeD _)
 ·exact absurd (xeF (Heap.lt_size (I.pin p hp).1) (by rw[z];exact hb)) (xeD _)
structure Turn (P:Program)(w:World)(K:PySem.W.Frag)(tg:Expr)(J:It)(fp:List Addr)(it:Addr)(tn:Nat→Heap→Prop):Prop where
 mem:it∈fp
 obj:∀i h,tn i h→∀b∈fp,∃o,h.get? b=some o∧∀v,o.data≠.cell v
 keep:∀i h h',tn i h→(∀b∈fp,∀o,h.get? b=some o→h'.get? b=some o)→tn i h'
 item:∀(X:Cx),X.prog=P→X.w=w→X.K=K→X.calm=true→∀(i:Nat) (pins:List (Addr×Obj)) (s:Shared) (σ:St) (H:Hp) (E:Value→Shared→Prop),Inv X pins σ H s→(∀b∈fp,jQ X pins H b)→tn i s.heap→J.go i H →
  wpAny (model P w) X.A (pyNext (.ref it)) (fun r s1=>∃u,r=some u ∧
   wpAny (model P w) X.A (letOwnedTupleGo tg (.ref it) u) (fun _ s2=>∃x H',Inv X pins σ H' s2∧RelV x u∧J.yld i H x H'∧tn (i+1) s2.heap∧∀b∈fp,H' b=none) E s1) E s
 done:∀(X:Cx),X.prog=P→X.w=w→X.K=K→X.calm=true→∀(i:Nat) (pins:List (Addr×Obj)) (s:Shared) (σ:St) (H:Hp) (E:Value→Shared→Prop),Inv X pins σ H s→(∀b∈fp,jQ X pins H b)→tn i s.heap→J.stop i H →
  wpAny (model P w) X.A (pyNext (.ref it)) (fun r s1=>r=none∧Inv X pins σ H s1) E s
 self:∀(A:Around) (i:Nat) (s:Shared) (Q:Value→Shared→Prop) (E:Value→Shared→Prop),tn i s.heap→Q (.ref it) s→wpAny (model P w) A (pyIter (.ref it)) Q E s
abbrev TI:=St→Hp→(It→Hp→Prop)→Prop
def PIE (X:Cx)(pins:List (Addr×Obj))(σ:St)(tg:Expr)(R:It→Hp→Prop)(itv:Value)(s2:Shared):Prop :=
 ∃(it:Addr) (fp:List Addr) (tn:Nat→Heap→Prop) (J:It) (H':Hp),itv=.ref it∧Inv X pins σ H' s2∧Turn X.prog X.w X.K tg J fp it tn∧tn 0 s2.heap∧(∀b∈fp,jQ X pins H' b)∧R J H'
def PI (X:Cx)(tg iter:Expr)(wi:TI):Prop :=
 ∀(pins:List (Addr×Obj)) (s:Shared) (σ:St) (H:Hp) (R:It→Hp→Prop),Inv X pins σ H s→wi σ H R →
  wpAny (model X.prog X.w) X.A (eval iter X.env) (fun v s1=>wpAny (model X.prog X.w) X.A (pyIter v) (PIE X pins σ tg R) X.xe s1) X.xe s
theorem lq {M:Model}{A:Around}{E:Value→Shared→Prop}{s:Shared}{tg:Expr}{it:Addr}{u:Value}{o:Obj}{n:String}{vs:Array Value}{Q:Unit→Shared→Prop}(ho:s.heap.get? it=some o)(hc:o.cls=.type n)(hd:o.data=.fields vs)
  (hn:["enumerate", "zip", "dict_itemiterator", "dict_reverseitemiterator", "odict_iterator", "itertools.zip_longest", "itertools.pairwise"].contains n=false) (hQ:Q () s):wpAny M A (letOwnedTupleGo tg (.ref it) u) Q E s:=by
 unfold letOwnedTupleGo
 cases tg<;>first
  | exact wpAny_pure hQ
  | (cases u<;>first
    | exact wpAny_pure hQ
    | (refine wpAny_bind (wpAny_load ho ?_)
       rw[hc,hd]
       show wpAny M A (if (["enumerate", "zip", "dict_itemiterator", "dict_reverseitemiterator", "odict_iterator", "itertools.zip_longest", "itertools.pairwise"].contains n&&vs[0]? == some (rawInt _))=true then _ else _) Q E s
       rw[if_neg (by intro h;rw[hn,Bool.false_and] at h;cases h)]
       exact wpAny_pure hQ))
def Itl (K:PySem.W.Frag)(a:Addr):It :=
 ⟨fun i H=>∃xs x,SqL K H a xs∧xs[i]? = some x,fun i H x H'=>H'=H∧∀xs,SqL K H a xs→xs[i]? = some x,fun i H=>∃xs,SqL K H a xs∧xs.length≤i⟩
def Itt (K:PySem.W.Frag)(a:Addr):It :=
 ⟨fun i H=>∃xs x,SqT K H a xs∧xs[i]? = some x,fun i H x H'=>H'=H∧∀xs,SqT K H a xs→xs[i]? = some x,fun i H=>∃xs,SqT K H a xs∧xs.length≤i⟩
def Itr (lo:Int)(n:Nat):It:=⟨fun i _=>i<n,fun i H x H'=>H'=H∧x=.int (lo+i),fun i _=>n≤i⟩
theorem mh {P:Program}{w:World}{K:PySem.W.Frag}{tg:Expr}(a it:Addr):Turn P w K tg (Itl K a) [it] it (fun i h=>h.IsListIter it a i) where
 mem:=by simp
 obj:=fun i h st b hb=>by
  have e:b=it:=by simpa using hb
  subst e
  obtain⟨o,e,c,d⟩:=st
  exact⟨o,e,fun v z=>by rw[d] at z;cases z⟩
 keep:=fun i h h' st k=>st.at fun o e=>k it (by simp) o e
 item:=by
  intro X hP hw hK hc i pins s σ H E I hf st hg
  subst hP hw hK
  obtain⟨xs,x,hq,hx⟩:=hg
  obtain⟨its,rv,p,hz⟩:=I.list hq
  obtain⟨u,hu,ru⟩:=rv.get hx
  obtain⟨f0,f1,f2,f3,f4,f5⟩:=hf it (by simp)
  refine wpAny_pyNext_list_item st p.isList (x:=u) (by simpa using hu) fun h' st' sb=>?_
  have I1:Inv X pins σ H { s with heap:=h' }:=I.turned (t':=s.toks) (fun b o hb e=>(sb.2 b hb).trans e) f0 f1 f3 f4 f5
  obtain⟨o,e,c,d⟩:=id st'
  exact⟨u,rfl,lq (s:={ s with heap:=h' }) e c d (by decide) ⟨x,H,I1,ru,⟨rfl,fun ys hy=>by rw[I.list_inj hy hq];exact hx⟩,st',fun b hb=>(hf b hb).1⟩⟩
 done:=by
  intro X hP hw hK hc i pins s σ H E I hf st hg
  subst hP hw hK
  obtain⟨xs,hq,hx⟩:=hg
  obtain⟨its,rv,p,hz⟩:=I.list hq
  obtain⟨f0,f1,f2,f3,f4,f5⟩:=hf it (by simp)
  have hl:=rv.length
  exact wpAny_pyNext_list_end (I.ok.hd hc) st p.isList (by simp;omega) fun h' eb=>⟨rfl,I.turned (t':=s.toks) (fun b o hb e=>eb b o hb e) f0 f1 f3 f4 f5⟩
 self:=fun _ _ _ _ _ st h=>wpAny_pyIter_listiter st h
theorem r6 {P:Program}{w:World}{K:PySem.W.Frag}{tg:Expr}(a it:Addr):Turn P w K tg (Itt K a) [it] it (fun i h=>h.IsTupleIter it a i) where
 mem:=by simp
 obj:=fun i h st b hb=>by
  have e:b=it:=by simpa using hb
  subst e
  obtain⟨o,e,c,d⟩:=st
  exact⟨o,e,fun v z=>by rw[d] at z;cases z⟩
 keep:=fun i h h' st k=>st.at fun o e=>k it (by simp) o e
 item:=by
  intro X hP hw hK hc i pins s σ H E I hf st hg
  subst hP hw hK
  obtain⟨xs,x,hq,hx⟩:=hg
  obtain⟨its,rv,p,hz⟩:=I.tuple hq
  obtain⟨u,hu,ru⟩:=rv.get hx
  obtain⟨f0,f1,f2,f3,f4,f5⟩:=hf it (by simp)
  refine wpAny_pyNext_tuple_item st (show s.heap.IsTuple a its.toArray from p) (x:=u) (by simpa using hu) fun h' st' sb=>?_
  have I1:Inv X pins σ H { s with heap:=h' }:=I.turned (t':=s.toks) (fun b o hb e=>(sb.2 b hb).trans e) f0 f1 f3 f4 f5
  obtain⟨o,e,c,d⟩:=id st'
  exact⟨u,rfl,lq (s:={ s with heap:=h' }) e c d (by decide) ⟨x,H,I1,ru,⟨rfl,fun ys hy=>by rw[I.tuple_inj hy hq];exact hx⟩,st',fun b hb=>(hf b hb).1⟩⟩
 done:=by
  intro X hP hw hK hc i pins s σ H E I hf st hg
  subst hP hw hK
  obtain⟨xs,hq,hx⟩:=hg
  obtain⟨its,rv,p,hz⟩:=I.tuple hq
  obtain⟨f0,f1,f2,f3,f4,f5⟩:=hf it (by simp)
  have hl:=rv.length
  exact wpAny_pyNext_tuple_end (I.ok.hd hc) st (show s.heap.IsTuple a its.toArray from p) (by simp;omega) fun h' eb=>⟨rfl,I.turned (t':=s.toks) (fun b o hb e=>eb b o hb e) f0 f1 f3 f4 f5⟩
 self:=fun _ _ _ _ _ st h=>wpAny_pyIter_tupleiter st h
theorem rM {P:Program}{w:World}{K:PySem.W.Frag}{tg:Expr}(it:Addr)(lo:Int)(n:Nat):Turn P w K tg (Itr lo n) [it] it (fun i h=>IsRangeIter h it (lo+(i:Nat)*1) ((n:Int)-(i:Nat)) 1) where
 mem:=by simp
 obj:=fun i h st b hb=>by
  have e:b=it:=by simpa using hb
  subst e
  exact⟨_,st,fun v z=>by
   have z':Data.fields _=Data.cell v:=z
   cases z'⟩
 keep:=fun i h h' st k=>k it (by simp) _ st
 item:=by
  intro X hP hw hK hc i pins s σ H E I hf st hg
  subst hP hw hK
  obtain⟨f0,f1,f2,f3,f4,f5⟩:=hf it (by simp)
  have W:=Walks.range (prog:=X.prog) (w:=X.w) (I.ok.hd hc) it lo 1 n
  refine W.item i s _ _ hg st fun v h' tk hv st' kk=>?_
  obtain⟨t,rfl⟩:=hv
  have I1:Inv X pins σ H { s with heap:=h',toks:=tk }:=I.turned (fun b o hb e=>kk b o (by simpa using hb) e) f0 f1 f3 f4 f5
  refine⟨_,rfl,lq (s:={ s with heap:=h',toks:=tk }) (n := "range_iterator") st' rfl rfl (by decide) ⟨.int (lo+i),H,I1,⟨t,?_⟩,⟨rfl,rfl⟩,st',fun b hb=>(hf b hb).1⟩⟩
  rw[Int.mul_one]
 done:=by
  intro X hP hw hK hc i pins s σ H E I hf st hg
  subst hP hw hK
  obtain⟨f0,f1,f2,f3,f4,f5⟩:=hf it (by simp)
  exact wpAny_pyNext_range_end (I.ok.hd hc) st (by have:n≤i:=hg;omega) fun h' eb=>⟨rfl,I.turned (t':=s.toks) (fun b o hb e=>eb b o hb e) f0 f1 f3 f4 f5⟩
 self:=fun _ _ _ _ _ st h=>wpAny_pyIter_rangeiter st h
end L2
namespace L2
open PySem PySem.Spec PyProof.Rows
section
variable {X:Cx} {tg:Expr}
def xbQ (K:PySem.W.Frag)(tl:TE):TI:=fun σ H R=>tl σ H fun x H1=>∃a,x=.ref a∧(∃xs,SqL K H1 a xs)∧R (Itl K a) H1
theorem aR {pins:List (Addr×Obj)}{σ:St}{H:Hp}{s:Shared}{R:It→Hp→Prop}{E:Value→Shared→Prop}{lo hi:Int}{t u v:Tok}{tk:Nat}(I:Inv X pins σ H s)(h1:-(2 ^ 62)≤lo)(h2:lo<2 ^ 62)(h3:-(2 ^ 62)≤hi)(h4:hi<2 ^ 62)
  (q:R (Itr lo (hi-lo).toNat) H):wpAny (model X.prog X.w) X.A (pyIter (.ref s.heap.objs.size)) (PIE X pins σ tg R) E { s with heap:=s.heap.push { cls:=.type "range", data:=.fields #[.int lo t,.int hi u,.int 1 v] },toks:=tk }:=by
 refine wpAny_pyIter_range (IsRange.new ..) (small_one h1 h2 h3 h4) ?_
 have I1:Inv X pins σ H { s with heap:=s.heap.push { cls:=.type "range", data:=.fields #[.int lo t,.int hi u,.int 1 v] },toks:=tk }:=I.kept fun b o e=>Heap.get?_push_of_some _ e
 refine⟨(s.heap.push { cls:=.type "range", data:=.fields #[.int lo t,.int hi u,.int 1 v] }).objs.size,[(s.heap.push { cls:=.type "range", data:=.fields #[.int lo t,.int hi u,.int 1 v] }).objs.size],_,_,H,rfl,
  I1.kept (t':=tk) fun b o e=>Heap.get?_push_of_some _ e,rM _ lo (hi-lo).toNat,?_,fun b hb=>?_,q⟩
 ·have e1:lo+((0:Nat):Int)*1=lo:=by simp
  have e2:(((hi-lo).toNat:Nat):Int)-((0:Nat):Int)=Builtin.Range.rangeSize lo hi 1:=by rw[rangeSize_one];split<;>omega
  show IsRangeIter _ _ (lo+((0:Nat):Int)*1) ((((hi-lo).toNat:Nat):Int)-((0:Nat):Int)) 1
  rw[e1,e2]
  exact Heap.get?_push_size _ rfl
 ·have e:b=(s.heap.push { cls:=.type "range", data:=.fields #[.int lo t,.int hi u,.int 1 v] }).objs.size:=by simpa using hb
  subst e
  exact I1.fpOk (xeA _) (I1.hok.fresh (xeA _))
def xaQ (ta:TA):TI:=fun σ H R=>ta σ H fun vs H1=>∃j:Int,vs=[.int j]∧-(2 ^ 62)≤j∧j<2 ^ 62∧R (Itr 0 j.toNat) H1
def xaE (ta:TA):TI:=fun σ H R=>ta σ H fun vs H1=>∃i j:Int,vs=[.int i,.int j]∧(-(2 ^ 62)≤i∧i<2 ^ 62∧-(2 ^ 62)≤j∧j<2 ^ 62)∧R (Itr i (j-i).toNat) H1
theorem jI {a:Expr}{ta:TA}{p pos:Pos}(hg:Gl X "range")(hm:X.mg "range" = none)(ha:PA X [a] ta)(hs:starEach [a] X.env=[(false,eval a X.env)]:=by rfl):PI X tg (.Call (.Name "range" p) [a] [] pos) (xaQ ta):=by
 intro pins s σ H R I h
 refine Call_ (jd I hg hm boot_range (PyProof.Rows.callWith_type1 (thn (@ha pos pins s σ H _ I h) fun us s1 ⟨vs,H1,I1,r1,q1⟩=>?_) hs rfl))
 obtain⟨j,e,q1,q2,q⟩:=q1
 subst e
 cases r1 with
 | cons r rr =>
  cases rr
  obtain⟨t,rfl⟩:=r
  exact call_range_1 (aR I1 (by omega) (by omega) q1 q2 (by simpa using q))
theorem qm {a b:Expr}{ta:TA}{p pos:Pos}(hg:Gl X "range")(hm:X.mg "range" = none)(ha:PA X [a,b] ta)(hs:starEach [a,b] X.env=[(false,eval a X.env),(false,eval b X.env)]:=by rfl)(hs2:starEach [b] X.env=[(false,eval b X.env)]:=by rfl) :
  PI X tg (.Call (.Name "range" p) [a,b] [] pos) (xaE ta):=by
 intro pins s σ H R I h
 refine Call_ (jd I hg hm boot_range (PyProof.Rows.callWith_type1 (thn (@ha pos pins s σ H _ I h) fun us s1 ⟨vs,H1,I1,r1,q1⟩=>?_) (by rw[hs,hs2]) (by rw[hs2];rfl)))
 obtain⟨i,j,e,⟨q1,q2,q3,q4⟩,q⟩:=q1
 subst e
 cases r1 with
 | cons r rr =>
  cases rr with
  | cons r' rr =>
   cases rr
   obtain⟨t,rfl⟩:=r
   obtain⟨t',rfl⟩:=r'
   exact call_range_2 (aR I1 q1 q2 q3 q4 q)
def xcC (wi:TI)(g:TG)(tb:TS):TS:=fun D σ H=>wi σ H fun J H1=>∃W:Nat→Nat→St→Hp→Prop,(∃m,W 0 m σ H1)∧∀i m σ H,W i m σ H →
 (J.stop i H∧D.nx σ H)∨(J.go i H∧∃N:St→Hp→Prop,(∀ σ' H',N σ' H'→∃m',m' < m∧W (i+1) m' σ' H')∧∀x H',J.yld i H x H'→g x σ H' fun σ2 H2=>tb { D with nx:=N,ct:=N,bk:=D.nx } σ2 H2)
def wm (fp:List Addr)(h:Heap):List (Addr×Obj):=fp.filterMap fun b=>(h.get? b).map fun o=>(b,o)
theorem yF {fp:List Addr}{h:Heap}{b:Addr}{o:Obj}(hb:b∈fp)(e:h.get? b=some o):(b,o)∈wm fp h:=List.mem_filterMap.mpr ⟨b,hb,by rw[e];rfl⟩
theorem qe {fp:List Addr}{h:Heap}{p:Addr×Obj}(hp:p∈wm fp h):p.1∈fp∧h.get? p.1=some p.2:=by
 obtain⟨b,hb,e⟩:=List.mem_filterMap.mp hp
 cases q:h.get? b with
 | none=>rw[q] at e;cases e
 | some o =>
  rw[q] at e
  have e':(b,o)=p:=xeN e
  subst e'
  exact⟨hb,q⟩
theorem Inv.pinned {pins:List (Addr×Obj)}{σ:St}{H:Hp}{s:Shared}{fp:List Addr}(I:Inv X pins σ H s)(hf:∀b∈fp,jQ X pins H b)(ho:∀b∈fp,∃o,s.heap.get? b=some o∧∀v,o.data≠.cell v):Inv X (pins++wm fp s.heap) σ H s :=
 I.pins_of fun p hp=>(xd_.mp hp).elim (fun z=>I.pin p (xeb _ z)) fun z=>by
  obtain⟨hb,e⟩:=qe z
  obtain⟨f0,f1,f2,_⟩:=hf p.1 hb
  obtain⟨o,e',d⟩:=ho p.1 hb
  rw[e] at e';cases e'
  exact⟨e,f0,f1,f2,d⟩
theorem Inv.unpinned {pins pl:List (Addr×Obj)}{σ:St}{H:Hp}{s:Shared}(I:Inv X (pins++pl) σ H s):Inv X pins σ H s:=I.pins_of fun p hp=>I.pin p (xeb _ (xea _ hp))
theorem wd {iter:Expr}{body:List Stmt}{wi:TI}{g:TG}{tb:TS}{pos:Pos}(hp:PassesOwn (model X.prog X.w) X.A X.env X.xe)(hc:X.calm=true)(hi:PI X tg iter wi)(hg:PG X tg g)(hb:PSs X body tb)
  (hs:∀x,foldedSetIterable iter X.env x=pure x:=by intro _;rfl):PS X (.For tg iter body [] pos) (xcC wi g tb):=by
 intro pins s σ H D I h
 refine wpAny_For (thn (@hi pins s σ H _ I h) fun v s1 h1=>thn h1 fun itv s2 h2=>?_) hs
 obtain⟨it,fp,tn,J,H2,e,I2,T,st2,f2,W,⟨m0,w0⟩,turn⟩:=h2
 subst e
 have stat:∀ {H':Hp},(∀b∈fp,H' b=none)→∀b∈fp,jQ X pins H' b:=fun hn b hb=>⟨hn b hb,(f2 b hb).2⟩
 refine codeAny_forLoop_any (fun n s'=>∃i σ' H',Inv X pins σ' H' s'∧tn i s'.heap∧(∀b∈fp,H' b=none)∧W i n σ' H') ?_ m0 ⟨0,σ,H2,I2,st2,fun b hb=>(f2 b hb).1,w0⟩
 rintro n s3 ⟨i,σ3,H3,I3,st3,fr3,w3⟩
 rcases turn i n σ3 H3 w3 with ⟨stop,qn⟩ | ⟨go,N,hN,step⟩
 ·refine wpAny_passesOwn hp (thn (T.done X rfl rfl rfl hc i pins s3 σ3 H3 X.xe I3 (stat fr3) st3 stop) fun r s4 ⟨hr,I4⟩=>?_)
  subst hr
  exact wpAny_execs_nil ⟨σ3,H3,I4,qn⟩
 ·refine wpAny_passesOwn hp (thn (T.item X rfl rfl rfl hc i pins s3 σ3 H3 X.xe I3 (stat fr3) st3 go) fun r s4 ⟨u,hr,h4⟩=>?_)
  subst hr
  refine wpAny_passesOwn hp (thn h4 fun _ s5 ⟨x,H5,I5,r5,y5,st5,fr5⟩=>?_)
  have I5':=I5.pinned (stat fr5) (T.obj _ _ st5)
  refine wpAny_passesOwn hp (thn (hg _ s5 σ3 H5 x u _ I5' r5 (step x H5 y5)) fun _ s6 ⟨σ6,H6,I6,q6⟩=>?_)
  refine wpAny_passesOwn hp (thn (@hb _ s6 σ6 H6 _ I6 q6) fun f s7 q7=>?_)
  have again:∀ {σ7:St} {H7:Hp},Inv X (pins++wm fp s5.heap) σ7 H7 s7→N σ7 H7→∃m,m<n∧∃i σ' H',Inv X pins σ' H' s7∧tn i s7.heap∧(∀b∈fp,H' b=none)∧W i m σ' H':=fun {σ7 H7} I7 n7=>by
   obtain⟨m',hm,w7⟩:=hN σ7 H7 n7
   refine⟨m',hm,i+1,σ7,H7,I7.unpinned,T.keep _ _ _ st5 fun b hb o e=>(I7.pin (b,o) (xeb _ (xeb _ (yF hb e)))).1,fun b hb=>?_,w7⟩
   obtain⟨o,e,d⟩:=T.obj _ _ st5 b hb
   exact(I7.pin (b,o) (xeb _ (xeb _ (yF hb e)))).2.1
  cases f with
  | next=>obtain⟨σ7,H7,I7,n7⟩:=q7;exact again I7 n7
  | cont=>obtain⟨σ7,H7,I7,n7⟩:=q7;exact again I7 n7
  | brk=>obtain⟨σ7,H7,I7,q7⟩:=q7;exact⟨σ7,H7,I7.unpinned,q7⟩
  | ret v=>obtain⟨x7,σ7,H7,I7,r7,q7⟩:=q7;exact⟨x7,σ7,H7,I7.unpinned,r7,q7⟩
end
end L2
namespace L2
open PySem PySem.Spec PyProof.Rows
abbrev R2:=V→V→Hp→VK→Prop
def OpR (X:Cx)(f:Value→Value→Sem Value)(r:R2):Prop :=
 ∀(pins:List (Addr×Obj)) (s:Shared) (σ:St) (H:Hp) (x y:V) (v u:Value) (Q:VK),Inv X pins σ H s→RelV x v→RelV y u→r x y H Q →
  wpAny (model X.prog X.w) X.A (f v u) (EP X pins σ Q) X.xe s
def UnR (X:Cx)(f:Value→Sem Value)(r:V→Hp→VK→Prop):Prop :=
 ∀(pins:List (Addr×Obj)) (s:Shared) (σ:St) (H:Hp) (x:V) (v:Value) (Q:VK),Inv X pins σ H s→RelV x v→r x H Q →
  wpAny (model X.prog X.w) X.A (f v) (EP X pins σ Q) X.xe s
def qO (X:Cx)(f:Value)(r:List V→Hp→VK→Prop):Prop :=
 ∀(pins:List (Addr×Obj)) (s:Shared) (σ:St) (H:Hp) (xs:List V) (us:List Value) (Q:VK),Inv X pins σ H s→yy xs us→r xs H Q →
  wpAny (model X.prog X.w) X.A (call f us) (EP X pins σ Q) X.xe s
def tOp (r:R2)(ta tb:TE):TE:=fun σ H Q=>ta σ H fun x H1=>tb σ H1 fun y H2=>r x y H2 Q
def tUn (r:V→Hp→VK→Prop)(ta:TE):TE:=fun σ H Q=>ta σ H fun x H1=>r x H1 Q
def rI (C:Int→Int→Prop)(g:Int→Int→V):R2:=fun x y H Q=>∃i j,x=.int i∧y=.int j∧C i j∧Q (g i j) H
def rI0 (g:Int→Int→V):R2:=fun x y H Q=>∃i j,x=.int i∧y=.int j∧Q (g i j) H
def rU (g:Int→V):V→Hp→VK→Prop:=fun x H Q=>∃i,x=.int i∧Q (g i) H
section
variable {X:Cx} {a b c:Expr} {ta tb tc:TE} {pos:Pos}
theorem xbG (ha:PE X a ta)(hb:PE X b tb){pins:List (Addr×Obj)}{s:Shared}{σ:St}{H:Hp}{R:V→V→Hp→Prop}(I:Inv X pins σ H s)
  (h:ta σ H fun x H1=>tb σ H1 fun y H2=>R x y H2) {Q:Value→Shared→Prop} {f:Value→Value→Sem Value}
  (hf:∀v u s2 x y H2,Inv X pins σ H2 s2→RelV x v→RelV y u→R x y H2→wpAny (model X.prog X.w) X.A (f v u) Q X.xe s2) :
  wpAny (model X.prog X.w) X.A (eval a X.env) (fun v s₁=>wpAny (model X.prog X.w) X.A (eval b X.env) (fun u s₂=>wpAny (model X.prog X.w) X.A (f v u) Q X.xe s₂) X.xe s₁) X.xe s:=by
 refine thn (@ha pins s σ H _ I h) fun v s1 ⟨x,H1,I1,r1,q1⟩=>?_
 refine thn (@hb pins s1 σ H1 _ I1 q1) fun u s2 ⟨y,H2,I2,r2,q2⟩=>?_
 exact hf v u s2 x y H2 I2 r1 r2 q2
theorem xu {op:Operator}{r:R2}(ho:OpR X (binaryOp op) r)(ha:PE X a ta)(hb:PE X b tb):PE X (.BinOp a op b pos) (tOp r ta tb):=by
 intro pins s σ H Q I h
 exact wpAny_BinOp (xbG ha hb I h fun v u s2 x y H2 I2 rx ry q=>@ho pins s2 σ H2 x y v u Q I2 rx ry q)
theorem zU {op:UnaryOp}{r:V→Hp→VK→Prop}(ho:UnR X (unaryOp op) r)(ha:PE X a ta):PE X (.UnaryOp op a pos) (tUn r ta):=by
 intro pins s σ H Q I h
 exact UnaryOp_ (thn (@ha pins s σ H _ I h) fun v s1 ⟨x,H1,I1,r1,q1⟩=>@ho pins s1 σ H1 x v Q I1 r1 q1)
theorem opI {f:Value→Value→Sem Value}{C:Int→Int→Prop}{g:Int→Int→Int}
  (rule:∀(i j:Int) (t u:Tok) (s:Shared) (Q:Value→Shared→Prop) (E:Value→Shared→Prop),C i j→Q (.int (g i j) s.toks) { s with toks:=s.toks+1 }→wpAny (model X.prog X.w) X.A (f (.int i t) (.int j u)) Q E s) :
  OpR X f (rI C fun i j=>.int (g i j)):=by
 intro pins s σ H x y v u Q I rx ry h
 obtain⟨i,j,rfl,rfl,hc,q⟩:=h
 obtain⟨t,rfl⟩:=rx
 obtain⟨t',rfl⟩:=ry
 exact rule i j t t' s _ _ hc ⟨.int (g i j),H,I.tok _,⟨_,rfl⟩,q⟩
theorem xcD {f:Value→Value→Sem Value}{g:Int→Int→Int}
  (rule:∀(i j:Int) (t u:Tok) (s:Shared) (Q:Value→Shared→Prop) (E:Value→Shared→Prop),Q (.int (g i j) s.toks) { s with toks:=s.toks+1 }→wpAny (model X.prog X.w) X.A (f (.int i t) (.int j u)) Q E s) :
  OpR X f (rI0 fun i j=>.int (g i j)):=by
 intro pins s σ H x y v u Q I rx ry h
 obtain⟨i,j,rfl,rfl,q⟩:=h
 obtain⟨t,rfl⟩:=rx
 obtain⟨t',rfl⟩:=ry
 exact rule i j t t' s _ _ ⟨.int (g i j),H,I.tok _,⟨_,rfl⟩,q⟩
theorem xbg {f:Value→Value→Sem Value}{g:Int→Int→Bool}
  (rule:∀(i j:Int) (t u:Tok) (s:Shared) (Q:Value→Shared→Prop) (E:Value→Shared→Prop),Q (.bool (g i j)) s→wpAny (model X.prog X.w) X.A (f (.int i t) (.int j u)) Q E s) :
  OpR X f (rI0 fun i j=>.bl (g i j)):=by
 intro pins s σ H x y v u Q I rx ry h
 obtain⟨i,j,rfl,rfl,q⟩:=h
 obtain⟨t,rfl⟩:=rx
 obtain⟨t',rfl⟩:=ry
 exact rule i j t t' s _ _ ⟨.bl (g i j),H,I,rfl,q⟩
def xcm (i j:Int):Prop:=0≤j∧j≤1000000∧i.natAbs<2 ^ 64
def xbe (i j:Int):Prop:=(-(2 ^ 64)<i∧i<2 ^ 64)∨(-(2 ^ 64)<j∧j<2 ^ 64)
theorem xbe.ok {i j:Int}(h:xbe i j):IntMulOk i j:=by
 rcases h with ⟨h1,h2⟩ | ⟨h1,h2⟩
 ·exact .of_left (intBits_le_64 h1 h2)
 ·exact .of_right (intBits_le_64 h1 h2)
theorem ze:OpR X (binaryOp .Add) (rI0 fun i j=>.int (i+j)):=xcD fun _ _ _ _ _ _ _ q=>add_int q
theorem zE:OpR X (binaryOp .Sub) (rI0 fun i j=>.int (i-j)):=xcD fun _ _ _ _ _ _ _ q=>sub_int q
theorem fw:OpR X (binaryOp .Mult) (rI xbe fun i j=>.int (i*j)):=opI fun _ _ _ _ _ _ _ hc q=>mul_int q hc.ok
theorem jW:OpR X (binaryOp .Mod) (rI (fun _ j=>0<j) fun i j=>.int (i % j)):=opI fun i j _ _ _ _ _ hc q=>by
 have h1:(0:Int)<j:=hc
 exact mod_int' (by omega) (by rw[Int.fmod_eq_emod_of_nonneg i (by omega)];exact q)
theorem gB:OpR X (binaryOp .Mod) (rI (fun _ j=>j≠0) fun i j=>.int (i.fmod j)):=opI fun _ _ _ _ _ _ _ hc q=>mod_int' hc q
theorem p7:OpR X (binaryOp .Pow) (rI xcm fun i j=>.int (i ^ j.toNat)):=opI fun _ _ _ _ _ _ _ hc q=>pow_int_small hc.1 hc.2.1 hc.2.2 q
theorem unI {f:Value→Sem Value}{g:Int→Int}
  (rule:∀(i:Int) (t:Tok) (s:Shared) (Q:Value→Shared→Prop) (E:Value→Shared→Prop),Q (.int (g i) s.toks) { s with toks:=s.toks+1 }→wpAny (model X.prog X.w) X.A (f (.int i t)) Q E s) :
  UnR X f (rU fun i=>.int (g i)):=by
 intro pins s σ H x v Q I rx h
 obtain⟨i,rfl,q⟩:=h
 obtain⟨t,rfl⟩:=rx
 exact rule i t s _ _ ⟨.int (g i),H,I.tok _,⟨_,rfl⟩,q⟩
theorem yK:UnR X (unaryOp .USub) (rU fun i=>.int (-i)):=unI fun _ _ _ _ _ q=>neg_int q
end
section
variable {X:Cx} {a b c:Expr} {ta tb tc:TE} {pos:Pos}
theorem xab:OpR X (compareOp .Lt) (rI0 fun i j=>.bl (decide (i<j))):=xbg fun _ _ _ _ _ _ _ q=>lt_int q
theorem gJ:OpR X (compareOp .LtE) (rI0 fun i j=>.bl (decide (i≤j))):=xbg fun _ _ _ _ _ _ _ q=>le_int q
theorem fJ:OpR X (compareOp .Gt) (rI0 fun i j=>.bl (decide (j<i))):=xbg fun _ _ _ _ _ _ _ q=>gt_int q
theorem xbC:OpR X (compareOp .GtE) (rI0 fun i j=>.bl (decide (j≤i))):=xbg fun _ _ _ _ _ _ _ q=>ge_int q
theorem OpR.or {f:Value→Value→Sem Value}{r r':R2}(h:OpR X f r)(h':OpR X f r'):OpR X f (fun x y H Q=>r x y H Q∨r' x y H Q):=by
 intro pins s σ H x y v u Q I rx ry q
 rcases q with q | q
 ·exact @h pins s σ H x y v u Q I rx ry q
 ·exact @h' pins s σ H x y v u Q I rx ry q
theorem xV (b:Expr){op:CmpOp}(h:op≠.In:=by decide)(h2:op≠.NotIn:=by decide):behindInMarks op b=false:=by
 have e1:(op == CmpOp.In)=false:=by cases op<;>first | rfl | exact absurd rfl h
 have e2:(op == CmpOp.NotIn)=false:=by cases op<;>first | rfl | exact absurd rfl h2
 cases b<;>simp[behindInMarks,e1,e2]
theorem zw {op:CmpOp}{r:R2}(ho:OpR X (compareOp op) r)(ha:PE X a ta)(hb:PE X b tb)(hm:behindInMarks op b=false):PE X (.Compare a [op] [b] pos) (tOp r ta tb):=by
 intro pins s σ H Q I h
 exact wpAny_Compare1 (xbG ha hb I h fun v u s2 x y H2 I2 rx ry q=>@ho pins s2 σ H2 x y v u Q I2 rx ry q) hm
def oR (t:TE):TT:=fun σ H Q=>t σ H fun x H'=>∃k,x=.bl k∧Q k H'
theorem xW {op:CmpOp}{r:R2}(ho:OpR X (compareOp op) r)(ha:PE X a ta)(hb:PE X b tb)(hm:behindInMarks op b=false):PT X (.Compare a [op] [b] pos) (oR (tOp r ta tb)):=by
 intro pins s σ H Q I h
 refine wpAny_isTrue_Compare1 (thn (@ha pins s σ H _ I h) fun v s1 ⟨x,H1,I1,r1,q1⟩=>thn (@hb pins s1 σ H1 _ I1 q1) fun u s2 ⟨y,H2,I2,r2,q2⟩ =>
  thn (@ho pins s2 σ H2 x y v u _ I2 r1 r2 q2) fun c s3 ⟨z,H3,I3,r3,k,e,q3⟩=>?_) hm
 subst e
 cases r3
 exact wpAny_truthy_bool ⟨H3,I3,q3⟩
def pR (r r':R2)(ta tb tc:TE):TE:=fun σ H Q=>ta σ H fun x H1=>tb σ H1 fun y H2=>r x y H2 fun z H3=>∃k,z=.bl k ∧
 (if k=true then tc σ H3 fun w' H4=>r' y w' H4 Q else Q (.bl false) H3)
theorem bV {op op':CmpOp}{r r':R2}(ho:OpR X (compareOp op) r)(ho':OpR X (compareOp op') r')(ha:PE X a ta)(hb:PE X b tb)(hc:PE X c tc)
  (hm:lastMarks [op,op'] [b,c]=false:=by with_unfolding_all rfl):PT X (.Compare a [op,op'] [b,c] pos) (oR (pR r r' ta tb tc)):=by
 intro pins s σ H Q I h
 refine isTrue_chain (thn (@ha pins s σ H _ I h) fun v s1 ⟨x,H1,I1,r1,q1⟩=>test_link (thn (@hb pins s1 σ H1 _ I1 q1) fun u s2 ⟨y,H2,I2,r2,q2⟩ =>
  thn (@ho pins s2 σ H2 x y v u _ I2 r1 r2 q2) fun d s3 ⟨z,H3,I3,r3,k,e,q3⟩=>?_)) hm
 subst e
 cases r3
 refine wpAny_truthy_bool ?_
 cases k with
 | false =>
  obtain⟨k',e',q'⟩:=q3
  cases e'
  exact ite_ff ⟨H3,I3,q'⟩
 | true =>
  refine ite_tt (test_last (thn (@hc pins s3 σ H3 _ I3 q3) fun w' s4 ⟨z',H4,I4,r4,q4⟩=>thn (@ho' pins s4 σ H4 y z' u w' _ I4 r2 r4 q4) fun d' s5 ⟨z2,H5,I5,r5,k2,e2,q5⟩=>?_))
  subst e2
  cases r5
  exact wpAny_truthy_bool ⟨H5,I5,q5⟩
theorem fk:(sizeLine:Nat)<2 ^ 63:=by rw[sizeLine_eq];decide
theorem vals1 {x:V}{us:List Value}(r:yy [x] us):∃u,us=[u]∧RelV x u:=by
 cases r with
 | cons r1 r2=>cases r2;exact⟨_,rfl,r1⟩
theorem vals2 {x y:V}{us:List Value}(r:yy [x,y] us):∃u w',us=[u,w']∧RelV x u∧RelV y w':=by
 cases r with
 | cons r1 r2 =>
  cases r2 with
  | cons r3 r4=>cases r4;exact⟨_,_,rfl,r1,r3⟩
theorem zT:qO X (.builtin "abs") (fun xs H Q=>∃i,xs=[.int i]∧Q (.int (if i<0 then -i else i)) H):=by
 intro pins s σ H xs us Q I r h
 obtain⟨i,rfl,q⟩:=h
 obtain⟨u,rfl,t,rfl⟩:=vals1 r
 exact call_abs_int fun u tk=>⟨.int (if i<0 then -i else i),H,I.tok _,⟨_,rfl⟩,q⟩
theorem mf (hc:X.calm=true):qO X (.builtin "max") (fun xs H Q=>∃i j,xs=[.int i,.int j]∧Q (.int (if j>i then j else i)) H):=by
 intro pins s σ H xs us Q I r h
 obtain⟨i,j,rfl,q⟩:=h
 obtain⟨u,w',rfl,⟨t,rfl⟩,⟨t',rfl⟩⟩:=vals2 r
 refine max_two_ints (I.ok.hd hc) fun h' tk k=>⟨_,H,I.kept k,?_,q⟩
 by_cases hj:j>i
 ·rw[if_pos hj,if_pos hj];exact⟨_,rfl⟩
 ·rw[if_neg hj,if_neg hj];exact⟨_,rfl⟩
theorem bA (hc:X.calm=true):qO X (.builtin "min") (fun xs H Q=>∃i j,xs=[.int i,.int j]∧Q (.int (if j<i then j else i)) H):=by
 intro pins s σ H xs us Q I r h
 obtain⟨i,j,rfl,q⟩:=h
 obtain⟨u,w',rfl,⟨t,rfl⟩,⟨t',rfl⟩⟩:=vals2 r
 refine min_two_ints (I.ok.hd hc) fun h' tk k=>⟨_,H,I.kept k,?_,q⟩
 by_cases hj:j<i
 ·rw[if_pos hj,if_pos hj];exact⟨_,rfl⟩
 ·rw[if_neg hj,if_neg hj];exact⟨_,rfl⟩
end
end L2
namespace L2
open PySem PySem.Spec PyProof.Rows
structure xbk (h:Heap)(x dx C:Addr)(mA:Str→Option Value):Prop where
 obj:h.get? x=some (PySem.W.instObj C dx)
 ns:h.Ns1 dx mA
 ne:dx≠x
theorem mL {h:Heap}{dx:Addr}{mA:Str→Option Value}(n:h.Ns1 dx mA):∃od,h.get? dx=some od∧∀name,PySem.W.lookIn name od=some (mA name):=by
 obtain⟨o,es,ep,ho,hd,hk,_,hm⟩:=n
 refine⟨o,ho,fun name=>?_⟩
 have e:=hm name
 unfold nsFind findBy at e
 rw[←Array.find?_toList] at e
 unfold PySem.W.lookIn
 rw[hd]
 dsimp only
 split
 ·rename_i y q
  rw[q] at e
  exact xeO some e
 ·rename_i q
  rw[q] at e
  have a:es.toList.any (·.refKey)=false:=by
   rw[List.any_eq_false]
   intro y hy
   obtain⟨z,t,hkey⟩:=hk y (Array.mem_toList_iff.mp hy)
   simp[DictEntry.refKey,hkey]
  have a':¬es.toList.any (·.refKey)=true:=by rw[a];exact xdd
  rw[if_neg a']
  exact xeO some e
theorem xbk.look {h:Heap}{x dx C:Addr}{mA:Str→Option Value}(I:xbk h x dx C mA):∃od,PySem.W.InstAt h x (PySem.W.instObj C dx) C (some od)∧∀name,PySem.W.lookIn name od=some (mA name) :=
 let ⟨od,ho,hl⟩:=mL I.ns
 ⟨od,⟨I.obj,rfl,rfl,ho⟩,hl⟩
section
variable {prog:Program} {w:World} {A:Around} {E:Value→Shared→Prop} {s:Shared} {K:PySem.W.Frag} {x dx C f:Addr} {mA:Str→Option Value} {name:Str} {v:Value}
end
section
variable {P:Program} {w:World} {H H':Hp} {h h':Heap} {a C dx:Addr} {fs fs':List (Str×V)}
theorem oH (hok:HOk P w H h)(e:H a=some (.ins C dx fs)):∃mA,xbk h a dx C mA∧(∀f,xbE (fs.lookup f) (mA f))∧PySem.Within mA (fs.map (·.1))∧fs.length≤1000∧H dx=some (.own a):=by
 obtain⟨d,z,ne,ob,mA,n,r,q⟩:=(show zI P w H h a (.ins C dx fs) from hok a _ e)
 exact⟨mA,⟨ob,n,ne⟩,r,q,z,d⟩
end
structure Cls (K:PySem.W.Frag)(C:Addr):Prop where
 pg:PySem.W.plainGet K C Str.empty=true
 hd:PySem.W.hasDictIn K C=true
 po:PySem.W.plainOver K C=true
 sa:PySem.W.findIn K (.ref C) "__setattr__" = some (some (.builtin "object.__setattr__"))
theorem Cls.get {K:PySem.W.Frag}{C:Addr}(c:Cls K C)(f:Str):PySem.W.plainGet K C f=true:=c.pg
section
variable {X:Cx} {pins:List (Addr×Obj)} {σ:St} {H:Hp} {s:Shared} {a C dx:Addr} {fs:List (Str×V)} {f:Str} {v:V} {A:Around} {E:Value→Shared→Prop}
end
section
variable {X:Cx} {o e value:Expr} {f:Str} {pos pos' tpos:Pos} {ta tv:TE}
end
section
variable {X:Cx} {pins:List (Addr×Obj)} {σ:St} {H:Hp} {s:Shared} {A:Around} {E:Value→Shared→Prop} {Q:Value→Shared→Prop} {c:Value} {b:Bool}
inductive rS (K:PySem.W.Frag)(H:Hp):V→Value→Prop where
 | non:rS K H .non (.type "NoneType")
 | bl (x:Bool):rS K H (.bl x) (.type "bool")
 | int (i:Int):rS K H (.int i) (.type "int")
 | str (x:Str):rS K H (.str x) (.type "str")
 | flt (x:UInt64):rS K H (.flt x) (.type "float")
 | lst {a:Addr} {xs:List V} (e:H a=some (.lst xs)):rS K H (.ref a) (.type "list")
 | frz {a:Addr} {o:Obj} {xs:List V} (e:H a=some (.frz o (.lst xs))):rS K H (.ref a) (.type "list")
 | tup {a:Addr} {xs:List V} (e:H a=some (.tup xs)):rS K H (.ref a) (.type "tuple")
 | dK {a:Addr} {kvs:List (Key×V)} (e:H a=some (.dK kvs)):rS K H (.ref a) (.type "dict")
 | dT {a:Addr} {kvs:List (List Key×V)} (e:H a=some (.dT kvs)):rS K H (.ref a) (.type "dict")
 | ins {a C dx:Addr} {fs:List (Str×V)} (e:H a=some (.ins C dx fs)) (cl:Cls K C) (ha:PySem.W.findIn K (.ref C) "__class__" = some (some (.builtin "object.__class__")))
   (hn:PySem.W.specialIn K (.builtin "object.__class__") "__get__" = some (some (.builtin "getset_descriptor.__get__"))) (htk:PySem.W.takesIn K (.builtin "object.__class__")=some true)
   (hm:PySem.W.mroIn K C (.type "object")=some true):rS K H (.ref a) (.ref C)
theorem tY {x:V}{u t:Value}(I:Inv X pins σ H s)(rx:RelV x u)(ty:rS X.K H x t)(e:PySem.W.kitOne X.K t c=some b)(h:∀tk,Q (.bool b) { s with toks:=tk }) :
  wpAny (model X.prog X.w) A (call (.builtin "isinstance") [u,c]) Q E s:=by
 cases ty with
 | non=>cases (show u=Value.none from rx);exact PySem.W.kia_one PySem.W.kitx_none I.kIn True.intro e (fun z=>nomatch z) h
 | bl y=>cases (show u=Value.bool y from rx);exact PySem.W.kia_one PySem.W.kitx_bool I.kIn True.intro e (fun z=>nomatch z) h
 | int i=>obtain⟨t,q⟩:=(show ∃t,u=Value.int i t from rx);cases q;exact PySem.W.kia_one PySem.W.kitx_int I.kIn True.intro e (fun z=>nomatch z) h
 | str y=>obtain⟨t,q⟩:=(show ∃t,u=Value.str y t from rx);cases q;exact PySem.W.kia_one PySem.W.kitx_str I.kIn True.intro e (fun z=>nomatch z) h
 | flt y=>obtain⟨t,q⟩:=(show ∃t,u=Value.float y t from rx);cases q;exact PySem.W.kia_one PySem.W.kitx_float I.kIn True.intro e (fun z=>nomatch z) h
 | @lst a xs ea =>
  cases (show u=Value.ref a from rx)
  obtain⟨_,_,n,_,h1⟩:=(show zI X.prog X.w H s.heap a (.lst xs) from I.hok a _ ea)
  exact PySem.W.kia_one PySem.W.kitx_list I.kIn ⟨_,h1,rfl⟩ e (fun z=>nomatch z) h
 | @frz a ob xs ea =>
  cases (show u=Value.ref a from rx)
  obtain⟨_,_,_,n,_,h1⟩:=(show zI X.prog X.w H s.heap a (.frz ob (.lst xs)) from I.hok a _ ea)
  exact PySem.W.kia_one PySem.W.kitx_list I.kIn ⟨_,h1,rfl⟩ e (fun z=>nomatch z) h
 | @tup a xs ea =>
  cases (show u=Value.ref a from rx)
  obtain⟨_,_,_,p⟩:=(show zI X.prog X.w H s.heap a (.tup xs) from I.hok a _ ea)
  obtain⟨o,h1,h2,_⟩:=p
  exact PySem.W.kia_one PySem.W.kitx_tuple I.kIn ⟨o,h1,h2⟩ e (fun z=>nomatch z) h
 | @dK a kvs ea =>
  cases (show u=Value.ref a from rx)
  obtain⟨_,_,vs,_,p⟩:=(show zI X.prog X.w H s.heap a (.dK kvs) from I.hok a _ ea)
  obtain⟨o,es,ep,h1,h2,_⟩:=p
  exact PySem.W.kia_one PySem.W.kitx_dict I.kIn ⟨o,h1,h2.1⟩ e (fun z=>nomatch z) h
 | @dT a kvs ea =>
  cases (show u=Value.ref a from rx)
  obtain⟨_,_,xs,_,o,es,ep,h1,h2,_⟩:=(show zI X.prog X.w H s.heap a (.dT kvs) from I.hok a _ ea)
  exact PySem.W.kia_one PySem.W.kitx_dict I.kIn ⟨o,h1,h2.1⟩ e (fun z=>nomatch z) h
 | @ins a C dx fs ea cl ha hn htk hm =>
  cases (show u=Value.ref a from rx)
  obtain⟨mA,O,_⟩:=oH I.hok ea
  obtain⟨od,J,_⟩:=O.look
  exact PySem.W.kia_one (PySem.W.kitx_own (cl.get _) cl.hd ha hn htk hm) I.kIn J e (fun z=>nomatch z) h
end
end L2
namespace L2
open PySem PySem.Spec PyProof.Rows
structure jJ (k:Nat)(A:Around):Prop where
 hd:A.handled=none
 dp:A.depth+3*k+5<recursionLimit
 un:A.units+16*k+200<cLine
theorem jJ.mono {j k:Nat}{A:Around}(r:jJ k A)(h:j≤k):jJ j A:=⟨r.hd,by have:=r.dp;omega,by have:=r.un;omega⟩
theorem jJ.deeper {k:Nat}{A:Around}(r:jJ (k+1) A)(env:Env):jJ k (A.deeper env) :=
 ⟨r.hd,by have:=r.dp;show A.depth+1+3*k+5<_;omega,by have:=r.un;show A.units+3+16*k+200<_;omega⟩
theorem jJ.depth {k:Nat}{A:Around}(r:jJ k A):A.depth<recursionLimit:=by have:=r.dp;omega
theorem jJ.units {k:Nat}{A:Around}(r:jJ k A):A.units+64<cLine:=by have:=r.un;omega
def dY:TA:=fun _ H Q=>Q [] H
def zL (ta:TE)(tr:TA):TA:=fun σ H Q=>ta σ H fun x H1=>tr σ H1 fun xs H2=>Q (x::xs) H2
section
variable {X:Cx} {e:Expr} {es:List Expr} {te:TE} {t:TA} {pos:Pos}
theorem wo:PA X [] dY:=fun _ _ _ _ H Q I h=>Calls.spliced_nil ⟨[],H,I,.nil,h⟩
theorem xS (ha:PE X e te)(hr:PA X es t)(hs:starEach (e::es) X.env=(false,eval e X.env)::starEach es X.env:=by rfl):PA X (e::es) (zL te t):=by
 intro pos pins s σ H Q I h
 rw[hs]
 show wpAny _ _ (spliced ((false,eval e X.env)::backTo pos (starEach es X.env))) _ _ s
 refine Calls.spliced_cons (thn (@ha pins s σ H _ I h) fun u s1 ⟨x,H1,I1,r1,q1⟩=>?_)
 exact thn (@hr pos pins s1 σ H1 _ I1 q1) fun us s2 ⟨xs,H2,I2,r2,q2⟩=>⟨x::xs,H2,I2,.cons r1 r2,q2⟩
def xbK (t:TA):TE:=fun σ H Q=>t σ H fun xs H1=>xs.length≤sizeLine∧∀p,H1 p=none→Q (.ref p) (upd H1 p (.tup xs))
def xbJ (t:TA):TE:=fun σ H Q=>t σ H fun xs H1=>xs.length≤sizeLine∧∀p,H1 p=none→Q (.ref p) (upd H1 p (.lst xs))
theorem yj {x1}(h:PA X es t):PE X (.Tuple es x1 pos) (xbK t):=by
 intro pins s σ H Q I hq
 refine wpAny_Tuple_spliced (thn (@h pos pins s σ H _ I hq) fun us s1 ⟨xs,H1,I1,r,z,q⟩=>⟨by rw[←r.length];exact z,?_⟩)
 have hf:H1 s1.heap.objs.size=none:=I1.hok.fresh (xeA _)
 refine⟨.ref s1.heap.objs.size,upd H1 s1.heap.objs.size (.tup xs),I1.laid (t':=s1.toks) (fun b u e=>Heap.get?_push_of_some _ e) (xeA _) ?_,rfl,q _ hf⟩
 exact⟨z,us,r,⟨_,Heap.get?_push_size _ rfl,rfl,_,rfl⟩⟩
theorem zY (h:PA X es t):PE X (.List es pos) (xbJ t):=by
 intro pins s σ H Q I hq
 refine wpAny_List_spliced (thn (@h pos pins s σ H _ I hq) fun us s1 ⟨xs,H1,I1,r,z,q⟩=>⟨by rw[←r.length];exact z,?_⟩)
 have hf:H1 s1.heap.objs.size=none:=I1.hok.fresh (xeA _)
 refine⟨.ref s1.heap.objs.size,upd H1 s1.heap.objs.size (.lst xs),I1.laid (t':=s1.toks) (fun b u e=>Heap.get?_push_of_some _ e) (xeA _) ?_,rfl,q _ hf⟩
 exact⟨z,us,0,r,Heap.get?_push_size _ rfl⟩
end
abbrev Sp:=List V→Hp→VK→XK→Prop
abbrev CXT:=List Env→Hp→Shared→XK→Value→Shared→Prop
structure xbf (P:Program)(w:World)(K:PySem.W.Frag)(mg:Str→Option Value)(base:Heap)(A:Around)(outer:List Env)(s:Shared)(H:Hp):Prop where
 frames:A.frames=some outer
 mod:Mod K mg base
 bs:∀b o,base.get? b=some o→s.heap.get? b=some o∧H b=none
 bsz:base.objs.size≤s.heap.objs.size
 funs:s.heap.FunFrames base outer
 frf:∀b∈frs outer,H b=none
 hok:HOk P w H s.heap
 bare:AllBare s.gens
def CE (outer:List Env)(P:Program)(w:World)(H:Hp)(s:Shared)(Q:VK)(u:Value)(s':Shared):Prop :=
 ∃v H',s'.os=s.os∧AllBare s'.gens∧Un (frs outer) [] H H' s.heap s'.heap∧HOk P w H' s'.heap∧RelV v u∧Q v H'
def CR (CX:CXT)(outer:List Env)(P:Program)(w:World)(H:Hp)(s:Shared)(Q:VK)(E:XK)(r:Result)(s':Shared):Prop :=
 match r with
 | .ok (.ret u)=>CE outer P w H s Q u s'
 | .ok _=>False
 | .error e=>CX outer H s E e s'
structure g_ (P:Program)(w:World)(K:PySem.W.Frag)(mg:Str→Option Value)(base:Heap)(CX:CXT)(k:Nat)(f:Addr)(fd:FuncData)(ps:List Str)(sp:Sp):Prop where
 len:∀vs H Q E,sp vs H Q E→vs.length=ps.length
 run:∀(A:Around) (outer:List Env) (s:Shared) (H:Hp) (args:Args) (us:List Value) (vs:List V) (Q:VK) (E:XK),jJ k A→xbf P w K mg base A outer s H→BindsTo s fd args (ps.zip us)→yy vs us→sp vs H Q E →
  codeAny (model P w) A (.call (.ref f) args) (CR CX outer P w H s Q E) s
theorem g_.mono {P:Program}{w:World}{K:PySem.W.Frag}{mg:Str→Option Value}{base:Heap}{CX:CXT}{j k:Nat}{f:Addr}{fd:FuncData}{ps:List Str}{sp:Sp}(F:g_ P w K mg base CX j f fd ps sp)(h:j≤k) :
  g_ P w K mg base CX k f fd ps sp:=⟨F.len,fun A outer s H args us vs Q E hr=>F.run A outer s H args us vs Q E (hr.mono h)⟩
theorem g_.imp {P:Program}{w:World}{K:PySem.W.Frag}{mg:Str→Option Value}{base:Heap}{CX:CXT}{k:Nat}{f:Addr}{fd:FuncData}{ps:List Str}{sp sp':Sp}(F:g_ P w K mg base CX k f fd ps sp)
  (h:∀vs H Q E,sp' vs H Q E→sp vs H Q E):g_ P w K mg base CX k f fd ps sp' :=
 ⟨fun vs H Q E q=>F.len vs H Q E (h _ _ _ _ q),fun A outer s H args us vs Q E hr he hb hv hs=>F.run A outer s H args us vs Q E hr he hb hv (h _ _ _ _ hs)⟩
section
variable {X:Cx} {pins:List (Addr×Obj)} {σ:St} {H:Hp} {s s':Shared}
theorem Inv.env0 (I:Inv X pins σ H s):xbf X.prog X.w X.K X.mg X.base X.A X.stack s H :=
 ⟨I.ok.frames,I.ok.mod,I.bs,xeC I.ok.bsz I.sz,I.stack,I.stkFree,I.hok,I.bare⟩
theorem Inv.after {Q:VK}{u:Value}(I:Inv X pins σ H s)(h:CE X.stack X.prog X.w H s Q u s'):EP X pins σ Q u s':=by
 obtain⟨v,H',os,bare,un,hok,r,q⟩:=h
 obtain⟨hh,g,d,t,os'⟩:=s'
 obtain rfl:os'=s.os:=os
 exact⟨v,H',I.call (h':=hh) (g':=g) (d':=d) (t':=t) (ch:=[]) un hok bare (fun b z=>absurd z (by simp)),r,q⟩
end
def xbD (sp:Sp)(dvs:List V)(E:XK)(t:TA):TE:=fun σ H Q=>t σ H fun vs H1=>sp (vs++dvs) H1 Q E
def Binds (K:PySem.W.Frag)(fd:FuncData)(ps:List Str)(ds:List Value):Prop :=
 ∀(s:Shared) (us:List Value),K.In s.heap→(us++ds).length=ps.length→BindsTo s fd ⟨us,[]⟩ (ps.zip (us++ds))
theorem Binds.all {K:PySem.W.Frag}{fd:FuncData}{ps:List Str}(h:∀us:List Value,us.length=ps.length→bindArgs fd ⟨us,[]⟩=pure (ps.zip us)):Binds K fd ps []:=fun s us _ hl=>by
 rw[xdz] at hl ⊢
 exact .of_eq (h us hl)
def nV (CX:CXT)(X:Cx)(E:XK):Prop:=∀(pins:List (Addr×Obj)) (σ:St) (H:Hp) (s:Shared) (e:Value) (s':Shared),Inv X pins σ H s→CX X.stack H s E e s'→X.xe e s'
section
variable {X:Cx} {CX:CXT} {k:Nat} {f C:Addr} {fd:FuncData} {ps:List Str} {sp:Sp} {dvs:List V} {ds:List Value} {E:XK} {x m:Str} {p pos apos:Pos} {e o:Expr} {es:List Expr} {ta:TE} {t:TA}
theorem xaj {pins:List (Addr×Obj)}{σ:St}{H:Hp}{s:Shared}{Q:VK}{us:List Value}{vs:List V}(F:g_ X.prog X.w X.K X.mg X.base CX k f fd ps sp)(hr:jJ k X.A)(hb:Binds X.K fd ps ds)(hd:yy dvs ds)(hx:nV CX X E)
  (I:Inv X pins σ H s) (r:yy vs us) (h:sp (vs++dvs) H Q E):wpAny (model X.prog X.w) X.A (call (.ref f) us) (EP X pins σ Q) X.xe s:=by
 have r2:yy (vs++dvs) (us++ds):=r.append hd
 have hl:(us++ds).length=ps.length:=by rw[←r2.length];exact F.len _ _ _ _ h
 refine wpAny_call (codeAny_mono (F.run X.A X.stack s H ⟨us,[]⟩ (us++ds) (vs++dvs) Q E hr I.env0 (hb s us I.kIn hl) r2 h) fun r s' hq=>?_)
 cases r with
 | error e=>exact hx pins σ H s e s' I hq
 | ok fl =>
  cases fl with
  | ret u=>exact I.after hq
  | next=>exact False.elim hq
  | brk=>exact False.elim hq
  | cont=>exact False.elim hq
theorem o6 (F:g_ X.prog X.w X.K X.mg X.base CX k f fd ps sp)(hr:jJ k X.A)(hg:Gl X x)(hm:X.mg x=some (.ref f))(hk:PySem.W.keepIn X.K (.ref f)=true)(hb:Binds X.K fd ps ds)(hd:yy dvs ds)(hx:nV CX X E)
  (ha:PA X (e::es) t) (hdb:(x == ("__debug__" : Str))=false:=by decide) (he:starEach (e::es) X.env=(false,eval e X.env)::starEach es X.env:=by rfl) (hpl:(backTo pos (starEach es X.env)).any (·.1)=false:=by rfl) :
  PE X (.Call (.Name x p) (e::es) [] pos) (xbD sp dvs E t):=by
 intro pins s σ H Q I h
 refine wpAny_Call_Name_kw (m7 I hg hm ?_ hdb)
 refine PySem.W.callWith_K (h₀:=X.base) I.ok.mod.kin hk (thn (@ha pos pins s σ H _ I h) fun us s1 ⟨vs,H1,I1,r,q⟩=>⟨I1.kIn,?_⟩) he hpl
 exact xaj F hr hb hd hx I1 r q
end
section
variable {X:Cx} {CX:CXT} {k:Nat} {f C:Addr} {fd:FuncData} {ps ks:List Str} {sp:Sp} {E:XK} {x m:Str} {p pos apos kpos:Pos} {e o:Expr} {es:List Expr} {kws:List Keyword} {te ta:TE} {t tk:TA} {nm:Option Str}
variable {g:List Value→List Value→List Value} {gV:List V→List V→List V}
end
structure xt (N P:List Str)(sc:Scope):Prop where
 kind:sc.kind=.function
 co:sc.isCoroutine=false
 gen:sc.isGenerator=false
 nd:N.Nodup
 pre:N.take P.length=P
 par:∀x∈P,sc.names.lookup x=some .local∨sc.names.lookup x=some .cell
 nofree:∀y∈sc.names,y.2≠.free
theorem fx {kindOf:Str→Option NameKind}{x:Str}:∀ {binds:List (Str×Value)} {m:Str→Option Value},(∀v,(x,v)∉binds)→bindL kindOf binds m x=m x
 | [],_,_=>rfl
 | (n,v)::r,m,h=>by
  unfold bindL
  rw[fx fun w hw=>h w (xed _ hw)]
  split
  ·have:x≠n:=by rintro rfl;exact h v xee
   simp[this]
  ·rfl
theorem dS {kindOf:Str→Option NameKind}{x:Str}:∀ {binds:List (Str×Value)} {m:Str→Option Value},(∀v,(x,v)∉binds)→bindC kindOf binds m x=m x
 | [],_,_=>rfl
 | (n,v)::r,m,h=>by
  unfold bindC
  rw[dS fun w hw=>h w (xed _ hw)]
  split
  ·rfl
  ·have:x≠n:=by rintro rfl;exact h v xee
   simp[this]
theorem fh {kindOf:Str→Option NameKind}{x:Str}{v:Value}:∀ {P:List Str} {vs:List Value} {i:Nat} {m:Str→Option Value},P.Nodup→P[i]? = some x→vs[i]? = some v→kindOf x=some .local →
  bindL kindOf (P.zip vs) m x=some v
 | [],_,_,_,_,h,_,_=>by simp at h
 | _::_,[],_,_,_,_,h,_=>by simp at h
 | p::P,w::vs,0,m,nd,h1,h2,hk=>by
  simp at h1 h2;subst h1;subst h2
  show bindL kindOf ((p,w)::P.zip vs) m p=_
  unfold bindL
  rw[fx fun v hv=>(xeo.mp nd).1 (List.of_mem_zip hv).1,if_pos hk]
  simp
 | p::P,w::vs,i+1,m,nd,h1,h2,hk=>by
  show bindL kindOf ((p,w)::P.zip vs) m x=_
  unfold bindL
  exact fh (i:=i) (xeo.mp nd).2 (by simpa using h1) (by simpa using h2) hk
theorem fO {kindOf:Str→Option NameKind}{x:Str}{v:Value}:∀ {P:List Str} {vs:List Value} {i:Nat} {m:Str→Option Value},P.Nodup→P[i]? = some x→vs[i]? = some v→kindOf x≠some .local →
  bindC kindOf (P.zip vs) m x=some v
 | [],_,_,_,_,h,_,_=>by simp at h
 | _::_,[],_,_,_,_,h,_=>by simp at h
 | p::P,w::vs,0,m,nd,h1,h2,hk=>by
  simp at h1 h2;subst h1;subst h2
  show bindC kindOf ((p,w)::P.zip vs) m p=_
  unfold bindC
  rw[dS fun v hv=>(xeo.mp nd).1 (List.of_mem_zip hv).1,if_neg hk]
  simp
 | p::P,w::vs,i+1,m,nd,h1,h2,hk=>by
  show bindC kindOf ((p,w)::P.zip vs) m x=_
  unfold bindC
  exact fO (i:=i) (xeo.mp nd).2 (by simpa using h1) (by simpa using h2) hk
def start (N:List Str)(vs:List V):St:=vs.map some++List.replicate (N.length-vs.length) none
def bH (CX:CXT)(P:Program)(w:World)(K:PySem.W.Frag)(mg:Str→Option Value)(base:Heap)(N:List Str)(qual:Str)(scope:Scope)(f:Addr)(cd:Value)(A:Around)(outer:List Env)(s:Shared)(H:Hp)(E:XK):Cx where
 prog:=P
 w:=w
 K:=K
 mg:=mg
 base:=base
 A:=A.deeper (envOfC qual scope s.heap.objs.size f cd)
 N:=N
 s₀:=s
 H₀:=H
 env:=envOfC qual scope s.heap.objs.size f cd
 outer:=outer
 stack:=envOfC qual scope s.heap.objs.size f cd::outer
 ex:=[]
 calm:=true
 fn:=fun _=>true
 pn:=[]
 xe:=fun e s'=>wpAny (model P w) (A.deeper (envOfC qual scope s.heap.objs.size f cd)) (leaving (envOfC qual scope s.heap.objs.size f cd) e) (fun _ s''=>CX outer H s E e s'') (fun e' s''=>CX outer H s E e' s'') s'
theorem rk {sc:Scope}{n:Nat}{x:Str}(h:sc.names.lookup x=some .cell):∃c,(cellsFrom n sc.names []).lookup x=some c:=by
 have q:=PySem.W.cellsFrom_some sc.names n [] (.inl h)
 exact Option.isSome_iff_exists.mp q
theorem bD {CX:CXT}{P:Program}{w:World}{K:PySem.W.Frag}{mg:Str→Option Value}{base:Heap}{N ps:List Str}{qual:Str}{scope:Scope}{f:Addr}{cd:Value}{A:Around}{outer:List Env}{s s1:Shared}{H:Hp}{E:XK}{us:List Value}{vs:List V}
  (S:xt N ps scope) (hd:A.handled=none) (e0:xbf P w K mg base A outer s H) (hl:vs.length=ps.length) (r:yy vs us)
  (x:InCallC s s.heap.objs.size (bindL (envOfC qual scope s.heap.objs.size f cd).kindOf (ps.zip us) fun _=>none) (cellsFrom (s.heap.objs.size+1) scope.names []) (bindC (envOfC qual scope s.heap.objs.size f cd).kindOf (ps.zip us) fun _=>none) s1) :
  Inv (bH CX P w K mg base N qual scope f cd A outer s H E) [] (start N vs) H s1:=by
 have hpl:ps.length≤N.length:=by have:=xeO List.length S.pre;rw[xd4] at this;omega
 obtain⟨h1,tk,rfl,hk⟩:=x.done
 have noA:∀b:Addr,b∉(bH CX P w K mg base N qual scope f cd A outer s H E).ex:=fun b z=>absurd (show b∈([]:List Addr) from z) (by simp)
 refine⟨⟨e0.mod,S.kind,rfl,rfl,xeA _,fun y z c h1 h2=>?_,fun y hy=>?_,fun y c _ h=>?_,fun _=>hd,Around.frames_deeper e0.frames,.inr ⟨rfl,rfl⟩,fun b z=>absurd z (noA b),e0.bs,e0.bsz,fun b _ _=>noA b,fun b z=>absurd z (noA b),e0.funs,e0.frf⟩,
  rfl,e0.bare,Un.kept hk,⟨_,x.toInCall.ns,fun i y v h1 h2 h3=>?_⟩,fun y c h=>⟨_,x.cell y c h⟩,e0.hok.fresh (xeA _),fun y c h=>?_,fun p hp=>absurd (show p∈([]:List (Addr×Obj)) from hp) (by simp),e0.hok.kept hk,?_⟩
 ·exact name_of_addr x.apart (PySem.mem_of_lookup h1) (PySem.mem_of_lookup h2)
 ·have hy:scope.names.lookup y=some .cell∨scope.names.lookup y=some .free:=hy
  rcases hy with hy | hy
  ·exact rk hy
  ·exact absurd rfl (S.nofree _ (PySem.mem_of_lookup hy))
 ·exact xez (x.above y c (PySem.mem_of_lookup h))
 ·have hi:i<vs.length:=by
   unfold start at h2
   by_cases hi:i<vs.length
   ·exact hi
   ·rw[List.getElem?_append_right (by simpa using hi)] at h2
    rw[List.getElem?_replicate] at h2
    split at h2<;>cases h2
  have ha:vs[i]? = some v:=by
   unfold start at h2
   rw[xdN (by simpa using hi),xdR] at h2
   cases e:vs[i]? with
   | none=>rw[e] at h2;cases h2
   | some a=>rw[e] at h2;cases h2;rfl
  obtain⟨u,hu,rv⟩:=r.get ha
  have hp:ps[i]? = some y:=by
   rw[←S.pre,List.getElem?_take_of_lt (by omega)];exact h1
  have ndP:ps.Nodup:=by rw[←S.pre];exact S.nd.sublist (List.take_sublist _ _)
  refine⟨u,rv,?_⟩
  rcases S.par y (xei hp) with k | k
  ·exact .inl ⟨k,fh ndP hp hu k⟩
  ·obtain⟨c,e⟩:=rk (n:=s.heap.objs.size+1) k
   refine .inr ⟨.inl k,c,e,?_⟩
   have q:=x.cell y c e
   rw[fO ndP hp hu (by show scope.names.lookup y≠_;rw[k];decide)] at q
   exact q
 ·exact e0.hok.fresh (xez (x.above y c (PySem.mem_of_lookup h)))
 ·unfold start
  show _=N.length
  rw[xdU,xdZ,List.length_replicate]
  omega
theorem xbR {CX:CXT}{P:Program}{w:World}{K:PySem.W.Frag}{mg:Str→Option Value}{base:Heap}{k:Nat}{f:Addr}{name qual:Str}{params:Arguments}{body:List Stmt}{scope:Scope}{dV kV doc pm cdv ct oc:Value}{an od:Option Addr}
  {osl:Array (Option Value)} {N ps:List Str} {sp:Sp} (lk:K.lookup f=some ⟨oc,od,.func (PySem.W.fnOf name qual params body scope dV kV doc pm an cdv ct),osl⟩) (hcd:PySem.W.codeIn K cdv qual=true) (S:xt N ps scope)
  (len:∀vs H Q E,sp vs H Q E→vs.length=ps.length)
  (hbody:∀(A:Around) (outer:List Env) (s:Shared) (H:Hp) (vs:List V) (Q:VK) (E:XK),jJ k (A.deeper (envOfC qual scope s.heap.objs.size f cdv))→sp vs H Q E →
   ∃t,PSs (bH CX P w K mg base N qual scope f cdv A outer s H E) body t∧t { nx:=fun _ H'=>Q .non H',rt:=Q } (start N vs) H) :
  g_ P w K mg base CX (k+1) f (PySem.W.fnOf name qual params body scope dV kV doc pm an cdv ct) ps sp:=by
 refine⟨len,fun A outer s H args us vs Q E hr e0 hb r hsp=>?_⟩
 have hl:=len _ _ _ _ hsp
 have KX:K.In s.heap:=e0.mod.kin.keeps fun b o e=>(e0.bs b o e).1
 have lim:s.heap.NoLimit:=e0.mod.nolimit.keeps fun b o e=>(e0.bs b o e).1
 have hkind:∀y∈ps.zip us,scope.names.lookup y.1=some .local∨(scope.names.lookup y.1=some .cell∧((cellsFrom (s.heap.objs.size+1) scope.names []).lookup y.1).isSome=true):=fun⟨n,v⟩ hy=>by
  rcases S.par n (List.of_mem_zip hy).1 with q | q
  ·exact .inl q
  ·exact .inr ⟨q,PySem.W.cellsFrom_some _ _ _ (.inl q)⟩
 refine codeAny_call_function hr.depth (KX _ _ lk) rfl S.co S.gen rfl (PySem.W.codeRec_of KX hcd) (hb _ _ _ _ ?_)
 refine wpAny_newFunctionEnv_cells S.kind hkind fun env he s1 x=>?_
 subst he
 refine⟨lim.keeps x.toInCall.keep,codeAny_func ?_⟩
 obtain⟨t,ht,hq⟩:=hbody A outer s H vs Q E (hr.deeper _) hsp
 have I:Inv (bH CX P w K mg base N qual scope f cdv A outer s H E) [] (start N vs) H s1:=bD S hr.hd e0 hl r x
 refine wpAny_mono (@ht [] s1 (start N vs) H _ I hq) (fun fl s' hs=>?_) fun e s' hs=>hs
 have fin:∀ {σ':St} {H':Hp} {v:V} {u:Value},Inv (bH CX P w K mg base N qual scope f cdv A outer s H E) [] σ' H' s'→RelV v u→Q v H'→CE outer P w H s Q u s' :=
  fun {σ' H' v u} J rv q=>⟨v,H',J.os,J.bare,J.base,J.hok,rv,q⟩
 cases fl with
 | ret u =>
  obtain⟨v,σ',H',J,rv,q⟩:=hs
  exact fin J rv q
 | next =>
  obtain⟨σ',H',J,q⟩:=hs
  exact fin (v:=V.non) (u:=Value.none) J rfl q
 | brk =>
  obtain⟨_,_,_,q⟩:=hs
  exact False.elim q
 | cont =>
  obtain⟨_,_,_,q⟩:=hs
  exact False.elim q
end L2
namespace L2
open PySem PySem.Spec PyProof.Rows
section
variable {X:Cx} {x:Str} {p pos:Pos} {e:Expr} {es:List Expr} {t:TA} {id T:String} {r:List V→Hp→VK→Prop}
def tCB (r:List V→Hp→VK→Prop)(t:TA):TE:=fun σ H Q=>t σ H fun vs H1=>r vs H1 Q
theorem xx (hc:qO X (.builtin id) r)(hg:Gl X x)(hm:X.mg x=none)(hv:bootBuiltins x=some (.builtin id))(ha:PA X (e::es) t)(hn:x ≠ "__name__" := by decide)(hdb:(x == ("__debug__" : Str))=false:=by decide)
  (he:starEach (e::es) X.env=(false,eval e X.env)::starEach es X.env:=by rfl) (hpl:(backTo pos (starEach es X.env)).any (·.1)=false:=by rfl):PE X (.Call (.Name x p) (e::es) [] pos) (tCB r t):=by
 intro pins s σ H Q I h
 refine wpAny_Call_Name_kw (jd I hg hm hv ?_ hn hdb)
 exact PyProof.Rows.callWith_builtin1 (thn (@ha pos pins s σ H _ I h) fun us s1 ⟨vs,H1,I1,r1,q1⟩=>@hc pins s1 σ H1 vs us Q I1 r1 q1) he hpl
theorem nk (hc:qO X (.type T) r)(hg:Gl X x)(hm:X.mg x=none)(hv:bootBuiltins x=some (.type T))(ha:PA X (e::es) t)(hn:x ≠ "__name__" := by decide)(hdb:(x == ("__debug__" : Str))=false:=by decide)
  (he:starEach (e::es) X.env=(false,eval e X.env)::starEach es X.env:=by rfl) (hpl:(backTo pos (starEach es X.env)).any (·.1)=false:=by rfl):PE X (.Call (.Name x p) (e::es) [] pos) (tCB r t):=by
 intro pins s σ H Q I h
 refine wpAny_Call_Name_kw (jd I hg hm hv ?_ hn hdb)
 exact PyProof.Rows.callWith_type1 (thn (@ha pos pins s σ H _ I h) fun us s1 ⟨vs,H1,I1,r1,q1⟩=>@hc pins s1 σ H1 vs us Q I1 r1 q1) he hpl
end
end L2
namespace HT
open PySem PyProof.Rows
def lexLt:List Int→List Int→Bool
 | [],[]=>false
 | [],_::_=>true
 | _::_,[]=>false
 | x::xs,y::ys=>if x=y then lexLt xs ys else decide (x<y)
theorem rT (x y:Int)(xs ys:List Int):lexLt (x::xs) (y::ys)=if x=y then lexLt xs ys else decide (x<y):=rfl
theorem hV:lexLt [] []=false:=rfl
theorem jP (y:Int)(ys:List Int):lexLt [] (y::ys)=true:=rfl
theorem jR (x:Int)(xs:List Int):lexLt (x::xs) []=false:=rfl
theorem cT (A:Around)(s:Shared)(a:Int)(t:Tok)(c:Int)(u:Tok):∃e,SeqAt.EqAt A s (.int a t) (.int c u) e∧(e=true↔a=c) :=
 ⟨(a == c),SeqAt.EqAt.int_int a t c u,by simp⟩
theorem cB (A:Around)(s:Shared)(a:Int)(t:Tok)(c:Int)(u:Tok)(prog:Program)(w:World)(E:Value→Shared→Prop)(Q:Value→Shared→Prop)(h:Q (.bool (decide (a<c))) s) :
  wpAny (model prog w) A (richCompare .Lt (.int a t) (.int c u)) Q E s :=
 (PyProof.Rows.lt_int h:wpAny (model prog w) A (compareOp .Lt (.int a t) (.int c u)) Q E s)
section
open PySem.SeqAt
open PySem.AutoSeq1 (wpAny_loadPart')
open PySem.MeetsSeq PySem.MeetsSeq2 PySem.MeetsSeq3
theorem hX (l b:Addr)(items items2:Array Value)(n n2:Nat)(dd dd2:Option Addr)(sl sl2:Array (Option Value))(ns ms:List Int)(hi:IntsAre items.toList ns)(hj:IntsAre items2.toList ms) :
  Meets (Builtin.«tuple.__lt__» ⟨[.ref l,.ref b],[]⟩)
   (fun _ R s=>s.heap.get? l=some { cls:=.type "tuple", dict:=dd,data:=.seq items n,slots:=sl }∧s.heap.get? b=some { cls:=.type "tuple", dict:=dd2,data:=.seq items2 n2,slots:=sl2 } ∧
    R (.ok (.ret (.bool (lexLt ns ms)))) s) :=
 .of_wp fun prog w A R s h=>by
  obtain⟨hp,g,d,tk,os⟩:=s;obtain⟨hl,hb,h⟩:=h
  have f2:=AutoSeq1.sub_tuple_tuple
  have z1:items.size=ns.length:=by rw[←hi.length];simp
  have z2:items2.size=ms.length:=by rw[←hj.length];simp
  wp_walk using wpAny_loadPart' hl,wpAny_loadPart' hb,wpAny_forIn_list _ (fun rest b s'=>b.1=none∧s'=⟨hp,g,d,tk,os⟩∧∃(vs ws:List Value) (ns' ms':List Int),rest=vs.zip ws ∧
   IntsAre vs ns'∧IntsAre ws ms'∧ns'.length+items2.size=ms'.length+items.size∧R (.ok (.ret (.bool (lexLt ns' ms')))) ⟨hp,g,d,tk,os⟩) _
  case turn =>
   rintro⟨y,x⟩ rest b s' ⟨hb',rfl,vs,ws,ns',ms',hz,hvi,hwi,hlen,hR⟩
   cases hvi with
   | nil=>rw[List.zip_nil_left] at hz;cases hz
   | cons a t hvi' =>
    cases hwi with
    | nil=>rw[List.zip_nil_right] at hz;cases hz
    | cons c u hwi' =>
     rw[List.zip_cons_cons] at hz
     injection hz with hyx hrest
     injection hyx with hy hx
     subst hy hx
     rw[rT] at hR
     simp only[xdV] at hlen
     obtain⟨e,he,hiff⟩:=cT A.in1 ⟨hp,g,d,tk,os⟩ a t c u
     refine wpAny_bind (he prog w _ _ ?_)
     cases e with
     | true =>
      rw[if_pos (hiff.mp rfl)] at hR
      wp_walk
      exact⟨rfl,rfl,_,_,_,_,hrest,hvi',hwi',by omega,hR⟩
     | false =>
      rw[if_neg (fun q=>absurd (hiff.mpr q) xdd)] at hR
      have hri:=cB A.in1 ⟨hp,g,d,tk,os⟩ a t c u prog w
      wp_walk using hri
      exact⟨_,rfl,by simpa using hR⟩
  case fin =>
   rintro⟨b1,b2⟩ s' ⟨hb',rfl,vs,ws,ns',ms',hz,hvi,hwi,hlen,hR⟩
   simp only at hb'
   subst hb'
   have hv:lexLt ns' ms'=decide (items.size<items2.size):=by
    cases hvi with
    | nil =>
     cases hwi with
     | nil =>
      simp only[xd0] at hlen
      rw[hV]
      exact(xeP (by omega)).symm
     | cons c u hw =>
      simp only[xd0,xdV] at hlen
      rw[jP]
      exact(xeQ (by omega)).symm
    | cons a t hv =>
     cases hwi with
     | nil =>
      simp only[xd0,xdV] at hlen
      rw[jR]
      exact(xeP (by omega)).symm
     | cons c u hw =>
      rw[List.zip_cons_cons] at hz
      cases hz
   rw[hv] at hR
   wp_walk
   exact⟨_,rfl,by simpa [Builtin.Tuple.tupleCompareSizes] using hR⟩
  case h =>
   exact⟨rfl,rfl,items.toList,items2.toList,ns,ms,rfl,hi,hj,by omega,h⟩
end
section
variable {prog:Program} {w:World} {A:Around} {E:Value→Shared→Prop} {s:Shared}
theorem tH {l b:Addr}{items items2:Array Value}{ns ms:List Int}{Q:Value→Shared→Prop}(hl:IsTup s.heap l items)(hb:IsTup s.heap b items2)(hi:IntsAre items.toList ns)(hj:IntsAre items2.toList ms)
  (hu:A.units<cLine) (h:Q (.bool (lexLt ns ms)) s):wpAny (model prog w) A (compareOp .Lt (.ref l) (.ref b)) Q E s:=by
 obtain⟨⟨cls,dd,data,sl⟩,ho,hc,n,hd⟩:=id hl
 obtain⟨⟨cls2,dd2,data2,sl2⟩,ho2,hc2,n2,hd2⟩:=id hb
 simp only at hc hd hc2 hd2
 subst hc hd hc2 hd2
 exact richCompare_meets_room (op:=.Lt) ⟨_,ho,rfl⟩ ⟨_,ho2,rfl⟩ PySem.F.slot_tuple_lt PySem.F.entry_tuple_lt (PySem.F.args_tuple_lt_2 _ _) (hX l b items items2 n n2 dd dd2 sl sl2 ns ms hi hj)
  ⟨ho,ho2,show Value.bool (lexLt ns ms)≠Value.notImplemented∧Q (.bool (lexLt ns ms)) s from⟨(fun x=>nomatch x),h⟩⟩ hu
theorem lB {t b:Addr}{vs ws:List Value}{Q:Value→Shared→Prop}(ht:IsTup s.heap t vs.toArray)(hb:IsTup s.heap b ws.toArray)(hv:vs≠[])
  (h1:ws=[]→Q (.ref t) s) (h2:ws≠[]→Q (.ref s.heap.objs.size) { s with heap:=s.heap.push { cls:=.type "tuple", data:=.seq (vs++ws).toArray } })
  (hsz:vs.length+ws.length≤sizeLine):wpAny (model prog w) A (binaryOp .Add (.ref t) (.ref b)) Q E s:=by
 obtain⟨⟨cls,dd,data,sl⟩,ho,hc,n,hd⟩:=id ht
 obtain⟨⟨cls2,dd2,data2,sl2⟩,ho2,hc2,n2,hd2⟩:=id hb
 simp only at hc hd hc2 hd2
 subst hc hd hc2 hd2
 have e:vs.toArray++ws.toArray=(vs++ws).toArray:=by simp
 by_cases hw:ws=[]
 ·exact concat_meets ⟨_,ho,rfl⟩ ⟨_,ho2,rfl⟩ noFill_tuple_add seq_tuple_add PySem.F.slot_tuple_add PySem.F.entry_tuple_add (PySem.F.args_tuple_add_2 _ _)
   (tuple_addW1 t b vs.toArray ws.toArray n n2 dd dd2 sl sl2 (by simpa using hv) (by simp[hw])) ⟨ho,ho2,h1 hw⟩
 ·refine concat_meets ⟨_,ho,rfl⟩ ⟨_,ho2,rfl⟩ noFill_tuple_add seq_tuple_add PySem.F.slot_tuple_add PySem.F.entry_tuple_add (PySem.F.args_tuple_add_2 _ _)
   (tuple_addW2 t b vs.toArray ws.toArray n n2 dd dd2 sl sl2 (by simpa using hv) (by simpa using hw) (by rw[xet,xet];exact hsz)) ⟨ho,ho2,?_⟩
  rw[e]
  exact h2 hw
def sIx (n d:Nat):Option Int→Nat
 | none=>d
 | some v=>if v<0 then(v+(n:Int)).toNat else min v.toNat n
theorem gY (n d:Nat):sIx n d none=d:=rfl
theorem nq (n d k:Nat):sIx n d (some (k:Int))=min k n:=by
 show(if (k:Int)<0 then((k:Int)+(n:Int)).toNat else min (k:Int).toNat n)=min k n
 rw[if_neg (by omega),xdt]
theorem xak (n d:Nat)(hd:d≤n)(o:Option Int):sIx n d o≤n:=by
 cases o with
 | none=>exact hd
 | some v =>
  show(if v<0 then(v+(n:Int)).toNat else min v.toNat n)≤n
  by_cases hv:v<0
  ·rw[if_pos hv];omega
  ·rw[if_neg hv];exact Nat.min_le_right _ _
theorem mr (v:Int)(n d:Nat):(if v<0 then max (v+(n:Int)) 0 else min v (n:Int))=((sIx n d (some v):Nat):Int):=by
 show(if v<0 then max (v+(n:Int)) 0 else min v (n:Int))=(((if v<0 then(v+(n:Int)).toNat else min v.toNat n):Nat):Int)
 by_cases hv:v<0
 ·simp only[if_pos hv];omega
 ·simp only[if_neg hv];omega
theorem tJ (lo hi:Option Int)(n:Nat):Builtin.Slice.sliceAdjust lo hi 1 (n:Int)=(((sIx n 0 lo:Nat):Int),((sIx n n hi:Nat):Int)):=by
 have h1:¬((1:Int)<0):=by omega
 unfold Builtin.Slice.sliceAdjust
 simp only[h1,xeS]
 refine Prod.ext ?_ ?_
 ·cases lo with
  | none=>rfl
  | some v=>exact mr v n 0
 ·cases hi with
  | none=>rfl
  | some v=>exact mr v n n
theorem td (i j:Nat):Builtin.Slice.slicePlaces (i:Int) (j:Int) 1=j-i:=by
 unfold Builtin.Slice.slicePlaces
 have h1:(1:Int)>0:=by omega
 simp only[h1,if_true,Int.ediv_one]
 split<;>omega
theorem j8 {v:Value}{o:Option Int}{Q:Option Int→Shared→Prop}(p:IsPart v o)(h:Q o s):wpAny (model prog w) A (Builtin.Slice.slicePartIndex v) Q E s:=by
 cases p with
 | none=>exact slicePart_none h
 | int i t=>exact slicePart_int h
theorem uC {sl:Addr}{vl vu:Value}{lo hi:Option Int}{n:Nat}{Q:Int×Int×Nat→Shared→Prop}(hs:s.heap.IsSliceOf sl vl vu .none)(pl:IsPart vl lo)(pu:IsPart vu hi)
  (h:Q (((sIx n 0 lo:Nat):Int),1,sIx n n hi-sIx n 0 lo) s):wpAny (model prog w) A (Builtin.Slice.sliceApplied (.ref sl) (pure (n:Int))) Q E s:=by
 obtain⟨os,hos,hcs,hds⟩:=id hs
 unfold Builtin.Slice.sliceApplied Builtin.Slice.sliceFields
 refine wpAny_bind (wpAny_bind (wpAny_field hos hds (x:=vl) rfl (wpAny_bind (wpAny_field hos hds (x:=vu) rfl (wpAny_bind (wpAny_field hos hds (x:=.none) rfl (wpAny_pure ?_)))))))
 refine wpAny_bind (slicePart_none ?_)
 show wpAny _ _ (if ((1:Int) == 0)=true then _ else _) _ _ s
 rw[if_neg (by decide)]
 refine wpAny_bind (j8 pl (wpAny_bind (j8 pu (wpAny_bind (wpAny_pure ?_)))))
 show wpAny _ _ (match Builtin.Slice.sliceAdjust lo hi 1 (n:Int) with | (lo,hi)=>pure (lo,(1:Int),Builtin.Slice.slicePlaces lo hi 1)) _ _ s
 rw[tJ lo hi n]
 show wpAny _ _ (pure (((sIx n 0 lo:Nat):Int),(1:Int),Builtin.Slice.slicePlaces ((sIx n 0 lo:Nat):Int) ((sIx n n hi:Nat):Int) 1)) _ _ s
 rw[td]
 exact wpAny_pure h
theorem cN (xs:Array Value)(i k:Nat):((List.range k).filterMap fun(m:Nat)=>xs[((i:Int)+(m:Int)*1).toNat]?).toArray=((xs.toList.drop i).take k).toArray:=by
 have e:(fun(m:Nat)=>xs[((i:Int)+(m:Int)*1).toNat]?)=fun m=>xs[i+m]?:=by
  funext m
  have:((i:Int)+(m:Int)*1).toNat=i+m:=by omega
  rw[this]
 rw[e]
 have:=pick_run xs i k
 rw[List.filterMap_map] at this
 have e2:((fun x=>xs[x]?) ∘ fun x=>i+x)=fun m=>xs[i+m]?:=rfl
 rw[e2] at this
 rw[this]
theorem qS {t sl:Addr}{items:Array Value}{vl vu:Value}{lo hi:Option Int}{Q:Value→Shared→Prop}(ht:IsTup s.heap t items)(hs:s.heap.IsSliceOf sl vl vu .none)(pl:IsPart vl lo)(pu:IsPart vu hi)
  (hw:¬(sIx items.size 0 lo=0∧sIx items.size items.size hi=items.size))
  (h:Q (.ref s.heap.objs.size) { s with heap:=s.heap.push { cls:=.type "tuple", data:=.seq ((items.toList.drop (sIx items.size 0 lo)).take (sIx items.size items.size hi-sIx items.size 0 lo)).toArray } })
  (hsz:items.size≤sizeLine):wpAny (model prog w) A (getItem (.ref t) (.ref sl)) Q E s:=by
 have htake:sizeOk (.seq ((items.toList.drop (sIx items.size 0 lo)).take (sIx items.size items.size hi-sIx items.size 0 lo)).toArray):=by
  show((items.toList.drop (sIx items.size 0 lo)).take (sIx items.size items.size hi-sIx items.size 0 lo)).toArray.size≤sizeLine
  rw[xet,xd4,xdW,Array.length_toList]
  omega
 have hj:sIx items.size items.size hi≤items.size:=xak _ _ (xeA _) hi
 obtain⟨os,hos,hcs,hds⟩:=id hs
 have hTs:s.TypeIs (.ref sl) "slice" := ⟨os,hos,hcs⟩
 unfold getItem
 try with_reducible refine wpAny_holding ?_
 first | refine wpAny_bind (wpAny_pure ?_) | skip
 refine wpAny_bind (wpAny_sequenceKey ht.typeIs (by decide) ?_)
 refine wpAny_bind (wpAny_callSpecial?_slot (name:=Str.ofString "__getitem__") ht.typeIs PyProof.Rows.slot_tuple_getitem
  (wpAny_call_entry PyProof.Rows.slot_tuple_getitem ht.typeIs entry_tuple_getitem ?_ (args_tuple_getitem _ _)))
 show wpAny _ _ (Builtin.Tuple.tupleItemsOf (.ref t) >>= _) _ _ s
 refine wpAny_bind (tupleItemsOf_ ht ?_)
 refine wpAny_bind (wpAny_typeOf hTs ?_)
 rw[if_pos (by decide)]
 refine wpAny_bind (uC hs pl pu ?_)
 have hno:¬((((sIx items.size 0 lo:Nat):Int) == 0&&(1:Int) == 1&&(sIx items.size items.size hi-sIx items.size 0 lo) == items.size)=true):=by
  intro q
  rw[xdc,xdc] at q
  have q1:((sIx items.size 0 lo:Nat):Int)=0:=eq_of_beq q.1.1
  have q2:sIx items.size items.size hi-sIx items.size 0 lo=items.size:=eq_of_beq q.2
  exact hw ⟨by omega,by omega⟩
 show wpAny _ _ (if (((sIx items.size 0 lo:Nat):Int) == 0&&(1:Int) == 1&&(sIx items.size items.size hi-sIx items.size 0 lo) == items.size)=true then _ else _) _ _ s
 rw[if_neg hno,cN]
 first
  | exact wpAny_bind (m:=Builtin.Tuple.tupleExact _) (wpAny_newObj_type (wpAny_pure ⟨_,rfl,wpAny_pure h⟩) htake)
  | exact wpAny_bind (m:=Builtin.Tuple.tupleExact _) (wpAny_newObj_type (wpAny_bind (wpAny_pure (wpAny_pure ⟨_,rfl,wpAny_pure h⟩))) htake)
  | exact wpAny_bind (wpAny_bind (m:=Builtin.Tuple.tupleExact _) (wpAny_newObj_type (wpAny_pure (wpAny_pure ⟨_,rfl,wpAny_pure h⟩)) htake))
  | exact wpAny_bind (wpAny_bind (m:=Builtin.Tuple.tupleExact _) (wpAny_newObj_type (wpAny_pure ⟨_,rfl,wpAny_pure h⟩) htake))
end
end HT
namespace L2
open PySem PySem.Spec PyProof.Rows
abbrev TO:=St→Hp→(Option Int→Hp→Prop)→Prop
def PO (X:Cx)(e:Option Expr)(t:TO):Prop :=
 ∀(pins:List (Addr×Obj)) (s:Shared) (σ:St) (H:Hp) (Q:Option Int→Hp→Prop),Inv X pins σ H s→t σ H Q →
  wpAny (model X.prog X.w) X.A (evalPart e X.env) (fun u s'=>∃o H',Inv X pins σ H' s'∧IsPart u o∧Q o H') X.xe s
def bB:TO:=fun _ H Q=>Q none H
def oO (t:TE):TO:=fun σ H Q=>t σ H fun x H1=>∃i,x=.int i∧Q (some i) H1
theorem intsAre_of {ns:List Int}:∀ {us:List Value},yy (ns.map V.int) us→IntsAre us ns:=by
 induction ns with
 | nil=>intro us r;rw[xd9] at r;cases r;exact .nil
 | cons n ns ih =>
  intro us r
  rw[xd7] at r
  cases r with
  | cons r1 r2 =>
   obtain⟨t,e⟩:=r1
   subst e
   exact .cons n t (ih r2)
section
variable {X:Cx} {e:Expr} {te:TE} {lo hi:Option Expr} {tl th:TO} {pos p2:Pos}
theorem jy:PO X none bB:=by
 intro pins s σ H Q I h
 rw[evalPart_none]
 exact wpAny_pure ⟨none,H,I,.none,h⟩
theorem vS (h:PE X e te):PO X (some e) (oO te):=by
 intro pins s σ H Q I hw
 rw[evalPart_some]
 refine thn (@h pins s σ H _ I hw) fun u s1 ⟨x,H1,I1,r1,q1⟩=>?_
 obtain⟨i,rfl,q⟩:=q1
 obtain⟨t,rfl⟩:=r1
 exact⟨some i,H1,I1,.int i t,q⟩
def SlR (X:Cx)(r:V→Option Int→Option Int→Hp→VK→Prop):Prop :=
 ∀(pins:List (Addr×Obj)) (s:Shared) (σ:St) (H:Hp) (x:V) (v vl vu:Value) (lo hi:Option Int) (sl:Addr) (Q:VK),Inv X pins σ H s→RelV x v→s.heap.IsSliceOf sl vl vu .none→IsPart vl lo→IsPart vu hi→r x lo hi H Q →
  ∃T id,typeLookup (.type T) "__getitem__" = pure (some (.builtin id))∧s.TypeIs v T∧wpAny (model X.prog X.w) X.A (getItem v (.ref sl)) (EP X pins σ Q) X.xe s
def tSl (r:V→Option Int→Option Int→Hp→VK→Prop)(te:TE)(tl th:TO):TE:=fun σ H Q=>te σ H fun x H1=>tl σ H1 fun l H2=>th σ H2 fun u H3=>r x l u H3 Q
theorem qw {r:V→Option Int→Option Int→Hp→VK→Prop}(hr:SlR X r)(he:PE X e te)(hl:PO X lo tl)(hu:PO X hi th):PE X (.Subscript e (.Slice lo hi none p2) pos) (tSl r te tl th):=by
 intro pins s σ H Q I h
 refine Subscript_ (thn (@he pins s σ H _ I h) fun v s1 ⟨x,H1,I1,r1,q1⟩=>?_)
 refine wpAny_Slice (thn (@hl pins s1 σ H1 _ I1 q1) fun vl s2 ⟨l,H2,I2,pl,q2⟩=>thn (@hu pins s2 σ H2 _ I2 q2) fun vu s3 ⟨u,H3,I3,pu,q3⟩=>?_)
 rw[evalPart_none]
 refine wpAny_pure ?_
 have I4:Inv X pins σ H3 { s3 with heap:=s3.heap.push { cls:=.type "slice", data:=.fields #[vl,vu,.none] } }:=I3.kept (t':=s3.toks) fun b ob q=>Heap.get?_push_of_some _ q
 obtain⟨T,id,hT,ht,hg⟩:=hr pins { s3 with heap:=s3.heap.push { cls:=.type "slice", data:=.fields #[vl,vu,.none] } } σ H3 x v vl vu l u s3.heap.objs.size Q I4 r1 (Heap.IsSliceOf.new ..) pl pu q3
 show wpAny (model X.prog X.w) X.A (subscriptTail e (.Slice lo hi none p2) v (.ref s3.heap.objs.size)) (EP X pins σ Q) X.xe { s3 with heap:=s3.heap.push { cls:=.type "slice", data:=.fields #[vl,vu,.none] } }
 exact tail_any (ops:=[.ref s3.heap.objs.size,v]) ht hT hg (by with_unfolding_all rfl)
def tE (xs:List V)(lo hi:Option Int):List V:=(xs.drop (HT.sIx xs.length 0 lo)).take (HT.sIx xs.length xs.length hi-HT.sIx xs.length 0 lo)
theorem k6 (xs:List V)(lo hi:Option Int):(tE xs lo hi).length≤xs.length:=by
 unfold tE
 rw[xd4,xdW]
 omega
def xcX (K:PySem.W.Frag):V→Option Int→Option Int→Hp→VK→Prop:=fun x lo hi H Q=>∃a xs,x=.ref a∧SqT K H a xs ∧
 ¬(HT.sIx xs.length 0 lo=0∧HT.sIx xs.length xs.length hi=xs.length)∧∀p,H p=none→Q (.ref p) (upd H p (.tup (tE xs lo hi)))
theorem l6:SlR X (xcX X.K):=by
 intro pins s σ H x v vl vu lo hi sl Q I rx hs pl pu h
 obtain⟨a,xs,rfl,hx,hw,q⟩:=h
 cases rx
 obtain⟨its,r,ht,hz⟩:=I.tuple hx
 have hlen:its.toArray.size=xs.length:=by rw[xet];exact r.length.symm
 refine⟨"tuple", _,PyProof.Rows.slot_tuple_getitem.lookup,ht.typeIs,?_⟩
 refine HT.qS ht hs pl pu (by rw[hlen];exact hw) ?_ (by rw[hlen];exact hz)
 rw[hlen]
 refine⟨.ref s.heap.objs.size,_,I.laid (t':=s.toks) (o:=.tup (tE xs lo hi)) (fun b ob q=>Heap.get?_push_of_some _ q) (xeA _) ?_,rfl,q _ (I.hok.fresh (xeA _))⟩
 exact⟨xeC (k6 xs lo hi) hz,_,(r.drop (HT.sIx xs.length 0 lo)).take (HT.sIx xs.length xs.length hi-HT.sIx xs.length 0 lo),IsTup.new _ _⟩
def xcx (K:PySem.W.Frag):R2:=fun x y H Q=>∃a b ns ms,x=.ref a∧y=.ref b∧SqT K H a (ns.map V.int)∧SqT K H b (ms.map V.int)∧Q (.bl (HT.lexLt ns ms)) H
theorem xaF (hu:X.A.units<cLine):OpR X (compareOp .Lt) (xcx X.K):=by
 intro pins s σ H x y v u Q I rx ry h
 obtain⟨a,b,ns,ms,rfl,rfl,ha,hb,q⟩:=h
 cases rx
 cases ry
 obtain⟨its,r1,p1,_⟩:=I.tuple ha
 obtain⟨its2,r2,p2,_⟩:=I.tuple hb
 have i1:IntsAre its.toArray.toList ns:=intsAre_of r1
 have i2:IntsAre its2.toArray.toList ms:=intsAre_of r2
 exact HT.tH p1 p2 i1 i2 hu ⟨.bl (HT.lexLt ns ms),H,I,rfl,q⟩
def xbV (K:PySem.W.Frag):R2:=fun x y H Q=>∃a b xs ys,x=.ref a∧y=.ref b∧SqT K H a xs∧SqT K H b ys∧xs≠[]∧xs.length+ys.length≤sizeLine ∧
 (ys=[]→Q (.ref a) H)∧(ys≠[]→∀p,H p=none→Q (.ref p) (upd H p (.tup (xs++ys))))
theorem yy.nil_iff {xs:List V}{us:List Value}(r:yy xs us):us=[]↔xs=[]:=by
 cases r with
 | nil=>simp
 | cons _ _=>simp
theorem lh:OpR X (binaryOp .Add) (xbV X.K):=by
 intro pins s σ H x y v u Q I rx ry h
 obtain⟨a,b,xs,ys,rfl,rfl,ha,hb,hx,hz,q1,q2⟩:=h
 cases rx
 cases ry
 obtain⟨its,r1,p1,_⟩:=I.tuple ha
 obtain⟨its2,r2,p2,_⟩:=I.tuple hb
 refine HT.lB p1 p2 (fun z=>hx (r1.nil_iff.mp z)) (fun z=>⟨.ref a,H,I,rfl,q1 (r2.nil_iff.mp z)⟩) (fun z=>?_) (by rw[←r1.length,←r2.length];exact hz)
 refine⟨.ref s.heap.objs.size,_,I.laid (t':=s.toks) (o:=.tup (xs++ys)) (fun b ob q=>Heap.get?_push_of_some _ q) (xeA _) ?_,rfl,q2 (fun w=>z (r2.nil_iff.mpr w)) _ (I.hok.fresh (xeA _))⟩
 exact⟨by rw[xdU];exact hz,_,r1.append r2,IsTup.new _ _⟩
end
end L2
namespace L2
open PySem PySem.Spec PyProof.Rows
def ixN (n:Nat)(i:Int):Option Nat:=if 0≤i then(if i<n then some i.toNat else none) else if -(n:Int)≤i then some (i+n).toNat else none
def atI {α:Type}(xs:List α)(i:Int):Option α:=(ixN xs.length i).bind fun j=>xs[j]?
theorem mD {n:Nat}{i:Int}{j:Nat}(h:ixN n i=some j):seqIndex? i n=some j∧j<n∧-(n:Int)≤i∧i<n:=by
 unfold ixN at h
 by_cases h0:0≤i
 ·rw[if_pos h0] at h
  by_cases h1:i<n
  ·rw[if_pos h1] at h
   have e:i.toNat=j:=xeN h
   exact⟨by rw[seqIndex_of h0 h1,e],by omega,by omega,h1⟩
  ·rw[if_neg h1] at h;cases h
 ·rw[if_neg h0] at h
  by_cases h1:-(n:Int)≤i
  ·rw[if_pos h1] at h
   have e:(i+n).toNat=j:=xeN h
   exact⟨by rw[seqIndex_neg (by omega) h1,e],by omega,h1,by omega⟩
  ·rw[if_neg h1] at h;cases h
theorem sr {α:Type}{xs:List α}{i:Int}{v:α}(h:atI xs i=some v):∃j,seqIndex? i xs.length=some j∧xs[j]? = some v∧j<xs.length∧-(xs.length:Int)≤i∧i<xs.length:=by
 unfold atI at h
 cases e:ixN xs.length i with
 | none=>rw[e] at h;cases h
 | some j =>
  rw[e] at h
  obtain⟨h1,h2,h3,h4⟩:=mD e
  exact⟨j,h1,h,h2,h3,h4⟩
theorem lD {α:Type}{xs:List α}{j:Nat}{v:α}(h:xs[j]? = some v):atI xs (j:Int)=some v:=by
 have hj:j<xs.length:=(xdQ.mp h).1
 have e:ixN xs.length (j:Int)=some j:=by
  unfold ixN
  rw[if_pos (by omega),if_pos (by omega)];simp
 unfold atI;rw[e];exact h
theorem cF {α:Type}(xs:List α)(v:α):atI (xs++[v]) (-1)=some v:=by
 have hl:(xs++[v]).length=xs.length+1:=by simp
 have e:ixN (xs++[v]).length (-1)=some xs.length:=by
  unfold ixN
  rw[hl,if_neg (by decide),if_pos (by omega)]
  congr 1
  omega
 unfold atI
 rw[e]
 show(xs++[v])[xs.length]? = some v
 simp
def ou (b:Expr):Prop:=∀o i,subscripted b false o i=operate [o,i] (getItem o i)
def IxR (X:Cx)(r:R2):Prop :=
 ∀(value slice:Expr) (pins:List (Addr×Obj)) (s:Shared) (σ:St) (H:Hp) (x y:V) (v u:Value) (Q:VK),Inv X pins σ H s→RelV x v→RelV y u→r x y H Q →
  subscripted slice false v u=operate [v,u] (getItem v u)→wpAny (model X.prog X.w) X.A (subscriptTail value slice v u) (EP X pins σ Q) X.xe s
def MtR (X:Cx)(id:String)(r:V→List V→Hp→VK→Prop):Prop :=
 ∀(pins:List (Addr×Obj)) (s:Shared) (σ:St) (H:Hp) (x:V) (xs:List V) (v:Value) (us:List Value) (Q:VK),Inv X pins σ H s→RelV x v→yy xs us→r x xs H Q →
  wpAny (model X.prog X.w) X.A (call (.builtin id) (v::us)) (EP X pins σ Q) X.xe s
section
variable {X:Cx} {a b:Expr} {ta tb:TE} {pos:Pos}
theorem IxR.or {r r':R2}(h:IxR X r)(h':IxR X r'):IxR X (fun x y H Q=>r x y H Q∨r' x y H Q):=by
 intro value slice pins s σ H x y v u Q I rx ry q hs
 rcases q with q | q
 ·exact h value slice pins s σ H x y v u Q I rx ry q hs
 ·exact h' value slice pins s σ H x y v u Q I rx ry q hs
theorem uE {r:R2}(hr:IxR X r)(ha:PE X a ta)(hb:PE X b tb)(hs:ou b):PE X (.Subscript a b pos) (tOp r ta tb):=by
 intro pins s σ H Q I h
 exact Subscript_ (xbG ha hb I h fun v u s2 x y H2 I2 rx ry q=>hr a @b pins s2 σ H2 x y v u Q I2 rx ry q (hs _ _))
def xbi (K:PySem.W.Frag):R2:=fun x y H Q=>∃p xs i v,x=.ref p∧y=.int i∧SqL K H p xs∧atI xs i=some v∧Q v H
def xcB (K:PySem.W.Frag):R2:=fun x y H Q=>∃p xs i v,x=.ref p∧y=.int i∧SqT K H p xs∧atI xs i=some v∧Q v H
def xcs:R2:=fun x y H Q=>∃z i c,x=.str z∧y=.int i∧z.length≤sizeLine∧atI z.cps.toList i=some c∧Q (.str ⟨#[c]⟩) H
theorem bF:IxR X (xbi X.K):=by
 intro value slice pins s σ H x y v u Q I rx ry h hs
 obtain⟨p,xs,i,z,rfl,rfl,hq,he,q⟩:=h
 cases rx
 obtain⟨t,rfl⟩:=ry
 obtain⟨its,r,pl,hz⟩:=I.list hq
 obtain⟨j,h1,h2,h3,h4,h5⟩:=sr he
 obtain⟨w,ew,rw'⟩:=r.get h2
 have hl:=r.length
 have hn:=fk
 have fin:EP X pins σ Q w s:=⟨z,H,I,rw',q⟩
 by_cases h0:0≤i
 ·have hj:i.toNat=j:=by
   rw[seqIndex_of h0 h5] at h1
   exact xeN h1
  exact item_listR pl.isList h0 (by omega) (by rw[hj];simpa using ew) fin hs
 ·have hj:(i+(its.toArray.size:Int)).toNat=j:=by
   rw[seqIndex_neg (by omega) h4] at h1
   rw[xet,←hl]
   exact xeN h1
  exact subscriptTail_builtinR (x:=w) pl.isList.typeIs slot_list_getitem.lookup
   (wpAny_getItem_list_neg (Q:=fun r s'=>r=w∧EP X pins σ Q r s') pl.isList (by omega) (by rw[xet]<;>omega) (by omega) (by rw[hj];simpa using ew) ⟨rfl,fin⟩) hs
theorem xaN:IxR X (xcB X.K):=by
 intro value slice pins s σ H x y v u Q I rx ry h hs
 obtain⟨p,xs,i,z,rfl,rfl,hq,he,q⟩:=h
 cases rx
 obtain⟨t,rfl⟩:=ry
 obtain⟨its,r,pl,hz⟩:=I.tuple hq
 obtain⟨j,h1,h2,h3,h4,h5⟩:=sr he
 obtain⟨w,ew,rw'⟩:=r.get h2
 have hl:=r.length
 have hn:=fk
 have fin:EP X pins σ Q w s:=⟨z,H,I,rw',q⟩
 exact subscriptTail_builtinR (x:=w) pl.typeIs slot_tuple_getitem.lookup
  (getItem_tuple (j:=j) (Q:=fun r s'=>r=w∧EP X pins σ Q r s') pl (by omega) (by omega) (by rw[xet,←hl];exact h1) (by simpa using ew) ⟨rfl,fin⟩) hs
theorem xar:IxR X xcs:=by
 intro value slice pins s σ H x y v u Q I rx ry h hs
 obtain⟨z,i,c,rfl,rfl,hz,he,q⟩:=h
 obtain⟨t,rfl⟩:=rx
 obtain⟨t',rfl⟩:=ry
 obtain⟨j,h1,h2,h3,h4,h5⟩:=sr he
 have hl:z.cps.toList.length=z.length:=by simp[Str.length]
 rw[hl] at h1 h4 h5
 have hn:=fk
 exact tail_any (typeIs_str s z t) slot_str_getitem.lookup (getItem_str (c:=c) (by
  have e1:decide (i < -(2 ^ 63:Int))=false:=xeP (by omega)
  have e2:decide (i≥2 ^ 63)=false:=xeP (by omega)
  rw[e1,e2,Bool.or_false]) (by rw[h1];simpa using h2) ⟨.str ⟨#[c]⟩,H,I.tok _,⟨_,rfl⟩,q⟩) hs
def rIx (K:PySem.W.Frag):R2:=fun x y H Q=>xbi K x y H Q∨xcB K x y H Q∨xcs x y H Q
theorem xaY:IxR X (rIx X.K):=bF.or (xaN.or xar)
theorem rY (its:List Value)(n j:Nat)(u:Value):Obj.mapSeq (·.setIfInBounds j u) { cls:=.type "list", data:=.seq its.toArray n }={ cls:=.type "list", data:=.seq (its.set j u).toArray n }:=by
 simp[Obj.mapSeq]
theorem Inv.lst {pins:List (Addr×Obj)}{σ:St}{H:Hp}{s:Shared}{p:Addr}{xs:List V}(I:Inv X pins σ H s)(h:H p=some (.lst xs)) :
  ∃(its:List Value) (n:Nat),yy xs its∧s.heap.get? p=some { cls:=.type "list", data:=.seq its.toArray n }∧xs.length≤sizeLine:=by
 obtain⟨z,its,n,r,e⟩:=I.hok p _ h
 exact⟨its,n,r,e,z⟩
theorem Inv.lstUpd {pins:List (Addr×Obj)}{σ:St}{H:Hp}{s:Shared}{p:Addr}{xs ys:List V}{its its':List Value}{n n':Nat}{f:Obj→Obj}(I:Inv X pins σ H s)(h:H p=some (.lst xs))
  (ho:s.heap.get? p=some { cls:=.type "list", data:=.seq its.toArray n }) (hf:f { cls:=.type "list", data:=.seq its.toArray n }={ cls:=.type "list", data:=.seq its'.toArray n' }) (r:yy ys its') (hz:ys.length≤sizeLine) (t:Nat) :
  Inv X pins σ (upd H p (.lst ys)) { s with heap:=s.heap.update p f,toks:=t }:=by
 have e:(s.heap.update p f).get? p=some { cls:=.type "list", data:=.seq its'.toArray n' }:=by
  rw[Heap.get?_update_self f ho (by rw[hf]<;>rfl),hf]
 refine I.write (x:=p) (e:=p) (by rw[h];trivial) (.inl rfl) (fun b u hb q=>(Heap.get?_update_other _ _ (Ne.symm hb)).trans q) ⟨_,e⟩ ?_
 exact⟨hz,its',n',r,e⟩
def xbI:V→V→V→Hp→(Hp→Prop)→Prop:=fun o i v H Q=>∃p xs k j,o=.ref p∧i=.int k∧H p=some (.lst xs)∧ixN xs.length k=some j∧Q (upd H p (.lst (xs.set j v)))
theorem set_list:xco X xbI:=by
 intro pins s σ H o i v ov iv u Q I ro ri rv h
 obtain⟨p,xs,k,j,rfl,rfl,hp,hj,q⟩:=h
 cases ro
 obtain⟨t,rfl⟩:=ri
 obtain⟨its,n,r,ho,hz⟩:=I.lst hp
 obtain⟨h1,h2,h3,h4⟩:=mD hj
 have hl:=r.length
 have hn:=fk
 have I':Inv X pins σ (upd H p (.lst (xs.set j v))) { s with heap:=s.heap.update p (Obj.mapSeq (·.setIfInBounds j u)) } :=
  I.lstUpd hp ho (rY its n j u) (r.set rv j) (by rw[xd2];exact hz) s.toks
 by_cases h0:0≤k
 ·have hk:k.toNat=j:=by
   rw[seqIndex_of h0 h4] at h1
   exact xeN h1
  exact PySem.W.ki_setAt ho h0 (by omega) (by rw[xet,←hl];exact h4) (by rw[hk];exact⟨_,I',q⟩)
 ·have hk:(k+(its.toArray.size:Int)).toNat=j:=by
   rw[seqIndex_neg (by omega) h3] at h1
   rw[xet,←hl]
   exact xeN h1
  exact PySem.W.ki_setBack ho (by omega) (by rw[xet,←hl];exact h3) (by omega) (by rw[hk];exact⟨_,I',q⟩)
theorem dH (lo hi:Option Int)(n:Nat):(sliceBounds lo hi none n).1=((HT.sIx n 0 lo:Nat):Int)∧(sliceBounds lo hi none n).2.1=((HT.sIx n n hi:Nat):Int)∧(sliceBounds lo hi none n).2.2=1:=by
 refine⟨?_,?_,rfl⟩
 ·cases lo with
  | none=>simp[sliceBounds,HT.sIx]
  | some i =>
   simp only[sliceBounds,HT.sIx,Option.getD_none,show(1:Int)>0 by decide,if_true]
   by_cases h:i<0
   ·simp only[h,if_true]<;>omega
   ·simp only[h,xeS]<;>omega
 ·cases hi with
  | none=>simp[sliceBounds,HT.sIx]
  | some i =>
   simp only[sliceBounds,HT.sIx,Option.getD_none,show(1:Int)>0 by decide,if_true]
   by_cases h:i<0
   ·simp only[h,if_true]<;>omega
   ·simp only[h,xeS]<;>omega
theorem hZ (its:List Value)(lo hi:Option Int):slicePick its.toArray lo hi none=((its.drop (HT.sIx its.length 0 lo)).take (HT.sIx its.length its.length hi-HT.sIx its.length 0 lo)).toArray:=by
 obtain⟨h1,h2,h3⟩:=dH lo hi its.toArray.size
 unfold slicePick
 rw[h1,h2,h3]
 simp only[sliceRange_one,pick_run,xet]<;>rfl
def lV (K:PySem.W.Frag):V→Option Int→Option Int→Hp→VK→Prop:=fun x lo hi H Q=>∃a xs,x=.ref a∧SqL K H a xs∧∀p,H p=none→Q (.ref p) (upd H p (.lst (tE xs lo hi)))
theorem tQ:SlR X (lV X.K):=by
 intro pins s σ H x v vl vu lo hi sl Q I rx hs pl pu h
 obtain⟨a,xs,rfl,hx,q⟩:=h
 cases rx
 obtain⟨its,r,ht,hz⟩:=I.list hx
 have hlen:=r.length
 refine⟨"list", _,slot_list_getitem.lookup,ht.isList.typeIs,?_⟩
 refine wpAny_getItem_list_slice ht.isList hs pl pu .none (by simp) ?_ (by rw[xet]<;>omega)
 rw[hZ,←hlen]
 refine⟨.ref s.heap.objs.size,_,I.laid (t':=s.toks) (o:=.lst (tE xs lo hi)) (fun b ob q=>Heap.get?_push_of_some _ q) (xeA _) ?_,rfl,q _ (I.hok.fresh (xeA _))⟩
 exact⟨xeC (k6 xs lo hi) hz,_,0,(r.drop (HT.sIx xs.length 0 lo)).take (HT.sIx xs.length xs.length hi-HT.sIx xs.length 0 lo),Heap.get?_push_size _ rfl⟩
theorem fR:qO X (.builtin "len") (fun xs H Q=>∃p ys,xs=[.ref p]∧(SqL X.K H p ys∨SqT X.K H p ys)∧Q (.int ys.length) H):=by
 intro pins s σ H xs us Q I r h
 obtain⟨p,ys,rfl,hq,q⟩:=h
 obtain⟨u,rfl,rx⟩:=vals1 r
 cases rx
 have hn:=fk
 rcases hq with hq | hq
 ·obtain⟨its,r',pl,hz⟩:=I.list hq
  have hlen:=r'.length
  exact Calls.call_len_list pl.isList (by simp only[xet]<;>omega) ⟨.int ys.length,H,I.tok _,⟨s.toks+1,by rw[xet,hlen]⟩,q⟩
 ·obtain⟨its,r',pl,hz⟩:=I.tuple hq
  have hlen:=r'.length
  exact len_tuple pl (by simp only[xet]<;>omega) ⟨.int ys.length,H,I.tok _,⟨s.toks+1,by rw[xet,hlen]⟩,q⟩
theorem gM:qO X (.type "tuple") (fun xs H Q=>∃p ys,xs=[.ref p]∧((SqL X.K H p ys∧∀l,H l=none→Q (.ref l) (upd H l (.tup ys)))∨(SqT X.K H p ys∧Q (.ref p) H))):=by
 intro pins s σ H xs us Q I r h
 obtain⟨p,ys,rfl,h⟩:=h
 obtain⟨u,rfl,rx⟩:=vals1 r
 cases rx
 rcases h with ⟨hq,q⟩ | ⟨hq,q⟩
 ·obtain⟨its,r',pl,hz⟩:=I.list hq
  have hlen:=r'.length
  refine call_tuple_list pl.isList (fun h' kp=>?_) (by simp only[xet]<;>omega)
  have I1:Inv X pins σ H { s with heap:=h' }:=I.kept (t':=s.toks) kp
  have I2:Inv X pins σ (upd H h'.objs.size (.tup ys)) { s with heap:=h'.push { cls:=.type "tuple", data:=.seq its.toArray } } :=
   I1.laid (t':=s.toks) (fun b o e=>Heap.get?_push_of_some _ e) (xeA _) (show zI X.prog X.w _ _ _ (.tup ys) from⟨hz,its,r',IsTup.new _ _⟩)
  exact⟨.ref h'.objs.size,_,I2,rfl,q _ (I1.hok.fresh (xeA _))⟩
 ·obtain⟨its,r',pl,hz⟩:=I.tuple hq
  exact call_tuple_same pl ⟨.ref p,H,I,rfl,q⟩
def tyV (K:PySem.W.Frag)(T:String)(x:V)(H:Hp):Prop:=match x with
 | .str _=>T = "str"
 | .int _=>T = "int"
 | .ref p=>(T = "list" ∧ ∃xs,SqL K H p xs)∨(T = "tuple" ∧ ∃o,K.lookup p=some o∧o.cls=.type "tuple" ∧ o.dict=none) ∨
   (T = "dict" ∧ ((∃kvs,H p=some (.dK kvs))∨∃kvs,H p=some (.dT kvs)))∨(T = "set" ∧ ∃S n,H p=some (.set S n))
 | _=>False
theorem pN {pins:List (Addr×Obj)}{σ:St}{H:Hp}{s:Shared}{T:String}{x:V}{v:Value}(I:Inv X pins σ H s)(r:RelV x v)(ty:tyV X.K T x H) :
  s.TypeIs v T∧∀a,v=.ref a→∃ob,s.heap.get? a=some ob∧ob.dict=none:=by
 cases x with
 | str z =>
  obtain⟨t,rfl⟩:=r
  cases (show T = "str" from ty)
  exact⟨typeIs_str s z t,fun _ e=>nomatch e⟩
 | int i =>
  obtain⟨t,rfl⟩:=r
  cases (show T = "int" from ty)
  exact⟨typeIs_int s i t,fun _ e=>nomatch e⟩
 | ref p =>
  cases r
  rcases ty with ⟨rfl,xs,hq⟩ | ⟨rfl,o,hk,hc,hd⟩ | ⟨rfl,hk⟩ | ⟨rfl,S,n,hk⟩
  ·obtain⟨its,_,pl,_⟩:=I.list hq
   refine⟨pl.isList.typeIs,fun a e=>?_⟩
   cases e
   obtain⟨o,n,e,c,hd,_⟩:=pl
   exact⟨o,e,hd⟩
  ·refine⟨⟨o,I.kIn p o hk,hc⟩,fun a e=>?_⟩
   cases e
   exact⟨o,I.kIn _ o hk,hd⟩
  ·have z:∃o,s.heap.get? p=some o∧o.ExactDict:=by
    rcases hk with ⟨kvs,hk⟩ | ⟨kvs,hk⟩
    ·obtain⟨_,_,_,_,o,_,_,e,ex,_⟩:=I.hok p _ hk
     exact⟨o,e,ex⟩
    ·obtain⟨_,_,_,_,o,_,_,e,ex,_⟩:=I.hok p _ hk
     exact⟨o,e,ex⟩
   obtain⟨o,e,ex⟩:=z
   refine⟨⟨o,e,ex.1⟩,fun a e2=>?_⟩
   cases e2
   exact⟨o,e,ex.2.1⟩
  ·obtain⟨o,_,_,_,e,ex,_⟩:=I.hok p _ hk
   refine⟨⟨o,e,ex.1⟩,fun a e2=>?_⟩
   cases e2
   exact⟨o,e,ex.2.1⟩
 | _=>exact False.elim ty
def xci (K:PySem.W.Frag)(T:String)(r:V→List V→Hp→VK→Prop)(to:TE):TE:=fun σ H Q=>to σ H fun x H1=>tyV K T x H1∧r x [] H1 Q
def tBM (K:PySem.W.Frag)(T:String)(r:V→List V→Hp→VK→Prop)(to:TE)(t:TA):TE:=fun σ H Q=>to σ H fun x H1=>tyV K T x H1∧t σ H1 fun xs H2=>r x xs H2 Q
variable {o e:Expr} {es:List Expr} {to:TE} {t:TA} {name:Str} {apos cpos:Pos} {T id:String} {r:V→List V→Hp→VK→Prop}
theorem c9 (pa:PlainAttrs T)(slot:Slot T name id)(hty:typeOf (.builtin id)=pure (.type "method_descriptor"))(hm:MtR X id r)(ho:PE X o to)
  (hbase:attributeBase o name X.env (eval o X.env)=eval o X.env:=by rfl) (hline:(apos.endLine == cpos.line)=true:=by rfl):PE X (.Call (.Attribute o name apos) [] [] cpos) (xci X.K T r to):=by
 intro pins s σ H Q I h
 refine wpAny_Call_method0_late hbase hline (thn (@ho pins s σ H _ I h) fun v s1 ⟨x,H1,I1,r1,ty,q1⟩=>?_)
 obtain⟨h1,h2⟩:=pN I1 r1 ty
 exact⟨T,id,pa,slot,hty,h1,h2,Calls.callWith_builtin rfl (PySem.evalArgs_none (@hm pins s1 σ H1 x [] v [] Q I1 r1 .nil q1))⟩
theorem kI (pa:PlainAttrs T)(slot:Slot T name id)(hty:typeOf (.builtin id)=pure (.type "method_descriptor"))(hm:MtR X id r)(ho:PE X o to)(ha:PA X (e::es) t)
  (hbase:attributeBase o name X.env (eval o X.env)=eval o X.env:=by rfl)
  (hfew:((backTo cpos (starEach (e::es) X.env)).all (fun x=>!x.1)&&(backToKw cpos (keywordEach [] X.env)).all (fun x=>x.1.isSome)
   && decide ((e::es).length+([]:List Keyword).length+(if ([]:List Keyword).isEmpty then 0 else 1)<30))=true:=by rfl)
  (hline:(apos.endLine == cpos.line)=true:=by rfl) (hs:starEach (e::es) X.env=(false,eval e X.env)::starEach es X.env:=by rfl) (hplain:(backTo cpos (starEach es X.env)).any (·.1)=false:=by rfl) :
  PE X (.Call (.Attribute o name apos) (e::es) [] cpos) (tBM X.K T r to t):=by
 intro pins s σ H Q I h
 refine wpAny_Call_method_late hbase hfew hline rfl (thn (@ho pins s σ H _ I h) fun v s1 ⟨x,H1,I1,r1,ty,q1⟩=>?_)
 obtain⟨h1,h2⟩:=pN I1 r1 ty
 refine⟨T,id,pa,slot,hty,h1,h2,?_⟩
 have hA:=@ha cpos pins s1 σ H1 _ I1 q1
 rw[hs] at hA ⊢
 refine Calls.callWith_builtin (by show(false || (backTo cpos (starEach es X.env)).any (·.1))=false;rw[hplain]<;>rfl) (Calls.evalArgs_plain ?_)
 exact thn hA fun us s2 ⟨vs,H2,I2,r2,q2⟩=>@hm pins s2 σ H2 x vs v us Q I2 r1 r2 q2
end
end L2
namespace L2
open PySem PySem.Spec PyProof.Rows
def MtM (X:Cx)(id:String)(r:V→List V→Hp→VK→Prop):Prop :=
 ∀(pins:List (Addr×Obj)) (s:Shared) (σ:St) (H:Hp) (x:V) (xs:List V) (v:Value) (us:List Value) (Q:VK),Inv X pins σ H s→RelV x v→yy xs us→r x xs H Q →
  wpAny (model X.prog X.w) X.A (call (.builtin id) (v::us)) (EP X pins σ Q) X.xe s
theorem yy.one:∀ {x:V} {us:List Value},yy [x] us→∃u,us=[u]∧RelV x u
 | _,_,.cons r .nil=>⟨_,rfl,r⟩
theorem yy.zero:∀ {us:List Value},yy [] us→us=[]
 | _,.nil=>rfl
theorem yy.dropLast {xs:List V}{us:List Value}(h:yy xs us):yy xs.dropLast us.dropLast:=by
 induction h with
 | nil=>exact .nil
 | cons r t ih =>
  cases t with
  | nil=>exact .nil
  | cons q t'=>exact .cons r ih
theorem r_ {α:Type}(l:List α):l.eraseIdx (l.length-1)=l.dropLast:=by
 induction l with
 | nil=>rfl
 | cons a r ih =>
  cases r with
  | nil=>rfl
  | cons b r =>
   have e:(a::b::r).length-1=((b::r).length-1)+1:=by
    have h1:(a::b::r).length=r.length+2:=rfl
    have h2:(b::r).length=r.length+1:=rfl
    omega
   rw[e,List.eraseIdx_cons_succ,ih]
   all_goals rfl
section
variable {X:Cx} {pins:List (Addr×Obj)} {σ:St} {H:Hp} {s:Shared} {l b:Addr} {xs ys zs:List V}
theorem Inv.lset {its its':List Value}{n:Nat}{f:Array Value→Array Value}{t':Nat}(I:Inv X pins σ H s)(hH:H l=some (.lst xs))
  (e:s.heap.get? l=some { cls:=.type "list", data:=.seq its.toArray n }) (hf:f its.toArray=its'.toArray) (hv:yy ys its') (hz:ys.length≤sizeLine) :
  Inv X pins σ (upd H l (.lst ys)) { s with heap:=s.heap.update l (Obj.mapSeq f),toks:=t' }:=by
 have q:=PySem.IsL.update e f
 rw[hf] at q
 refine I.write (x:=l) (e:=l) (by rw[hH];exact trivial) (.inl rfl) (fun b' u hb hu=>(Heap.get?_update_other s.heap (Obj.mapSeq f) (Ne.symm hb)).trans hu) ⟨_,q⟩ ?_
 exact⟨hz,its',_,hv,q⟩
theorem Inv.lnew {its:List Value}{t':Nat}(I:Inv X pins σ H s)(hv:yy ys its)(hz:ys.length≤sizeLine) :
  Inv X pins σ (upd H s.heap.objs.size (.lst ys)) { s with heap:=s.heap.push { cls:=.type "list", data:=.seq its.toArray },toks:=t' } :=
 I.laid (fun _ _ q=>Heap.get?_push_of_some _ q) (xeA _) ⟨hz,its,0,hv,Heap.get?_push_size _ rfl⟩
theorem Inv.fresh (I:Inv X pins σ H s):H s.heap.objs.size=none:=I.hok.fresh (xeA _)
theorem Inv.lstM (I:Inv X pins σ H s)(hH:H l=some (.lst xs)):xs.length≤sizeLine∧∃(its:List Value) (n:Nat),yy xs its∧xs.length=its.length∧s.heap.get? l=some { cls:=.type "list", data:=.seq its.toArray n }:=by
 obtain⟨z,its,n,r,e⟩:=I.hok l _ hH
 exact⟨z,its,n,r,r.length,e⟩
end
section
variable {X:Cx}
def ma:V→List V→Hp→VK→Prop:=fun x vs H Q=>∃l xs y,x=.ref l∧vs=[y]∧H l=some (.lst xs)∧xs.length<sizeLine∧Q .non (upd H l (.lst (xs++[y])))
theorem yZ:MtM X "list.append" ma:=by
 intro pins s σ H x vs v us Q I rx rv h
 obtain⟨l,xs,y,rfl,rfl,hH,hz,q⟩:=h
 cases rx
 obtain⟨u,rfl,ru⟩:=rv.one
 obtain⟨z,its,n,r,hl,e⟩:=I.lstM hH
 refine call_meets F.slot_list_append ⟨_,e,rfl⟩ F.entry_list_append (F.args_list_append_2 _ _) (PySem.list_append l its.toArray n u (by rw[xet];omega)) ⟨e,?_⟩
 refine⟨.non,_,I.lset (its':=its++[u]) hH e (by simp) (r.append (.cons ru .nil)) ?_,rfl,q⟩
 rw[xdU,xd3]
 omega
def xcz:V→List V→Hp→VK→Prop:=fun x vs H Q=>∃l xs y,x=.ref l∧vs=[]∧H l=some (.lst xs)∧xs[xs.length-1]? = some y∧Q y (upd H l (.lst xs.dropLast))
theorem pX:MtM X "list.pop" xcz:=by
 intro pins s σ H x vs v us Q I rx rv h
 obtain⟨l,xs,y,rfl,rfl,hH,hy,q⟩:=h
 cases rx
 have hus:=rv.zero
 subst hus
 obtain⟨z,its,n,r,hl,e⟩:=I.lstM hH
 obtain⟨u,hu,ru⟩:=r.get hy
 have hy':its.toArray[its.toArray.size-1]? = some u:=by
  show its.toArray[its.length-1]? = some u
  rw[←Array.getElem?_toList,←hl]
  exact hu
 refine call_meets F.slot_list_pop ⟨_,e,rfl⟩ F.entry_list_pop (F.args_list_pop_1 _) (MeetsSeq.list_pop_last l its.toArray n u hy' (by rw[xet];omega)) ⟨e,?_⟩
 refine⟨y,_,I.lset (its':=its.dropLast) hH e ?_ r.dropLast ?_,ru,q⟩
 ·show its.toArray.eraseIdxIfInBounds (its.toArray.size-1)=its.dropLast.toArray
  rw[xet,List.eraseIdxIfInBounds_toArray,r_]
 ·rw[List.length_dropLast]
  omega
def xbP:R2:=fun x y H Q=>∃l b xs zs,x=.ref l∧y=.ref b∧H l=some (.lst xs)∧H b=some (.lst zs)∧xs.length+zs.length≤sizeLine∧∀p,H p=none→Q (.ref p) (upd H p (.lst (xs++zs)))
theorem pF:OpR X (binaryOp .Add) xbP:=by
 intro pins s σ H x y v u Q I rx ry h
 obtain⟨l,b,xs,zs,rfl,rfl,hH,hB,hz,q⟩:=h
 cases rx
 cases ry
 obtain⟨z,its,n,r,hl,e⟩:=I.lstM hH
 obtain⟨z2,its2,n2,r2,hl2,e2⟩:=I.lstM hB
 refine PySem.P.add_list e e2 ?_ (by rw[xet,xet];omega)
 have ea:its.toArray++its2.toArray=(its++its2).toArray:=by simp
 rw[ea]
 exact⟨.ref _,_,I.lnew (t':=s.toks) (r.append r2) (by rw[xdU];omega),rfl,q _ I.fresh⟩
end
section
variable {prog:Program} {w:World} {A:Around} {E:Value→Shared→Prop} {s:Shared}
end
section
variable {X:Cx}
end
end L2
namespace Att
open PySem PySem.W PySem.Calls PyProof.Rows
theorem jj {P:Params}{h:Heap}:∀(ns:List Int) (vs:List Value),WellAll P h vs (ns.map WData.int)→IntsAre vs ns:=by
 intro ns
 induction ns with
 | nil =>
  intro vs w
  rw[xd9] at w
  cases w
  exact .nil
 | cons n ns ih =>
  intro vs w
  rw[xd7] at w
  cases w with
  | cons a b =>
   cases a
   exact .cons _ _ (ih _ b)
theorem mZ {l:OpenLaw}{n:Nat}(hn:l.most=some n){P:Params}{h:Heap}{args:List WData}{vals:List Value}
  (hpre:l.row.toRowW.claim.pre args=true) (hwl:WellAll P h vals args) :
  ∃a vs ns,vals=[Value.ref a]∧args=[WData.list (ns.map WData.int)]∧h.get? a=some { cls:=.type "list", data:=.seq vs.toArray }∧IntsAre vs ns∧ns.length≤n:=by
 have hsh:WShape.hasAll [] args [.list .int]=true:=(pre_splitW hpre).1
 have hc:l.pre.holds [] { args:=args }=true:=(pre_splitW hpre).2
 obtain⟨d,r,rfl,h1,h2⟩:=hasAllW_cons hsh
 obtain rfl:=hasAllW_nil h2
 obtain⟨xs,rfl,h3⟩:=hasW_list h1
 obtain⟨ns,rfl⟩:=items_int h3
 have hlen:ns.length≤n:=by
  unfold OpenLaw.pre at hc
  have h4:(WTm.not (.lt (.lit (.int (n:Int))) (.len (.arg 0)))).holds [] { args:=[.list (ns.map .int)] }=true:=by
   have h4:=(holds_andW hc).1
   rw[hn] at h4
   exact h4
  have h5:=condW_of h4 (w_not (w_lt w_lit (w_len_list (w_arg rfl))))
  rw[xdZ] at h5
  refine Nat.le_of_not_lt fun q=>?_
  have q':(n:Int)<((ns.length:Nat):Int):=by omega
  first
   | (rw[xeQ q'] at h5;exact absurd h5 (by decide))
   | (simp at h5;omega)
 cases hwl with
 | cons w1 w2 =>
  cases w2
  cases w1 with
  | list ho hall=>exact⟨_,_,ns,rfl,rfl,ho,jj ns _ hall,hlen⟩
theorem m5 (l:OpenLaw)(args:List WData):l.row.toRowW.claim.post args (.bool true) args=true :=
 postW_of (r:=l.row.toRowW) (X:=(true == true))
  (show WShape.has [] (.bool true) .bool=true by first | rfl | decide | simp[WShape.has,WShape.arms,WShape.armsAll])
  (show(WTm.eq .res (.lit (.bool true))).value [] { args:=args,res:=some (.bool true),after:=args }=some (.bool (true == true)) from w_eq_bool (w_res rfl) w_lit) rfl
theorem sE {l:OpenLaw}{n:Nat}{q:Program}{loose:List Str}{XP:(Str→Option Value)→Heap→Prop}{YP:World→Heap→Prop}{d:DefRec}
  (hn:l.most=some n) (hdf:d.params.defaults=[])
  (call:∀(w:World) (s₀ s₁:Shared) (mg mb:Str→Option Value) (fa:Addr) (o:Obj) (pm cd doc:Value) (a:Addr) (vs:List Value) (ns:List Int),
   Ground q loose [] XP w s₀ mg mb s₁.heap→YP w s₁.heap →
   s₁.heap.get? fa=some o→o.data=.func (docDef d.name d.params d.body d.scope pm cd doc)→s₁.heap.CodeRec cd d.name→mg d.name=some (.ref fa) →
   s₁.heap.get? a=some { cls:=.type "list", data:=.seq vs.toArray }→IntsAre vs ns→ns.length≤n→s₁.gens = #[] →
   codeAny (model l.prog w) callerA (.call (.ref fa) ⟨[.ref a],[]⟩) (fun r s'=>r=.ok (.ret (.bool true))∧OldK s₁.heap s'.heap∧s'.os=s₁.os∧AllBare s'.gens) s₁) :
  WalkO q loose XP YP l.row.toRowW d [] (fun f vs=>PySem.call f vs):=by
 intro w s₀ s₁ mg mb G Y fa o pm cd doc dV kV ho hd hcd hD hmg hg args vals as hpre hlay hrd hwl hlo
 obtain rfl:dV=.none:=Dflts.none hD hdf
 obtain rfl:kV=.none:=Dflts.noKw hD
 obtain⟨a,vs,ns,rfl,rfl,hobj,hints,hlen⟩:=mZ hn hpre hwl
 refine enter_call (codeAny_mono (call w s₀ s₁ mg mb fa o pm cd doc a vs ns G Y ho (fd_plain hd) hcd hmg hobj hints hlen hg) fun r s' hq=>?_)
 obtain⟨rfl,h2,h3,h4⟩:=hq
 exact⟨.inl ⟨.bool true,.bool true,[],rfl,fun _=>rfl,.bool true,m5 l _,fun _=>⟨List.Pairwise.nil,fun _ hm=>(nomatch hm)⟩⟩,h2,h3,h4⟩
section
variable {prog:Program} {w:World} {A:Around} {E:Value→Shared→Prop} {s:Shared} {K:Frag}
def ledger (h:Heap)(L d:Addr):List (Addr×Obj):=(List.range h.objs.size).filterMap fun a=>if a=L∨a=d then none else(h.get? a).map fun o=>(a,o)
end
end Att
namespace L2
open PySem PySem.Spec PyProof.Rows
theorem fv:∀ {vs:List Value} {ns:List Int},IntsAre vs ns→yy (ns.map V.int) vs
 | _,_,.nil=>.nil
 | _,_,.cons n t h=>.cons ⟨t,rfl⟩ (fv h)
def xbl (H:Hp):Prop:=∀b,H b=none∨∃o xs,H b=some (.frz o (.lst xs))
theorem cC {P:Program}{w:World}{K:PySem.W.Frag}{mg mb:Str→Option Value}{CX:CXT}{k:Nat}{fa a:Addr}{fd:FuncData}{x:Str}{sp:Sp}{s₁:Shared}{vs:List Value}{ns:List Int}
  (KX:K.In s₁.heap) (hns:s₁.heap.Ns mainGlobals mg) (hb:s₁.heap.Ns builtinsNs mb) (hbb:∀x:Str,x ≠ "__name__" → mb x=bootBuiltins x) (hlim:s₁.heap.NoLimit) (hg:s₁.gens = #[])
  (ha:s₁.heap.get? a=some { cls:=.type "list", data:=.seq vs.toArray }) (hi:IntsAre vs ns) (hl:ns.length≤sizeLine) (hr:jJ k callerA)
  (F:∀base:Heap,K.In base→base.Ns mainGlobals mg→g_ P w K mg base CX k fa fd [x] sp) (hbind:∀(s:Shared) (u:Value),BindsTo s fd ⟨[u],[]⟩ [(x,u)])
  (hsp:∀H:Hp,xbl H→SqL K H a (ns.map V.int)→sp [.ref a] H (fun v _=>v=.bl true) fun _ _ _=>False)
  (hCX:∀H e s',CX [] H s₁ (fun _ _ _=>False) e s'→False) :
  codeAny (model P w) callerA (.call (.ref fa) ⟨[.ref a],[]⟩) (fun r s'=>r=.ok (.ret (.bool true))∧OldK s₁.heap s'.heap∧s'.os=s₁.os∧AllBare s'.gens) s₁:=by
 have rv:=fv hi
 have lenV:=hi.length
 have core:∀H:Hp,xbl H→SqL K H a (ns.map V.int)→HOk P w H s₁.heap→(∀b,H b≠none→b=a)→(H a≠none→K.lookup a=none) →
   codeAny (model P w) callerA (.call (.ref fa) ⟨[.ref a],[]⟩) (fun r s'=>r=.ok (.ret (.bool true))∧OldK s₁.heap s'.heap∧s'.os=s₁.os∧AllBare s'.gens) s₁:=by
  intro H hO hS hok hA hK
  have base_of:∀ {b:Addr} {o:Obj},s₁.heap.get? b=some o→H b=none→(cA s₁.heap H).get? b=some o:=fun e n=>cD e n
  have noA:∀ {b:Addr} {o:Obj} {es:Array DictEntry} {ep:Nat},s₁.heap.get? b=some o→o.data=.dict es ep→H b=none:=fun {b o es ep} e d=>by
   cases q:H b with
   | none=>rfl
   | some u =>
    have e':b=a:=hA b (by rw[q];simp)
    subst e'
    rw[ha] at e;cases e
    have d':Data.seq vs.toArray _=Data.dict es ep:=d
    cases d'
  have nsK:∀ {b:Addr} {m:Str→Option Value},s₁.heap.Ns b m→(cA s₁.heap H).Ns b m:=fun {b m} ⟨o,es,ep,e,d,r⟩=>⟨o,es,ep,base_of e (noA e d),d,r⟩
  have hKb:K.In (cA s₁.heap H):=fun b o e=>base_of (KX b o e) (by
   cases q:H b with
   | none=>rfl
   | some u =>
    have e':b=a:=hA b (by rw[q];simp)
    subst e'
    rw[hK (by rw[q];simp)] at e;cases e)
  have hM:Mod K mg (cA s₁.heap H):=⟨hKb,nsK hns,⟨mb,nsK hb,hbb⟩,let ⟨mc,h1,h2⟩:=hlim;⟨mc,nsK h1,h2⟩⟩
  have e0:xbf P w K mg (cA s₁.heap H) callerA [] s₁ H:=⟨rfl,hM,fun b o e=>lC e,Nat.le_of_eq (nu _ _),trivial,fun b hb=>absurd (show b∈([]:List Addr) from hb) (by simp),hok,.of_eq hg⟩
  refine codeAny_mono ((F _ hKb (nsK hns)).run callerA [] s₁ H ⟨[.ref a],[]⟩ [.ref a] [.ref a] _ _ hr e0 (hbind s₁ (.ref a)) (.cons rfl .nil) (hsp H hO hS)) fun r s' h=>?_
  cases r with
  | error e=>exact(hCX H e s' h).elim
  | ok fl =>
   cases fl with
   | next=>exact False.elim h
   | brk=>exact False.elim h
   | cont=>exact False.elim h
   | ret u =>
    obtain⟨v,H',os,bare,un,hok',r',q⟩:=h
    have q':v=.bl true:=q
    subst q'
    obtain rfl:u=Value.bool true:=r'
    refine⟨rfl,OldK.of_keep fun b o e=>?_,os,bare⟩
    cases q:H b with
    | none=>exact un.keep b o e q (by intro z;exact absurd (show b∈([]:List Addr) from z) (by simp)) (by simp)
    | some u =>
     rcases hO b with z | ⟨ob,xs,z⟩
     ·rw[q] at z;cases z
     ·have z2:=un.frzs b ob _ z
      obtain⟨e1,_⟩:=hok b _ z
      obtain⟨e2,_⟩:=hok' b _ z2
      rw[e] at e1;cases e1
      exact e2
 cases hk:K.lookup a with
 | some o =>
  have e:=KX a o hk
  rw[ha] at e
  cases e
  refine core (fun _=>none) (fun _=>.inl rfl) (.inr ⟨_,vs.toArray,_,hk,rfl,rfl,rfl,by rw[xet,lenV];exact hl,by simpa using rv⟩) (fun b u z=>by have z':(none:Option HO)=some u:=z;cases z') (fun b z=>absurd rfl z) fun z=>absurd rfl z
 | none =>
  refine core (fun b=>if b=a then some (.frz { cls:=.type "list", data:=.seq vs.toArray } (.lst (ns.map V.int))) else none) (fun b=>?_) (.inl (.inr ⟨{ cls:=.type "list", data:=.seq vs.toArray },if_pos rfl⟩)) (fun b u z=>?_) (fun b z=>?_) fun _=>hk
  ·by_cases hb:b=a
   ·exact .inr ⟨_,_,if_pos hb⟩
   ·exact .inl (if_neg hb)
  ·by_cases hb:b=a
   ·have z':=(if_pos hb).symm.trans z
    cases z'
    subst hb
    exact⟨ha,by rw[xdZ];exact hl,vs,_,rv,ha⟩
   ·have z':=(if_neg hb).symm.trans z
    cases z'
  ·by_cases hb:b=a
   ·exact hb
   ·exact absurd (if_neg hb) z
end L2
namespace L2
open PySem PySem.Spec PyProof.Rows
abbrev KOf {K:PySem.W.Frag}{h:Heap}(_:K.In h):PySem.W.Frag:=K
theorem lp {l:PySem.W.OpenLaw}{n k:Nat}{q:Program}{loose:List Str}{XP:(Str→Option Value)→Heap→Prop}{YP:World→Heap→Prop}{d:DefRec}{K:Params→PySem.W.Frag}{CX:World→CXT}{sp:World→Sp}{x:Str}
  (hn:l.most=some n) (hn2:n≤sizeLine) (hdf:d.params.defaults=[]) (hr:jJ k callerA)
  (hY:∀(w:World) (h:Heap),YP w h→(K w.params).In h)
  (F:∀(w:World) (mg:Str→Option Value) (fa:Addr) (h:Heap),(K w.params).In h→h.Ns mainGlobals mg→mg d.name=some (.ref fa) →
   ∃fd:FuncData,(∀(s:Shared) (u:Value),BindsTo s fd ⟨[u],[]⟩ [(x,u)]) ∧
    ∀base:Heap,(K w.params).In base→base.Ns mainGlobals mg→g_ l.prog w (K w.params) mg base (CX w) k fa fd [x] (sp w))
  (hsp:∀(w:World) (H:Hp) (a:Addr) (ns:List Int),ns.length≤n→xbl H→SqL (K w.params) H a (ns.map V.int)→sp w [.ref a] H (fun v _=>v=.bl true) fun _ _ _=>False)
  (hCX:∀(w:World) (H:Hp) (s:Shared) (e:Value) (s':Shared),CX w [] H s (fun _ _ _=>False) e s'→False) :
  PySem.W.WalkO q loose XP YP l.row.toRowW d [] (fun f vs=>PySem.call f vs):=by
 refine Att.sE hn hdf fun w s₀ s₁ mg mb fa o pm cd doc a vs ns G Y ho hd hcd hmg hobj hints hlen hg=>?_
 have KX:=hY w _ Y
 obtain⟨fd,hb,hF⟩:=F w mg fa _ KX G.T.g hmg
 exact cC KX G.T.g G.T.b G.T.builtins G.T.nolimit hg hobj hints (xeC hlen hn2) hr hF hb (fun H hO hS=>hsp w H a ns hlen hO hS) fun H e s'=>hCX w H s₁ e s'
end L2
namespace L2
open PySem PySem.Spec PyProof.Rows
def zF (s:Stmt):Arguments:=match s with
 | .FunctionDef _ a _ _ _ _ _ _ _ _=>a
 | _=>{ posonlyargs:=[],args:=[],vararg:=none,kwonlyargs:=[],kw_defaults:=[],kwarg:=none,defaults:=[] }
def yS (s:Stmt):List Stmt:=match s with
 | .FunctionDef _ _ b _ _ _ _ _ _ _=>b
 | _=>[]
def xg (s:Stmt):Scope:=match s with
 | .FunctionDef _ _ _ _ _ _ sc _ _ _=>sc
 | _=>{ kind:=.function,names:=[],isGenerator:=false,isCoroutine:=false }
abbrev CX0:CXT:=fun _ _ _ _ _ _=>False
abbrev E0:XK:=fun _ _ _=>False
theorem xbA {X:Cx}:nV CX0 X E0:=fun _ _ _ _ _ _ _ h=>h.elim
structure Fun (K:PySem.W.Frag)(x qual:Str)(st:Stmt)(f:Addr)(fd:FuncData):Prop where
 ex:∃(oc:Value) (od:Option Addr) (kV doc pm:Value) (an:Option Addr) (cdv ct:Value) (osl:Array (Option Value)),
  fd=PySem.W.fnOf x qual (zF st) (yS st) (xg st) .none kV doc pm an cdv ct∧K.lookup f=some ⟨oc,od,.func fd,osl⟩∧PySem.W.codeIn K cdv qual=true
 kp:PySem.W.keepIn K (.ref f)=true
section
variable {P:Program} {w:World} {K:PySem.W.Frag} {mg:Str→Option Value} {base:Heap}
theorem Fun.ok {x qual:Str}{st:Stmt}{f:Addr}{fd:FuncData}{N ps:List Str}{k:Nat}{sp:Sp}(F:Fun K x qual st f fd)(S:xt N ps (xg st))(len:∀vs H Q E,sp vs H Q E→vs.length=ps.length)
  (hbody:∀(cdv:Value) (A:Around) (outer:List Env) (s:Shared) (H:Hp) (vs:List V) (Q:VK) (E:XK),jJ k (A.deeper (envOfC qual (xg st) s.heap.objs.size f cdv))→sp vs H Q E →
   ∃t,PSs (bH CX0 P w K mg base N qual (xg st) f cdv A outer s H E).nox (yS st) t∧t { nx:=fun _ H'=>Q .non H',rt:=Q } (start N vs) H):g_ P w K mg base CX0 (k+1) f fd ps sp:=by
 obtain⟨oc,od,kV,doc,pm,an,cdv,ct,osl,rfl,lk,hcd⟩:=F.ex
 refine xbR lk hcd S len fun A outer s H vs Q E hr hsp=>?_
 obtain⟨t,h,q⟩:=hbody cdv A outer s H vs Q E hr hsp
 exact⟨t,h.nox,q⟩
theorem Fun.binds {x qual:Str}{st:Stmt}{f:Addr}{fd:FuncData}{ps:List Str}(F:Fun K x qual st f fd)
  (h:∀(kV doc pm:Value) (an:Option Addr) (cdv ct:Value) (us:List Value),us.length=ps.length→bindArgs (PySem.W.fnOf x qual (zF st) (yS st) (xg st) .none kV doc pm an cdv ct) ⟨us,[]⟩=pure (ps.zip us)):Binds K fd ps []:=by
 obtain⟨oc,od,kV,doc,pm,an,cdv,ct,osl,rfl,lk,hcd⟩:=F.ex
 exact .all (h kV doc pm an cdv ct)
theorem p_ {x qual:Str}{st:Stmt}{f:Addr}{oc:Value}{od an:Option Addr}{osl:Array (Option Value)}{kV doc pm cdv ct:Value}(l:K.lookup f=some ⟨oc,od,.func (PySem.W.fnOf x qual (zF st) (yS st) (xg st) .none kV doc pm an cdv ct),osl⟩)
  (c:PySem.W.codeIn K cdv qual=true) (k:PySem.W.keepIn K (.ref f)=true):Fun K x qual st f (PySem.W.fnOf x qual (zF st) (yS st) (xg st) .none kV doc pm an cdv ct):=⟨⟨oc,od,kV,doc,pm,an,cdv,ct,osl,rfl,l,c⟩,k⟩
end
theorem bq {n:Nat}(h:n≤1000):n<sizeLine:=xeE h (by decide)
section
variable {X:Cx}
theorem pv (i:Nat){x:Str}{pos:Pos}(hN:X.N[i]? = some x:=by rfl)(hv:Vis X.env.scope x:=by first | exact Or.inl rfl | exact Or.inr (Or.inl rfl) | exact Or.inr (Or.inr rfl))(hd:(x == ("__debug__" : Str))=false:=by decide)
  (hcd:(x == ("__classdict__" : Str))=false:=by decide):PE X (.Name x pos) (fb i):=l5 hN hv hd hcd
end
theorem sR {A B:Prop}(h:B):if false=true then A else B:=by
 rw[if_neg xdd]
 exact h
theorem tO {A B:Prop}(h:A):if true=true then A else B:=by
 rw[if_pos rfl]
 exact h
theorem xcg {c A B:Prop}[Decidable c](h1:c→A)(h2:¬c→B):if c then A else B:=by
 by_cases h:c
 ·rw[if_pos h]
  exact h1 h
 ·rw[if_neg h]
  exact h2 h
end L2
namespace L2
open PySem PySem.Spec PyProof.Rows
def qV (env:Env):List (Str×NameKind)→List (Str×Addr)→List (Str×Addr)
 | [],cs=>cs
 | (n,k)::r,cs=>if k == NameKind.free then(match env.cells.lookup n with | some a=>qV env r ((n,a)::cs) | none=>qV env r cs) else qV env r cs
theorem sk {env:Env}:∀(l:List (Str×NameKind)) (cs:List (Str×Addr)),(∀y∈l,y.2=NameKind.free→∃c,env.cells.lookup y.1=some c) →
  (forIn l cs (fun(x:Str×NameKind) (r:List (Str×Addr))=>(if (x.2 == NameKind.free)=true then(do let a ←cellOf env x.1;pure (ForInStep.yield ((x.1,a)::r))) else pure (ForInStep.yield r):Sem (ForInStep (List (Str×Addr))))))=pure (qV env l cs)
 | [],cs,_=>rfl
 | (n,k)::r,cs,h=>by
  rw[List.forIn_cons]
  have hr:∀y∈r,y.2=NameKind.free→∃c,env.cells.lookup y.1=some c:=fun y hy=>h y (xed _ hy)
  by_cases hk:k=NameKind.free
  ·subst hk
   obtain⟨c,hc⟩:=h (n,.free) xee rfl
   have hc':env.cells.lookup n=some c:=hc
   have e1:cellOf env n=pure c:=by unfold cellOf;rw[hc']
   have e2:qV env ((n,.free)::r) cs=qV env r ((n,c)::cs):=by
    show(if (NameKind.free == NameKind.free)=true then _ else _)=_
    rw[if_pos (show(NameKind.free == NameKind.free)=true from rfl),hc']
   rw[e2,if_pos (show((NameKind.free == NameKind.free)=true) from rfl),e1,pure_bind,pure_bind]
   exact sk r _ hr
  ·have hb:(k == NameKind.free)=false:=by simpa using hk
   have e2:qV env ((n,k)::r) cs=qV env r cs:=by
    show(if (k == NameKind.free)=true then _ else _)=_
    rw[hb];rfl
   rw[e2,if_neg (by rw[hb];exact xdd),pure_bind]
   exact sk r _ hr
theorem dZ {sc:Scope}{env:Env}(h:∀y∈sc.names,y.2=NameKind.free→∃c,env.cells.lookup y.1=some c):closureFor sc env=pure (qV env sc.names []):=by
 have q:=sk (env:=env) sc.names [] h
 unfold closureFor
 show(do let r ←forIn sc.names [] (fun(x:Str×NameKind) (r:List (Str×Addr))=>_);pure r)=_
 rw[show(forIn sc.names ([]:List (Str×Addr)) (fun(x:Str×NameKind) (r:List (Str×Addr))=>match x with
   | (name,kind)=>if (kind == NameKind.free)=true then(do let a ←cellOf env name;pure (ForInStep.yield ((name,a)::r))) else pure (ForInStep.yield r)):Sem (List (Str×Addr)))=pure (qV env sc.names []) from q]
 rfl
theorem zQ {env:Env}{x:Str}{c:Addr}:∀(l:List (Str×NameKind)) (cs:List (Str×Addr)),(qV env l cs).lookup x=some c→(∀c,cs.lookup x=some c→env.cells.lookup x=some c)→env.cells.lookup x=some c
 | [],cs,h,hc=>hc c h
 | (n,k)::r,cs,h,hc=>by
  unfold qV at h
  split at h
  ·split at h
   ·rename_i a ha
    refine zQ r _ h fun c' h'=>?_
    rw[xd5] at h'
    by_cases e:x == n
    ·rw[e] at h'
     have:x=n:=by simpa using e
     rw[this,ha];exact h'
    ·have e':(x == n)=false:=by simpa using e
     rw[e'] at h'
     exact hc c' h'
   ·exact zQ r _ h hc
  ·exact zQ r _ h hc
theorem qo {env:Env}{x:Str}{c:Addr}(he:env.cells.lookup x=some c):∀(l:List (Str×NameKind)) (cs:List (Str×Addr)),cs.lookup x=some c→(qV env l cs).lookup x=some c
 | [],cs,h=>h
 | (n,k)::r,cs,h=>by
  unfold qV
  split
  ·split
   ·rename_i a ha
    refine qo he r _ ?_
    rw[xd5]
    by_cases e:x == n
    ·rw[e]
     have e':x=n:=by simpa using e
     rw[e',ha] at he
     exact he
    ·have e':(x == n)=false:=by simpa using e
     rw[e']
     exact h
   ·exact qo he r _ h
  ·exact qo he r _ h
theorem vm {env:Env}{x:Str}{c:Addr}(he:env.cells.lookup x=some c):∀(l:List (Str×NameKind)) (cs:List (Str×Addr)),(x,NameKind.free)∈l→(qV env l cs).lookup x=some c
 | (n,k)::r,cs,h=>by
  rcases xec.mp h with e | e
  ·have e1:n=x:=xeO (·.1) e.symm
   have e2:k=.free:=xeO (·.2) e.symm
   subst e1 e2
   unfold qV
   rw[if_pos (show(NameKind.free == NameKind.free)=true from rfl),he]
   exact qo he r _ (by rw[xd5];simp)
  ·unfold qV
   split
   ·split
    ·exact vm he r _ e
    ·exact vm he r _ e
   ·exact vm he r _ e
def xP (X:Cx)(sc:Scope)(N:List Str)(C:Addr)(s:Shared)(H:Hp)(ex:List Addr):Cx :=
 { X with N:=N,s₀:=s,H₀:=H,env:=compEnvC sc (qV X.env sc.names []) C X.env,outer:=X.stack,stack:=X.stack,ex:=ex,fn:=fun _=>false,pn:=[],xe:=fun _ _=>False }
def m6 (XN:List Str)(xs sc:Scope)(N:List Str)(tau:List (Option Nat)):Bool :=
 decide (sc.kind=.function)&&sc.names.all (fun y=>decide (y.2≠.cell))&&sc.names.all (fun y=>decide (y.2≠.local) || decide (sc.names.lookup y.1=some .local))&&decide N.Nodup&&decide (tau.length=N.length) &&
 (tau.zip N).all (fun p=>match p.1 with | none=>true | some j=>decide (XN[j]? = some p.2)&&decide (sc.names.lookup p.2=some .free)) &&
 sc.names.all (fun y=>decide (y.2≠.free) || decide (xs.names.lookup y.1=some .cell) || decide (xs.names.lookup y.1=some .free))&&decide (xs.kind=.function)
structure uB (X:Cx)(sc:Scope)(N:List Str)(tau:List (Option Nat)):Prop where
 kind:sc.kind=.function
 nocell:∀y∈sc.names,y.2≠.cell
 loc:∀y∈sc.names,y.2=.local→sc.names.lookup y.1=some .local
 nd:N.Nodup
 len:tau.length=N.length
 out:∀(i j:Nat) (x:Str),tau[i]? = some (some j)→N[i]? = some x→X.N[j]? = some x∧sc.names.lookup x=some .free
 fr:∀y∈sc.names,y.2=.free→X.env.scope.names.lookup y.1=some .cell∨X.env.scope.names.lookup y.1=some .free
 okind:X.env.scope.kind=.function
theorem zip_get {α β:Type}:∀ {l:List α} {k:List β} {i:Nat} {a:α} {b:β},l[i]? = some a→k[i]? = some b→(a,b)∈l.zip k
 | [],_,_,_,_,h,_=>by simp at h
 | _::_,[],_,_,_,_,h=>by simp at h
 | x::l,y::k,0,a,b,h1,h2=>by simp at h1 h2;subst h1;subst h2;simp
 | x::l,y::k,i+1,a,b,h1,h2=>by
  have:=zip_get (l:=l) (k:=k) (i:=i) (by simpa using h1) (by simpa using h2)
  rw[List.zip_cons_cons]
  exact xed _ this
theorem yu {X:Cx}{sc:Scope}{N XN:List Str}{xs:Scope}{tau:List (Option Nat)}(h:m6 XN xs sc N tau=true)(h1:X.N=XN)(h2:X.env.scope=xs):uB X sc N tau:=by
 subst h1 h2
 unfold m6 at h
 simp only[xdc,xdw,xeR,Bool.or_eq_true] at h
 obtain⟨⟨⟨⟨⟨⟨⟨k,c⟩,l⟩,nd⟩,len⟩,out⟩,fr⟩,ok⟩:=h
 refine⟨k,c,fun y hy e=>(l y hy).resolve_left (fun z=>z e),nd,len,fun i j x e1 e2=>?_,fun y hy e=>?_,ok⟩
 ·have:=out _ (zip_get e1 e2)
  simpa using this
 ·rcases fr y hy with (z | z) | z
  ·exact absurd e z
  ·exact .inl z
  ·exact .inr z
def vC (tau:List (Option Nat))(σ:St):St:=tau.map fun o=>match o with | some j=>(σ[j]?).getD none | none=>none
theorem uL {sc:Scope}{env:Env}:∀ {l:List (Str×NameKind)} {x:Str} {k:NameKind},
  (l.map fun(n,k)=>if (k == NameKind.free&&env.scope.kind == .function&&env.kindOf n == some .cell) then(n,NameKind.cell) else(n,k)).lookup x=some k→((∀y∈l,y.2≠NameKind.cell)→k≠.local→(x,NameKind.free)∈l∨l.lookup x=some k∧k≠.cell)
 | [],x,k,h=>by simp at h
 | (n,k')::r,x,k,h=>by
  intro nc nl
  have ih:=@uL sc env r x k
  have h:List.lookup x ((if (k' == NameKind.free&&env.scope.kind == .function&&env.kindOf n == some .cell)=true then(n,NameKind.cell) else(n,k'))::(r.map _))=some k:=h
  by_cases hx:x=n
  ·subst hx
   by_cases hc:(k' == NameKind.free&&env.scope.kind == .function&&env.kindOf x == some .cell)=true
   ·left
    have:k'=.free:=by
     simp only[xdc] at hc
     simpa using hc.1.1
    subst this
    exact xee
   ·rw[if_neg hc,xd5] at h
    simp at h
    subst h
    right
    exact⟨by rw[xd5];simp,nc (x,k') xee⟩
  ·have e:(x == n)=false:=by simpa using hx
   have h':List.lookup x (r.map fun(n,k)=>if (k == NameKind.free&&env.scope.kind == .function&&env.kindOf n == some .cell) then(n,NameKind.cell) else(n,k))=some k:=by
    split at h
    ·rw[xd5,e] at h;exact h
    ·rw[xd5,e] at h;exact h
   rcases ih h' (fun y hy=>nc y (xed _ hy)) nl with z | ⟨z,w⟩
   ·exact .inl (xed _ z)
   ·exact .inr ⟨by rw[xd5,e];exact z,w⟩
section
variable {X:Cx} {sc:Scope} {N:List Str} {tau:List (Option Nat)} {pins:List (Addr×Obj)} {σ:St} {H:Hp} {s:Shared}
theorem uB.cells (k:uB X sc N tau)(ok:X.Ok):∀y∈sc.names,y.2=NameKind.free→∃c,X.env.cells.lookup y.1=some c:=fun y hy e=>ok.has y.1 (k.fr y hy e)
theorem uB.vis (k:uB X sc N tau){x:Str}(h:(relabel sc X.env).names.lookup x=some .cell∨(relabel sc X.env).names.lookup x=some .free):(x,NameKind.free)∈sc.names:=by
 rcases h with h | h
 ·rcases uL (sc:=sc) (env:=X.env) (l:=sc.names) h k.nocell (by decide) with z | ⟨_,z⟩
  ·exact z
  ·exact absurd rfl z
 ·rcases uL (sc:=sc) (env:=X.env) (l:=sc.names) h k.nocell (by decide) with z | ⟨z,_⟩
  ·exact z
  ·exact PySem.mem_of_lookup z
theorem sF (k:uB X sc N tau)(I:Inv X pins σ H s){fp:List Addr}(hf:∀b∈fp,jQ X pins H b)(hob:∀b∈fp,∃o,s.heap.get? b=some o) :
  (xP X sc N (s.heap.objs.size+1) s H fp).Ok where
 mod:=I.ok.mod
 kind:=k.kind
 glob:=I.ok.glob
 blt:=I.ok.blt
 above:=xeB _
 inj:=fun x y c h1 h2=>I.ok.inj x y c (zQ _ _ h1 fun _ z=>by simp at z) (zQ _ _ h2 fun _ z=>by simp at z)
 has:=fun x h=>by
  have m:=k.vis h
  obtain⟨c,e⟩:=k.cells I.ok _ m rfl
  exact⟨c,vm e _ _ m⟩
 cab:=fun x c h=>by cases h
 hd:=I.ok.hd
 frames:=I.ok.frames
 stk:=.inl rfl
 exf:=fun b hb=>⟨fun z=>by
  obtain⟨o,e⟩:=hob b hb
  have l:=Heap.lt_size e
  have z':b=s.heap.objs.size+1:=z
  rw[z'] at l
  exact xeD _ (Nat.lt_of_succ_lt l),fun x c h=>(hf b hb).2.2.2.2.1 x c (zQ _ _ h fun _ z=>by simp at z)⟩
 bs:=I.bs
 bsz:=xeC I.ok.bsz I.sz
 noex:=fun b o e hb=>by
  rcases(hf b hb).2.2.2.1 with z | z
  ·exact I.ok.noex b o e z
  ·exact absurd (xeF (Heap.lt_size (I.ok.bs b o e).1) z) (xeD _)
 exfs:=fun b hb z=>by
  rcases xec.mp (I.stkSub b z) with e | e
  ·exact(hf b hb).2.1 e
  ·exact(hf b hb).2.2.1 e
 funs:=I.stack
 frf:=I.stkFree
theorem uq {i:Nat}{v:V}(h:(vC tau σ)[i]? = some (some v)):∃j,tau[i]? = some (some j)∧σ[j]? = some (some v):=by
 unfold vC at h
 rw[xdR] at h
 cases e:tau[i]? with
 | none=>rw[e] at h;cases h
 | some o =>
  rw[e] at h
  cases o with
  | none=>cases h
  | some j =>
   have h':(σ[j]?).getD none=some v:=by simpa using h
   refine⟨j,rfl,?_⟩
   cases q:σ[j]? with
   | none=>rw[q] at h';cases h'
   | some o'=>rw[q] at h';exact xeO some h'
theorem aO (k:uB X sc N tau)(I:Inv X pins σ H s){fp:List Addr}(hf:∀b∈fp,jQ X pins H b)(hob:∀b∈fp,∃o,s.heap.get? b=some o){h1:Heap}{t':Nat}
  (kp:∀b o,s.heap.get? b=some o→h1.get? b=some o) (hn:h1.Ns (s.heap.objs.size+1) (fun _=>none)) (hD:h1.get? s.heap.objs.size=some { cls:=.type "list", data:=.seq #[] 0 }) :
  Inv (xP X sc N (s.heap.objs.size+1) s H fp) [(s.heap.objs.size,{ cls:=.type "list", data:=.seq #[] 0 })] (vC tau σ) H { s with heap:=h1,toks:=t' } where
 ok:=sF k I hf hob
 os:=rfl
 bare:=I.bare
 base:=Un.kept kp
 loc:=⟨_,hn,fun i x v e1 e2 e3=>by
  obtain⟨j,t1,t2⟩:=uq e2
  obtain⟨o1,o2⟩:=k.out i j x t1 e1
  have m:(x,NameKind.free)∈sc.names:=PySem.mem_of_lookup o2
  have hk:=k.fr _ m rfl
  obtain⟨mm,hn',hl⟩:=I.loc
  obtain⟨u,r,l⟩:=hl j x v o1 t2 (hk.elim (fun z=>.inr (.inl z)) fun z=>.inr (.inr z))
  refine⟨u,r,.inr ⟨?_,?_⟩⟩
  ·rcases e3 with z | z | z
   ·exfalso
    have:∀ {l:List (Str×NameKind)},l.lookup x=some .free→(l.map fun(n,k)=>if (k == NameKind.free&&X.env.scope.kind == .function&&X.env.kindOf n == some .cell) then(n,NameKind.cell) else(n,k)).lookup x≠some .local:=by
     intro l
     induction l with
     | nil=>intro h;simp at h
     | cons y r ih =>
      obtain⟨n,k'⟩:=y
      intro h q
      have q:List.lookup x ((if (k' == NameKind.free&&X.env.scope.kind == .function&&X.env.kindOf n == some .cell)=true then(n,NameKind.cell) else(n,k'))::(r.map _))=some .local:=q
      by_cases hx:x=n
      ·subst hx
       rw[xd5] at h
       simp at h
       subst h
       split at q
       ·rw[xd5] at q;simp at q
       ·rw[xd5] at q;simp at q
      ·have e:(x == n)=false:=by simpa using hx
       rw[xd5,e] at h
       refine ih h ?_
       split at q
       ·rw[xd5,e] at q;exact q
       ·rw[xd5,e] at q;exact q
    exact this o2 z
   ·exact .inl z
   ·exact .inr z
  ·rcases l with ⟨z,_⟩ | ⟨_,c,ec,hc⟩
   ·exfalso
    have z:X.env.scope.names.lookup x=some .local:=z
    rcases hk with q | q<;>rw[z] at q<;>cases q
   ·obtain⟨o,ho,hd⟩:=hc
    exact⟨c,vm ec _ _ m,o,kp c o ho,hd⟩⟩
 cell:=fun x c h=>by
  obtain⟨v,o,ho,hd⟩:=I.cell x c (zQ _ _ h fun _ z=>by simp at z)
  exact⟨v,o,kp c o ho,hd⟩
 free:=I.hok.fresh (xeB _)
 freeC:=fun x c h=>I.freeC x c (zQ _ _ h fun _ z=>by simp at z)
 pin:=fun p hp=>by
  have e:p=(s.heap.objs.size,{ cls:=.type "list", data:=.seq #[] 0 }):=by simpa [xP] using hp
  subst e
  refine⟨hD,I.hok.fresh (xeA _),xeJ (xeH _),fun z=>?_,fun v=>by simp⟩
  rcases xec.mp (I.stkSub _ z) with e | e
  ·exact absurd (e▸I.lt) (xeD _)
  ·exact I.nofs (xeA _) e
 hok:=I.hok.kept kp
 len:=by
  show(vC tau σ).length=N.length
  unfold vC
  rw[xdZ]
  exact k.len
end
end L2
namespace L2
open PySem PySem.Spec PyProof.Rows
theorem kb {prog:Program}{w:World}{A:Around}{R:Result→Shared→Prop}{s:Shared}{elt target iter:Expr}{ifs:List Expr}{scope:Scope}{pos:Pos}{it acc:Value}{env:Env}(I:Nat→Shared→Prop)
  (turn:∀n s,I n s→wpAny (model prog w) A (pyNext it) (fun r s₁=>match r with
   | none=>R (.ok .next) s₁
   | some v=>wpAny (model prog w) A (letOwnedTupleGo target it v) (fun _ s₀=>wpAny (model prog w) A (assign target env v) (fun _ s₂ =>
     wpAny (model prog w) A (forIn ifs true fun c r=>if r=true then do let ok ←isTrue c env (eval c env);pure (ForInStep.yield ok) else pure (ForInStep.yield r)) (fun ok s₃ =>
      if ok=true then wpAny (model prog w) A (eval elt env) (fun x s₄ =>
       wpAny (model prog w) A (call (.builtin "list.append") [acc,x]) (fun _ s₅=>∃m,m<n∧I m s₅) (notedBy (model prog w) A env fun e s'=>R (.error e) s') s₄) (notedBy (model prog w) A env fun e s'=>R (.error e) s') s₃
      else ∃m,m<n∧I m s₃) (notedBy (model prog w) A env fun e s'=>R (.error e) s') s₂) (notedBy (model prog w) A env fun e s'=>R (.error e) s') s₀) (notedBy (model prog w) A env fun e s'=>R (.error e) s') s₁) (notedBy (model prog w) A env fun e s'=>R (.error e) s') s)
  (n:Nat) (h:I n s) :
  codeAny (model prog w) A (.compLoop (.ListComp elt [⟨target,iter,ifs,0⟩] scope pos) 0 it acc env) R s:=by
 refine codeAny_loop rfl I (fun n s hI=>?_) n h
 show wpAny _ A ((compTurn (.ListComp elt [⟨target,iter,ifs,0⟩] scope pos) 0 it acc env).onRaise (fun x=>do noteFrame x env;theTreesLotGoes x)) _ _ s
 refine wpAny_noted ?_
 rw[compTurn_list]
 refine wpAny_bind (wpAny_standAt (wpAny_bind (wpAny_mono (turn n s hI) (fun r s₁ h₁=>?_) fun _ _ h'=>h')))
 cases r with
 | none=>exact wpAny_pure h₁
 | some v =>
  refine wpAny_bind (wpAny_mono h₁ (fun _ s₀ h₀=>?_) fun _ _ h'=>h')
  refine wpAny_bind (wpAny_mono h₀ (fun _ s₂ h₂=>wpAny_bind (wpAny_mono h₂ (fun ok s₃ h₃=>?_) fun _ _ h'=>h')) fun _ _ h'=>h')
  cases ok with
  | false=>exact wpAny_pure ⟨rfl,h₃⟩
  | true =>
   exact wpAny_bind (wpAny_bind (wpAny_mono h₃ (fun x s₄ h₄=>wpAny_bind (wpAny_mono h₄ (fun _ s₅ h₅=>wpAny_pure (wpAny_pure ⟨rfl,h₅⟩)) fun _ _ h'=>h')) fun _ _ h'=>h'))
def PIf (Y:Cx)(ifs:List Expr)(t:TT):Prop :=
 ∀(pins:List (Addr×Obj)) (s:Shared) (σ:St) (H:Hp) (Q:Bool→Hp→Prop),Inv Y pins σ H s→t σ H Q →
  wpAny (model Y.prog Y.w) Y.A (forIn ifs true fun c r=>if r=true then do let ok ←isTrue c Y.env (eval c Y.env);pure (ForInStep.yield ok) else pure (ForInStep.yield r)) (TP Y pins σ Q) Y.xe s
def xaH:TT:=fun _ H Q=>Q true H
theorem zK {Y:Cx}:PIf Y [] xaH:=fun pins s σ H Q I h=>wpAny_tests_nil ⟨H,I,h⟩
theorem aj {Y:Cx}{c:Expr}{t:TT}(h:PT Y c t):PIf Y [c] t:=fun pins s σ H Q I q=>wpAny_tests_one (@h pins s σ H Q I q)
def Agree (tau:List (Option Nat))(σ σ2:St):Prop:=∀i j:Nat,tau[i]? = some (some j)→σ2[i]? = σ[i]?
def GA (tau:List (Option Nat))(g:TG):Prop:=∀x σ H Q,g x σ H Q→g x σ H (fun σ2 H2=>Q σ2 H2∧Agree tau σ σ2)
def GAs (tau:List (Option Nat))(t:TGs):Prop:=∀xs σ H Q,t xs σ H Q→t xs σ H (fun σ2 H2=>Q σ2 H2∧Agree tau σ σ2)
theorem ui {tau:List (Option Nat)}{i:Nat}(h:tau[i]? = some none):GA tau (jN i):=fun x σ H Q q=>⟨q,fun k j e=>by
 rw[xdS]
 rintro rfl
 rw[h] at e;cases e⟩
theorem qX {tau:List (Option Nat)}:GAs tau xbz:=fun xs σ H Q q=>⟨q.1,q.2,fun _ _ _=>rfl⟩
theorem wZ {K:PySem.W.Frag}{n:Nat}{t:TGs}{tau:List (Option Nat)}(h:GAs tau t):GA tau (xbh K n t):=fun x σ H Q q=>by
 obtain⟨a,xs,e,sq,l,r⟩:=q
 exact⟨a,xs,e,sq,l,h _ _ _ _ r⟩
theorem yM {tau:List (Option Nat)}{i:Nat}{u:TGs}(h:tau[i]? = some none)(hu:GAs tau u):GAs tau (lG (jN i) u):=fun xs σ H Q q=>by
 obtain⟨v,r,e,q⟩:=q
 refine⟨v,r,e,?_⟩
 have q':u r (σ.set i (some v)) H Q:=q
 show u r (σ.set i (some v)) H _
 have:=hu _ _ _ _ q'
 have e2:(fun σ2 H2=>Q σ2 H2∧Agree tau (σ.set i (some v)) σ2)=(fun σ2 H2=>Q σ2 H2∧Agree tau σ σ2):=by
  funext σ2 H2
  have:Agree tau (σ.set i (some v)) σ2↔Agree tau σ σ2:=by
   have key:∀(k j:Nat),tau[k]? = some (some j)→(σ.set i (some v))[k]? = σ[k]?:=fun k j e=>by
    rw[xdS]
    rintro rfl
    rw[h] at e;cases e
   constructor
   ·intro z k j e;rw[z k j e,key k j e]
   ·intro z k j e;rw[z k j e,key k j e]
  exact propext (and_congr_right fun _=>this)
 rw[←e2]
 exact this
def lF (wi:TI)(tau:List (Option Nat))(g:TG)(tc:TT)(te:TE):TE:=fun σ H Q=>wi σ H fun J H1 =>
 ∃W:Nat→Nat→List V→Hp→Prop,(∃m,W 0 m [] H1)∧∀i m ys H,W i m ys H →
  (J.stop i H∧∀p,H p=none→Q (.ref p) (upd H p (.lst ys))) ∨
  (J.go i H∧ys.length<sizeLine∧∀x H',J.yld i H x H'→g x (vC tau σ) H' fun σ2 H2=>tc σ2 H2 fun b H3=>if b=true then te σ2 H3 fun y H4=>∃m',m' < m∧W (i+1) m' (ys++[y]) H4 else ∃m',m' < m∧W (i+1) m' ys H3)
section
variable {X:Cx} {sc:Scope} {N:List Str} {tau:List (Option Nat)} {pins:List (Addr×Obj)} {σ:St} {H:Hp} {s:Shared}
theorem a_ (k:uB X sc N tau)(I:Inv X pins σ H s){fp:List Addr}(hf:∀b∈fp,jQ X pins H b){σ':St}{H':Hp}{s':Shared}{its:List Value}{n:Nat}{ys:List V}
  (J:Inv (xP X sc N (s.heap.objs.size+1) s H fp) [(s.heap.objs.size,{ cls:=.type "list", data:=.seq its.toArray n })] σ' H' s') (rv:yy ys its) (hz:ys.length≤sizeLine) :
  Inv X pins σ (upd H' s.heap.objs.size (.lst ys)) s'∧H' s.heap.objs.size=none∧(upd H' s.heap.objs.size (.lst ys)) (s.heap.objs.size+1)=none:=by
 obtain⟨pD,nD,_,_,_⟩:=J.pin (s.heap.objs.size,{ cls:=.type "list", data:=.seq its.toArray n }) (by simp[xP])
 have nC:H' (s.heap.objs.size+1)=none:=J.free
 have B:Un (frs X.stack) fp H H' s.heap s'.heap:=J.base
 have ltD:∀b o,s.heap.get? b=some o→b≠s.heap.objs.size:=fun b o e=>xeJ (Heap.lt_size e)
 refine⟨I.call' (ch:=fp) J.os ⟨B.keep,B.slot,fun b o e n hx=>?_,B.there,fun b xs e=>?_,fun b o u e=>?_,fun b ps e=>?_⟩ (fun b u e=>?_) J.bare (fun b hb=>?_),nD,?_⟩
 ·rw[xC (ltD b o e)];exact B.free b o e n hx
 ·have q:=B.tups b xs e
  rw[xC (xn q nD)];exact q
 ·have q:=B.frzs b o u e
  rw[xC (xn q nD)];exact q
 ·obtain⟨more,q⟩:=B.tbls b ps e
  exact⟨more,by rw[xC (xn q nD)];exact q⟩
 ·by_cases hb:b=s.heap.objs.size
  ·subst hb
   rw[xM] at e
   cases e
   exact⟨hz,its,n,rv,pD⟩
  ·rw[xC hb] at e
   exact(J.hok b u e).stay (fun c v _ q=>q) (fun c q=>by rw[xC (xn q nD)];exact q) (fun c xs q=>by rw[xC (xn q nD)];exact q) fun c o u q=>by rw[xC (xn q nD)];exact q
 ·obtain⟨_,f1,_,f3,f4,f5⟩:=hf b hb
  exact⟨f3,f1,f4,f5⟩
 ·rw[xC (xeI (xeH _))];exact nC
theorem jG (I0:Inv X pins σ H s){σ':St}{H':Hp}{s':Shared}{h':Heap}(I:Inv X pins σ' H' s')(hC:H' (s.heap.objs.size+1)=none)(hs:Heap.SameBut (s.heap.objs.size+1) s'.heap h') :
  Inv X pins σ' H' { s' with heap:=h' }:=by
 have lt:∀b o,s.heap.get? b=some o→b≠s.heap.objs.size+1:=fun b o e=>xeJ (xeG (Heap.lt_size e))
 refine I.turned (t':=s'.toks) (it:=s.heap.objs.size+1) (fun b o hb e=>(hs.2 b hb).trans e) hC ?_ (.inr (xeC I0.sz (xeB _))) (fun x c e=>?_) (fun p hp=>?_)
 ·exact xeI (xeG I0.lt)
 ·obtain⟨v,o,ho,_⟩:=I0.cell x c e
  exact lt c o ho
 ·exact lt _ _ (I0.pin p hp).1
theorem tw {elt tg iter:Expr}{ifs:List Expr}{g:TG}{tc:TT}{te:TE}{pos:Pos}(k:uB X sc N tau)(hc:X.calm=true)(I:Inv X pins σ H s){it:Addr}{fp:List Addr}{tn:Nat→Heap→Prop}{J:It}
  (T:Turn X.prog X.w X.K tg J fp it tn) (st0:tn 0 s.heap) (hf:∀b∈fp,jQ X pins H b) (hga:GA tau g)
  (hg:∀C s H ex,PG (xP X sc N C s H ex) tg g) (ht:∀C s H ex,PIf (xP X sc N C s H ex) ifs tc) (he:∀C s H ex,PE (xP X sc N C s H ex) elt te)
  {W:Nat→Nat→List V→Hp→Prop} {Z:List V→Hp→Prop} (w0:∃m,W 0 m [] H) (turn:∀i m ys H,W i m ys H →
   (J.stop i H∧Z ys H) ∨
   (J.go i H∧ys.length<sizeLine∧∀x H',J.yld i H x H'→g x (vC tau σ) H' fun σ2 H2=>tc σ2 H2 fun b H3=>if b=true then te σ2 H3 fun y H4=>∃m',m' < m∧W (i+1) m' (ys++[y]) H4 else ∃m',m' < m∧W (i+1) m' ys H3))
  {E:Value→Shared→Prop} {RR:Value→Addr→Result→Shared→Prop}
  (fin:∀ σ' H' s' ys its n,Inv (xP X sc N (s.heap.objs.size+1) s H fp) [(s.heap.objs.size,{ cls:=.type "list", data:=.seq its.toArray n })] σ' H' s'→yy ys its→ys.length≤sizeLine→Z ys H'→RR (.ref s.heap.objs.size) (s.heap.objs.size+1) (.ok .next) s') :
  wpAny (model X.prog X.w) X.A (newList []) (fun acc s₃=>wpAny (model X.prog X.w) X.A (newFunctionEnv sc X.env.globals (qV X.env sc.names []) [] X.env.qual none .none (some X.env)) (fun cenv s₄ =>
   codeAny (model X.prog X.w) X.A (.compStart (.ListComp elt [⟨tg,iter,ifs,0⟩] sc pos) 0 (.ref it) acc { cenv with scope:=relabel sc X.env }) (RR acc cenv.locals) s₄) E s₃) E s:=by
 have hob:∀b∈fp,∃o,s.heap.get? b=some o:=fun b hb=>let ⟨o,e,_⟩:=T.obj _ _ st0 b hb;⟨o,e⟩
 refine wpAny_newObj_type (wpAny_newFunctionEnv k.nocell (by intro y hy;simp at hy) (fun h₁ hns₁ hsb₁=>?_) k.kind)
 dsimp only at hns₁ hsb₁ ⊢
 generalize hH2:s.heap.push { cls:=.type "list", dict:=none,data:=.seq ([]:List Value).toArray }=H2 at hns₁ hsb₁ ⊢
 have hC:H2.objs.size=s.heap.objs.size+1:=by rw[←hH2,Heap.size_push]
 have old:∀b o,s.heap.get? b=some o→h₁.get? b=some o:=fun b o e=>hsb₁.extBut b o (by rw[hC];exact xeJ (xeG (Heap.lt_size e))) (Heap.get?_push_of_some _ (hH2▸Heap.get?_push_of_some _ e))
 have hacc:h₁.get? s.heap.objs.size=some { cls:=.type "list", data:=.seq #[] 0 }:=hsb₁.extBut _ _ (by rw[hC];exact xeJ (xeH _)) (Heap.get?_push_of_some _ (hH2▸Heap.get?_push_size _ rfl))
 rw[hC] at hns₁ ⊢
 have I1:Inv (xP X sc N (s.heap.objs.size+1) s H fp) [(s.heap.objs.size,{ cls:=.type "list", data:=.seq #[] 0 })] (vC tau σ) H { s with heap:=h₁,toks:=s.toks+([]:List (Str×Value)).length } :=
  aO k I hf hob old hns₁ hacc
 have st1:tn 0 h₁:=T.keep _ _ _ st0 fun b _ o e=>old b o e
 have ltD:∀b∈fp,b≠s.heap.objs.size:=fun b hb=>by
  obtain⟨o,e⟩:=hob b hb
  exact xeJ (Heap.lt_size e)
 have ltC:∀b∈fp,b≠s.heap.objs.size+1:=fun b hb=>by
  obtain⟨o,e⟩:=hob b hb
  exact xeJ (xeG (Heap.lt_size e))
 have stat:∀ {H':Hp} {its:List Value} {n:Nat},(∀b∈fp,H' b=none)→∀b∈fp,jQ (xP X sc N (s.heap.objs.size+1) s H fp) [(s.heap.objs.size,{ cls:=.type "list", data:=.seq its.toArray n })] H' b:=fun {H' its n} hn b hb=>by
  have cx:=sF (N:=N) k I hf hob
  refine⟨hn b hb,ltC b hb,cx.exfs b hb,.inl hb,(cx.exf b hb).2,fun p hp=>?_⟩
  have e:p=(s.heap.objs.size,{ cls:=.type "list", data:=.seq its.toArray n }):=by simpa [xP] using hp
  subst e
  exact Ne.symm (ltD b hb)
 obtain⟨m0,w0⟩:=w0
 have loop:codeAny (model X.prog X.w) X.A (.compLoop (.ListComp elt [⟨tg,iter,ifs,0⟩] sc pos) 0 (.ref it) (.ref s.heap.objs.size) (compEnvC sc (qV X.env sc.names []) (s.heap.objs.size+1) X.env)) (RR (.ref s.heap.objs.size) (s.heap.objs.size+1)) { s with heap:=h₁,toks:=s.toks+([]:List (Str×Value)).length }:=by
  refine kb (fun m s'=>∃i ys H' its n,Inv (xP X sc N (s.heap.objs.size+1) s H fp) [(s.heap.objs.size,{ cls:=.type "list", data:=.seq its.toArray n })] (vC tau σ) H' s'∧yy ys its∧ys.length≤sizeLine∧tn i s'.heap∧(∀b∈fp,H' b=none)∧W i m ys H') ?_ m0
   ⟨0,[],H,[],0,I1,.nil,xeL _,st1,fun b hb=>(hf b hb).1,w0⟩
  rintro m s3 ⟨i,ys,H3,its,n,I3,rv,hz,st3,fr3,w3⟩
  rcases turn i m ys H3 w3 with ⟨stop,z⟩ | ⟨go,hlt,step⟩
  ·refine wpAny_mono (T.done (xP X sc N (s.heap.objs.size+1) s H fp) rfl rfl rfl hc i _ s3 _ H3 (fun _ _=>False) I3 (stat fr3) st3 stop) (fun r s4 ⟨hr,I4⟩=>?_) fun _ _ f=>f.elim
   subst hr
   exact fin _ _ _ _ _ _ I4 rv hz z
  ·refine wpAny_mono (T.item (xP X sc N (s.heap.objs.size+1) s H fp) rfl rfl rfl hc i _ s3 _ H3 (fun _ _=>False) I3 (stat fr3) st3 go) (fun r s4 ⟨u,hr,h4⟩=>?_) fun _ _ f=>f.elim
   subst hr
   refine wpAny_mono h4 (fun _ s5 ⟨x,H5,I5,r5,y5,st5,fr5⟩=>?_) fun _ _ f=>f.elim
   have I5':=I5.pinned (stat fr5) (T.obj _ _ st5)
   refine wpAny_mono (hg _ _ _ _ _ s5 _ H5 x u _ I5' r5 (hga _ _ _ _ (step x H5 y5))) (fun _ s6 ⟨σ6,H6,I6,q6,ag⟩=>?_) fun _ _ f=>f.elim
   refine wpAny_mono (ht _ _ _ _ _ s6 σ6 H6 _ I6 q6) (fun b s7 ⟨H7,I7,q7⟩=>?_) fun _ _ f=>f.elim
   have back:∀ {H8:Hp} {s8:Shared},Inv (xP X sc N (s.heap.objs.size+1) s H fp) ([(s.heap.objs.size,{ cls:=.type "list", data:=.seq its.toArray n })]++wm fp s5.heap) σ6 H8 s8 →
     Inv (xP X sc N (s.heap.objs.size+1) s H fp) [(s.heap.objs.size,{ cls:=.type "list", data:=.seq its.toArray n })] (vC tau σ) H8 s8∧tn (i+1) s8.heap∧∀b∈fp,H8 b=none:=fun {H8 s8} I8=>by
    refine⟨I8.unpinned.weak (I1.len.trans I8.len.symm) fun j v e=>?_,T.keep _ _ _ st5 fun b hb o e=>(I8.pin (b,o) (xeb _ (xeb _ (yF hb e)))).1,fun b hb=>?_⟩
    ·obtain⟨j',t1,_⟩:=uq e
     rw[ag j j' t1];exact e
    ·obtain⟨o,e,d⟩:=T.obj _ _ st5 b hb
     exact(I8.pin (b,o) (xeb _ (xeb _ (yF hb e)))).2.1
   cases b with
   | false =>
    obtain⟨m',hm,w7⟩:=q7
    obtain⟨I8,st8,fr8⟩:=back I7
    rw[if_neg xdd]
    exact⟨m',hm,i+1,ys,H7,its,n,I8,rv,hz,st8,fr8,w7⟩
   | true =>
    rw[if_pos rfl]
    refine wpAny_mono (he _ _ _ _ s7 σ6 H7 _ I7 q7) (fun y s8 ⟨yv,H8,I8,r8,m',hm,w8⟩=>?_) fun _ _ f=>f.elim
    obtain⟨I9,st9,fr9⟩:=back I8
    obtain⟨pD,nD,dL,dF,dC⟩:=I9.pin (s.heap.objs.size,{ cls:=.type "list", data:=.seq its.toArray n }) (by simp[xP])
    refine call_meets F.slot_list_append ⟨_,pD,rfl⟩ F.entry_list_append (F.args_list_append_2 _ _) (PySem.list_append s.heap.objs.size its.toArray n y (by rw[xet,←rv.length];exact hz)) ⟨pD,?_⟩
    have q:=PySem.IsL.update pD (fun x=>x.push y)
    obtain⟨n',q'⟩:∃n',(s8.heap.update s.heap.objs.size (Obj.mapSeq fun x=>x.push y)).get? s.heap.objs.size=some { cls:=.type "list", data:=.seq (its++[y]).toArray n' }:=⟨_,by
     rw[show(its++[y]).toArray=its.toArray.push y by simp];exact q⟩
    have kp:∀b o,b≠s.heap.objs.size→s8.heap.get? b=some o→(s8.heap.update s.heap.objs.size (Obj.mapSeq fun x=>x.push y)).get? b=some o:=fun b o hb e=>(Heap.get?_update_other s8.heap _ (Ne.symm hb)).trans e
    have I10:Inv (xP X sc N (s.heap.objs.size+1) s H fp) [] (vC tau σ) H8 s8:=I9.pins_of fun p hp=>absurd hp (by simp)
    have I11:Inv (xP X sc N (s.heap.objs.size+1) s H fp) [] (vC tau σ) H8 { s8 with heap:=s8.heap.update s.heap.objs.size (Obj.mapSeq fun x=>x.push y),toks:=s8.toks } :=
     I10.turned (it:=s.heap.objs.size) (t':=s8.toks) kp nD dL (.inr (xeA _)) (fun x c e z=>by
      obtain⟨v,o,ho,hd⟩:=I10.cell x c e
      rw[z,pD] at ho
      cases ho
      cases hd) (fun p hp=>absurd hp (by simp[xP]))
    refine⟨m',hm,i+1,ys++[yv],H8,its++[y],n',I11.pins_of fun p hp=>?_,rv.append (.cons r8 .nil),?_,T.keep _ _ _ st9 fun b hb o e=>kp b o (ltD b hb) e,fr9,w8⟩
    ·have e:p=(s.heap.objs.size,{ cls:=.type "list", data:=.seq (its++[y]).toArray n' }):=by simpa using hp
     subst e
     exact⟨q',nD,dL,dF,fun v=>by simp⟩
    ·rw[xdU,xd3];exact hlt
 exact codeAny_compStart_list loop (T.self _ 0 _ _ _ st1 loop)
theorem zG {elt tg iter:Expr}{ifs:List Expr}{wi:TI}{g:TG}{tc:TT}{te:TE}{pos:Pos}(k:uB X sc N tau)(hc:X.calm=true)(hga:GA tau g)(hi:PI X tg iter wi)
  (hg:∀C s H ex,PG (xP X sc N C s H ex) tg g) (ht:∀C s H ex,PIf (xP X sc N C s H ex) ifs tc) (he:∀C s H ex,PE (xP X sc N C s H ex) elt te)
  (hs:∀x,foldedSetIterable iter X.env x=pure x:=by intro _;rfl):PE X (.ListComp elt [⟨tg,iter,ifs,0⟩] sc pos) (lF wi tau g tc te):=by
 intro pins s σ H Q I h
 rw[eval_ListComp]
 refine wpAny_comprehension_free (use:=none) rfl hs (dZ (k.cells I.ok)) k.kind k.loc ?_
 refine thn (@hi pins s σ H _ I h) fun v s1 h1=>thn h1 fun itv s2 h2=>?_
 obtain⟨it,fp,tn,J,H2,e,I2,T,st2,f2,W,w0,turn⟩:=h2
 subst e
 refine tw (RR:=fun acc C=>compPost (model X.prog X.w) X.A X.xe none (EP X pins σ Q) acc C) (W:=W) (Z:=fun ys H'=>∀p,H' p=none→Q (.ref p) (upd H' p (.lst ys))) k hc I2 T st2 f2 hga hg ht he w0 turn ?_
 intro σ' H' s' ys its n J' rv hz z
 obtain⟨I',hD,hC⟩:=a_ k I2 f2 J' rv hz
 obtain⟨m,hn,_⟩:=J'.loc
 exact⟨m,hn,fun h' hs'=>⟨.ref _,_,jG I2 I' hC hs',rfl,z _ hD⟩⟩
end
end L2
namespace L2
open PySem PySem.Spec PyProof.Rows
structure Own (P:Program)(w:World)(K:PySem.W.Frag)(mg:Str→Option Value)(base:Heap)(k:Nat)(x:Str)(ps:List Str)(sp:Sp):Prop where
 ex:∃(f:Addr) (fd:FuncData),g_ P w K mg base CX0 k f fd ps sp∧Binds K fd ps []∧PySem.W.keepIn K (.ref f)=true∧mg x=some (.ref f)
theorem Own.mono {P:Program}{w:World}{K:PySem.W.Frag}{mg:Str→Option Value}{base:Heap}{j k:Nat}{x:Str}{ps:List Str}{sp:Sp}(h:Own P w K mg base j x ps sp)(hjk:j≤k):Own P w K mg base k x ps sp:=by
 obtain⟨f,fd,F,b,kp,m⟩:=h.ex
 exact⟨f,fd,F.mono hjk,b,kp,m⟩
theorem Own.imp {P:Program}{w:World}{K:PySem.W.Frag}{mg:Str→Option Value}{base:Heap}{k:Nat}{x:Str}{ps:List Str}{sp sp':Sp}(h:Own P w K mg base k x ps sp)(q:∀vs H Q E,sp' vs H Q E→sp vs H Q E):Own P w K mg base k x ps sp':=by
 obtain⟨f,fd,F,b,kp,m⟩:=h.ex
 exact⟨f,fd,F.imp q,b,kp,m⟩
def lN (sp:Sp)(t:TA):TE:=fun σ H Q=>t σ H fun vs H1=>sp vs H1 Q E0
theorem xq {X:Cx}{k j:Nat}{x:Str}{ps:List Str}{sp:Sp}{p pos:Pos}{e:Expr}{es:List Expr}{t:TA}(h:Own X.prog X.w X.K X.mg X.base j x ps sp)(hr:jJ k X.A)(ha:PA X (e::es) t)(hjk:j≤k:=by decide)(hg:Gl X x:=by rfl)
  (hdb:(x == ("__debug__" : Str))=false:=by decide) (he:starEach (e::es) X.env=(false,eval e X.env)::starEach es X.env:=by rfl) (hpl:(backTo pos (starEach es X.env)).any (·.1)=false:=by rfl) :
  PE X (.Call (.Name x p) (e::es) [] pos) (lN sp t):=by
 obtain⟨f,fd,F,b,kp,m⟩:=(h.mono hjk).ex
 intro pins s σ H Q I q
 refine o6 (E:=E0) F hr hg m kp b .nil xbA ha hdb he hpl s σ H Q I ?_
 have e:(fun(vs:List V) (H1:Hp)=>sp (vs++[]) H1 Q E0)=fun vs H1=>sp vs H1 Q E0:=by
  funext vs H1;rw[xdz]
 show t σ H fun vs H1=>sp (vs++[]) H1 Q E0
 rw[e];exact q
theorem j6 {P:Program}{w:World}{K:PySem.W.Frag}{mg:Str→Option Value}{base:Heap}{k:Nat}{x qual:Str}{st:Stmt}{f:Addr}{fd:FuncData}{N ps:List Str}{sp:Sp}(F:Fun K x qual st f fd)(S:xt N ps (xg st))(mgx:mg x=some (.ref f))(b:Binds K fd ps [])
  (len:∀vs H Q E,sp vs H Q E→vs.length=ps.length)
  (body:∀(cdv:Value) (A:Around) (outer:List Env) (s:Shared) (H:Hp) (vs:List V) (Q:VK) (E:XK),jJ k (A.deeper (envOfC qual (xg st) s.heap.objs.size f cdv))→sp vs H Q E →
   ∃t,PSs (bH CX0 P w K mg base N qual (xg st) f cdv A outer s H E).nox (yS st) t∧t { nx:=fun _ H'=>Q .non H',rt:=Q } (start N vs) H):Own P w K mg base (k+1) x ps sp :=
 ⟨f,fd,F.ok S len body,b,F.kp,mgx⟩
section
variable {X:Cx}
def xaC (i j:Int):Prop:=0<j∧j.natAbs.log2<9000
theorem rf:OpR X (binaryOp .FloorDiv) (rI xaC fun i j=>.int (i / j)):=opI fun i j _ _ _ _ _ hc q=>by
 refine floordiv_int (by have:=hc.1;omega) ?_ (.inl (PyProof.noPylong_of_log2 hc.2))
 rw[Int.fdiv_eq_ediv_of_nonneg i (by have:=hc.1;omega)]
 exact q
theorem jc {i j:Int}(h0:0<j)(h:j<2 ^ 128):xaC i j:=by
 refine⟨h0,?_⟩
 have:j.natAbs<2 ^ 128:=by omega
 have:=Nat.log2_lt (n:=j.natAbs) (k:=128) (by omega)
 have h':j.natAbs.log2<128:=this.mpr (by omega)
 omega
def dm (n c:String):Bool:=n == c || (n == "bool" && c == "int")
def gW:List String:=["NoneType", "bool", "int", "str", "list", "tuple", "dict"]
def wI:List String:=["bool", "int", "str", "list", "tuple", "dict"]
theorem fS {K:PySem.W.Frag}{n c:String}(hn:n∈gW)(hc:c∈wI):PySem.W.kitOne K (.type n) (.type c)=some (dm n c):=by
 simp only[gW,wI,xec,xep,xeV] at hn hc
 rcases hn with rfl | rfl | rfl | rfl | rfl | rfl | rfl<;>rcases hc with rfl | rfl | rfl | rfl | rfl | rfl<;>kernel_rfl
def tyN (H:Hp):V→Option String
 | .non=>some "NoneType"
 | .bl _=>some "bool"
 | .int _=>some "int"
 | .str _=>some "str"
 | .ref a=>match H a with
  | some (.lst _)=>some "list"
  | some (.frz _ (.lst _))=>some "list"
  | some (.tup _)=>some "tuple"
  | some (.dK _)=>some "dict"
  | _=>none
 | _=>none
theorem pL {K:PySem.W.Frag}{H:Hp}{x:V}{n:String}(h:tyN H x=some n):rS K H x (.type n)∧n∈gW:=by
 cases x with
 | non=>cases h;exact⟨.non,by decide⟩
 | bl b=>cases h;exact⟨.bl b,by decide⟩
 | int i=>cases h;exact⟨.int i,by decide⟩
 | str y=>cases h;exact⟨.str y,by decide⟩
 | ref a =>
  have h:(match H a with
   | some (.lst _)=>some "list"
   | some (.frz _ (.lst _))=>some "list"
   | some (.tup _)=>some "tuple"
   | some (.dK _)=>some "dict"
   | _=>none)=some n:=h
  split at h
  ·rename_i xs e;cases h;exact⟨.lst e,by decide⟩
  ·rename_i o xs e;cases h;exact⟨.frz e,by decide⟩
  ·rename_i xs e;cases h;exact⟨.tup e,by decide⟩
  ·rename_i xs e;cases h;exact⟨.dK e,by decide⟩
  ·cases h
 | _=>cases h
def xb_ (xs:List V)(H:Hp)(Q:VK):Prop:=∃x c n,xs=[x,.ty c]∧tyN H x=some n∧c∈wI∧Q (.bl (dm n c)) H
theorem zB:qO X (.builtin "isinstance") xb_:=by
 intro pins s σ H xs us Q I r h
 obtain⟨x,c,n,rfl,ty,hc,q⟩:=h
 obtain⟨u,w',rfl,rx,ry⟩:=vals2 r
 cases ry
 obtain⟨t1,t2⟩:=pL (K:=X.K) ty
 exact tY I rx t1 (fS t2 hc) fun tk=>⟨.bl _,H,I.tok tk,rfl,q⟩
def xaG (xs:List V)(H:Hp)(Q:VK):Prop:=∃(x:V) (p:Addr) (cs:List String) (n:String),xs=[x,.ref p]∧H p=some (.tup (cs.map V.ty))∧tyN H x=some n∧(∀c∈cs,c∈wI)∧Q (.bl (cs.any (dm n))) H
theorem ny:∀ {cs:List String} {us:List Value},yy (cs.map V.ty) us→us=cs.map Value.type
 | [],_,.nil=>rfl
 | c::cs,_,.cons r t=>by
  cases r
  rw[ny t];rfl
theorem aA {K:PySem.W.Frag}{n:String}(hn:n∈gW):∀ {cs:List String},(∀c∈cs,c∈wI)→PySem.W.kitAny K (.type n) (cs.map Value.type)=some (cs.any (dm n))
 | [],_=>rfl
 | c::cs,h=>by
  have e:=fS (K:=K) hn (h c xee)
  show(match PySem.W.kitOne K (.type n) (.type c) with | some true=>some true | some false=>PySem.W.kitAny K (.type n) (cs.map Value.type) | none=>none)=_
  rw[e,List.any_cons]
  cases dm n c with
  | true=>rfl
  | false=>exact(aA hn fun d hd=>h d (xed _ hd)).trans (by simp)
theorem tW:qO X (.builtin "isinstance") xaG:=by
 intro pins s σ H xs us Q I r h
 obtain⟨x,p,cs,n,rfl,hp,ty,hc,q⟩:=h
 obtain⟨u,w',rfl,rx,ry⟩:=vals2 r
 cases ry
 obtain⟨t1,t2⟩:=pL (K:=X.K) ty
 obtain⟨_,its,rv,⟨cl,dd,dt,sl⟩,h1,h2,nn,h3⟩:=(show zI X.prog X.w H s.heap p (.tup _) from I.hok p _ hp)
 have e:=ny rv
 subst e
 simp only at h2 h3
 subst h2 h3
 have fin:∀tk,EP X pins σ Q (.bool (cs.any (dm n))) { s with toks:=tk }:=fun tk=>⟨.bl _,H,I.tok tk,rfl,q⟩
 have ka:=aA (K:=X.K) t2 hc
 cases t1 with
 | non=>cases (show u=Value.none from rx);exact PySem.W.kia_tup PySem.W.kitx_none I.kIn True.intro h1 ka (fun z=>nomatch z) fin
 | bl y=>cases (show u=Value.bool y from rx);exact PySem.W.kia_tup PySem.W.kitx_bool I.kIn True.intro h1 ka (fun z=>nomatch z) fin
 | int i=>obtain⟨t,q⟩:=(show ∃t,u=Value.int i t from rx);cases q;exact PySem.W.kia_tup PySem.W.kitx_int I.kIn True.intro h1 ka (fun z=>nomatch z) fin
 | str y=>obtain⟨t,q⟩:=(show ∃t,u=Value.str y t from rx);cases q;exact PySem.W.kia_tup PySem.W.kitx_str I.kIn True.intro h1 ka (fun z=>nomatch z) fin
 | flt y=>obtain⟨t,q⟩:=(show ∃t,u=Value.float y t from rx);cases q;exact PySem.W.kia_tup PySem.W.kitx_float I.kIn True.intro h1 ka (fun z=>nomatch z) fin
 | @lst a xs ea =>
  cases (show u=Value.ref a from rx)
  obtain⟨_,_,n,_,hh⟩:=(show zI X.prog X.w H s.heap a (.lst xs) from I.hok a _ ea)
  exact PySem.W.kia_tup PySem.W.kitx_list I.kIn ⟨_,hh,rfl⟩ h1 ka (fun z=>nomatch z) fin
 | @frz a ob xs ea =>
  cases (show u=Value.ref a from rx)
  obtain⟨_,_,_,n,_,hh⟩:=(show zI X.prog X.w H s.heap a (.frz ob (.lst xs)) from I.hok a _ ea)
  exact PySem.W.kia_tup PySem.W.kitx_list I.kIn ⟨_,hh,rfl⟩ h1 ka (fun z=>nomatch z) fin
 | @tup a xs ea =>
  cases (show u=Value.ref a from rx)
  obtain⟨_,_,_,p⟩:=(show zI X.prog X.w H s.heap a (.tup xs) from I.hok a _ ea)
  obtain⟨o,hh,h2,_⟩:=p
  exact PySem.W.kia_tup PySem.W.kitx_tuple I.kIn ⟨o,hh,h2⟩ h1 ka (fun z=>nomatch z) fin
 | @dK a kvs ea =>
  cases (show u=Value.ref a from rx)
  obtain⟨_,_,vs,_,p⟩:=(show zI X.prog X.w H s.heap a (.dK kvs) from I.hok a _ ea)
  obtain⟨o,es,ep,hh,h2,_⟩:=p
  exact PySem.W.kia_tup PySem.W.kitx_dict I.kIn ⟨o,hh,h2.1⟩ h1 ka (fun z=>nomatch z) fin
 | @dT a kvs ea =>
  cases (show u=Value.ref a from rx)
  obtain⟨_,_,xs,_,o,es,ep,hh,h2,_⟩:=(show zI X.prog X.w H s.heap a (.dT kvs) from I.hok a _ ea)
  exact PySem.W.kia_tup PySem.W.kitx_dict I.kIn ⟨o,hh,h2.1⟩ h1 ka (fun z=>nomatch z) fin
theorem j0:∀ {bs:List Bool} {us:List Value},yy (bs.map V.bl) us→us=bs.map Value.bool
 | [],_,.nil=>rfl
 | c::cs,_,.cons r t=>by
  cases r
  rw[j0 t];rfl
def oW (K:PySem.W.Frag)(xs:List V)(H:Hp)(Q:VK):Prop:=∃(p:Addr) (bs:List Bool),xs=[.ref p]∧SqL K H p (bs.map V.bl)∧Q (.bl (bs.all id)) H
theorem g9 {bs:List Bool}:(List.range bs.length).all (fun i=>(bs[i]?).getD false)=bs.all id:=by
 rw[Bool.eq_iff_iff]
 simp only[xdw,xek,id]
 constructor
 ·intro h b hb
  obtain⟨i,hi,rfl⟩:=List.mem_iff_getElem.mp hb
  have:=h i hi
  rw[xdO hi] at this
  exact this
 ·intro h i hi
  rw[xdO hi]
  exact h _ (List.getElem_mem hi)
theorem nY (hc:X.calm=true):qO X (.builtin "all") (oW X.K):=by
 intro pins s σ H xs us Q I r h
 obtain⟨p,bs,rfl,hl,q⟩:=h
 obtain⟨u,rfl,ru⟩:=vals1 r
 cases ru
 obtain⟨its,rv,pl,hz⟩:=I.list hl
 have e:=j0 rv
 subst e
 have hl':=pl.isList
 refine call_all_walk (wpAny_pyIter_list hl' ?_)
 have hlt:p<s.heap.objs.size:=by obtain⟨o,ho,_⟩:=id hl';exact Heap.lt_size ho
 have hne:p≠s.heap.objs.size:=xeJ hlt
 refine⟨_,_,_,_,_,_,fun i=>(bs[i]?).getD false,rfl,Walks.list (A:=X.A.in1) (I.ok.hd hc) _ p hne (bs.map Value.bool).toArray,⟨⟨_,Heap.get?_push_size _ rfl,rfl,rfl⟩,hl'.at fun o e=>Heap.get?_push_of_some _ e⟩,?_,fun h' tk hk=>?_⟩
 ·intro i v s' Q' E' hP hq
  have hP':(bs.map Value.bool)[i]? = some v:=by simpa using hP
  rw[xdR] at hP'
  cases eb:bs[i]? with
  | none=>rw[eb] at hP';cases hP'
  | some b =>
   rw[eb] at hP'
   cases hP'
   simp only[eb,xeM] at hq
   exact wpAny_truthy_bool hq
 ·have hk':=old_kept (l:=p) hk
  refine⟨.bl (bs.all id),H,I.kept hk',?_,q⟩
  show Value.bool _=Value.bool _
  have:(bs.map Value.bool).toArray.size=bs.length:=by simp
  rw[this,g9]
end
end L2
namespace L2
open PySem PySem.Spec PyProof.Rows
structure Blt (mg:Str→Option Value)(ns:List Str):Prop where
 all:∀x∈ns,mg x=none
theorem Blt.get {mg:Str→Option Value}{ns:List Str}(B:Blt mg ns)(x:Str)(h:x∈ns:=by decide +kernel):mg x=none:=B.all x h
theorem wY:bootBuiltins "len" = some (.builtin "len"):=by decide +kernel
theorem xa2:bootBuiltins "max" = some (.builtin "max"):=by decide +kernel
theorem xai:bootBuiltins "min" = some (.builtin "min"):=by decide +kernel
theorem qk:bootBuiltins "abs" = some (.builtin "abs"):=by decide +kernel
theorem hJ:bootBuiltins "all" = some (.builtin "all"):=by decide +kernel
theorem yc:bootBuiltins "isinstance" = some (.builtin "isinstance"):=by decide +kernel
theorem vo:bootBuiltins "tuple" = some (.type "tuple"):=by decide +kernel
theorem sG:bootBuiltins "list" = some (.type "list"):=by decide +kernel
theorem lX:bootBuiltins "int" = some (.type "int"):=by decide +kernel
theorem af:bootBuiltins "bool" = some (.type "bool"):=by decide +kernel
theorem xaT:bootBuiltins "zip" = some (.type "zip"):=by decide +kernel
def xbW (n:Int)(b:Bool):Prop:=0≤n∧(b=false→n<2147483647)
def tL (p:Addr)(H:Hp):Prop:=∃(n:Int) (b:Bool),H p=some (.lst [.int n,.bl b])∧xbW n b
structure SB (p:Addr)(H H':Hp):Prop where
 keep:∀(b:Addr) (o:HO),b≠p→H b=some o→H' b=some o
 st:tL p H'
def pG (K:PySem.W.Frag):Sp:=fun vs H Q _=>∃(a:Addr) (ns:List Int) (k:Int),vs=[.ref a,.int k]∧SqL K H a (ns.map V.int)∧ns.length≤63∧0≤k∧∀n:Int,Q (.int n) H
def sO (K:PySem.W.Frag):Sp:=fun vs H Q _=>∃(a:Addr) (ns:List Int) (k:Int),vs=[.ref a,.int k]∧SqL K H a (ns.map V.int)∧ns.length≤63∧0≤k ∧
 ∀(p:Addr) (n:Int) (b:Bool),H p=none→xbW n b→Q (.ref p) (upd H p (.lst [.int n,.bl b]))
def pC:Sp:=fun vs H Q _=>∃(p:Addr) (many:Int),vs=[.ref p,.int many]∧tL p H∧0<many∧many<2 ^ 128∧∀(r:Int) (H':Hp),0≤r→r<many→SB p H H'→Q (.int r) H'
theorem bQ {ns:List Int}{k:Int}(h0:0≤k)(h:k<(ns.length:Int)):∃v:Int,atI (ns.map V.int) k=some (.int v):=by
 have hk:k.toNat<ns.length:=by omega
 have ek:k=((k.toNat:Nat):Int):=by omega
 have q:atI (ns.map V.int) ((k.toNat:Nat):Int)=some (.int ns[k.toNat]):=lD (by rw[xdR,xdO hk]<;>rfl)
 rw[←ek] at q
 exact⟨_,q⟩
end L2
namespace L2
open PySem PySem.Spec PyProof.Rows
section
variable {X:Cx}
theorem wx (K:PySem.W.Frag)(e:X.K=K:=by rfl):IxR X (xbi K):=e▸bF
theorem h9 (K:PySem.W.Frag)(e:X.K=K:=by rfl):SlR X (lV K):=e▸tQ
theorem zX (K:PySem.W.Frag)(hc:X.calm=true)(e:X.K=K:=by rfl):qO X (.builtin "all") (oW K):=e▸nY hc
def o_ (K:PySem.W.Frag)(xs:List V)(H:Hp)(Q:VK):Prop:=∃p ys,xs=[.ref p]∧(SqL K H p ys∨SqT K H p ys)∧Q (.int ys.length) H
theorem yx (K:PySem.W.Frag)(e:X.K=K:=by rfl):qO X (.builtin "len") (o_ K):=e▸fR
def xa0 (K:PySem.W.Frag)(xs:List V)(H:Hp)(Q:VK):Prop:=∃p ys,xs=[.ref p]∧((SqL K H p ys∧∀l,H l=none→Q (.ref l) (upd H l (.tup ys)))∨(SqT K H p ys∧Q (.ref p) H))
theorem sC (K:PySem.W.Frag)(e:X.K=K:=by rfl):qO X (.type "tuple") (xa0 K):=e▸gM
theorem zc (K:PySem.W.Frag){pos:Pos}{es:List Expr}{k:Nat}{t:TGs}{n:Nat}(hc:X.calm=true)(h:PGs X es t)
  (hn:(assignEach es X.env).length=n:=by rfl) (hst:(assignEach es X.env).findIdx? (·.1)=none:=by rfl) (e:X.K=K:=by rfl):PG X (.Tuple es k pos) (xbh K n t):=by
 subst e
 exact xas hc h hn hst
end
theorem jV {α β:Type}{F:α→β→Prop}:∀ {l:List α} {k:List β} {i:Nat} {b:β},Paired F l k→k[i]? = some b→∃a,l[i]? = some a∧F a b
 | _,_,_,_,.nil,h=>by simp at h
 | _,_,0,_,.cons r _,h=>by simp at h;subst h;exact⟨_,rfl,r⟩
 | _,_,i+1,b,.cons _ t,h=>by
  obtain⟨a,e,f⟩:=jV (i:=i) t (by simpa using h)
  exact⟨a,by simpa using e,f⟩
theorem rN {α β:Type}{F:α→β→Prop}{l:List α}{k:List β}(h:Paired F l k):l.length=k.length:=Paired.length h
theorem sf {α β:Type}{F:α→β→Prop}{a:α}{b:β}{l:List α}{k:List β}(h:Paired F l k)(r:F a b):Paired F (l++[a]) (k++[b]):=Paired.snoc h r
theorem j2 {α β:Type}{F:α→β→Prop}:∀ {l l':List α} {k k':List β},Paired F l k→Paired F l' k'→Paired F (l++l') (k++k')
 | _,_,_,_,.nil,s=>s
 | _,_,_,_,.cons r t,s=>.cons r (j2 t s)
theorem vJ {α β:Type}{F:α→β→Prop}:∀(n:Nat) {l:List α} {k:List β},Paired F l k→Paired F (l.drop n) (k.drop n)
 | 0,_,_,h=>h
 | _+1,_,_,.nil=>.nil
 | n+1,_,_,.cons _ t=>vJ n t
theorem uo {α β:Type}{F:α→β→Prop}:∀(n:Nat) {l:List α} {k:List β},Paired F l k→Paired F (l.take n) (k.take n)
 | 0,_,_,_=>.nil
 | _+1,_,_,.nil=>.nil
 | n+1,_,_,.cons r t=>.cons r (uo n t)
theorem take_succ {α:Type}{l:List α}{i:Nat}{a:α}(h:l[i]? = some a):l.take (i+1)=l.take i++[a]:=by
 rw[xex,h];rfl
theorem sz {n:Nat}(h:n≤1000):n≤sizeLine:=xez (bq h)
end L2
namespace L2
open PySem PySem.Spec PyProof.Rows
open Builtin.SmallTypes (nextOf)
structure Drw (it a:Addr)(vs:List Value)(tn:Nat→Heap→Prop)(src:Heap→Prop):Prop where
 mv:∀i h h',tn i h→(∀o,h.get? it=some o→h'.get? it=some o)→tn i h'
 smv:∀h h',src h→(∀o,h.get? a=some o→h'.get? a=some o)→src h'
 ob:∀i h,tn i h→∃o,h.get? it=some o∧∀v,o.data≠.cell v
 item:∀(prog:Program) (w:World) (A:Around) (E:Value→Shared→Prop) (i:Nat) (x:Value) (s:Shared) (Q:Value→Shared→Prop),tn i s.heap→src s.heap→vs[i]? = some x →
  (∀h',tn (i+1) h'→Heap.SameBut it s.heap h'→Q x { s with heap:=h' })→wpAny (model prog w) A (nextOf (.ref it)) Q E s
 fin:∀(prog:Program) (w:World) (A:Around) (E:Value→Shared→Prop) (i:Nat) (s:Shared) (Q:Value→Shared→Prop),A.handled=none→tn i s.heap→src s.heap→vs[i]? = none →
  (∀h' e,Heap.ExtBut it s.heap h'→(∃o,h'.get? e=some o∧o.cls=.type "StopIteration")→E (.ref e) { s with heap:=h' })→wpAny (model prog w) A (nextOf (.ref it)) Q E s
theorem bM (it a:Addr)(vs:List Value):Drw it a vs (fun i h=>h.IsListIter it a i) (fun h=>h.IsList a vs.toArray) where
 mv:=fun i h h' t k=>t.at k
 smv:=fun h h' t k=>t.at k
 ob:=fun i h t=>let ⟨o,e,_,d⟩:=t;⟨o,e,fun v z=>by rw[d] at z;cases z⟩
 item:=fun prog w A E i x s Q t l e h=>wpAny_nextOf_list_item t l (by simpa using e) h
 fin:=fun prog w A E i s Q hh t l e h=>wpAny_nextOf_list_end hh t l (by simpa using e) h
section
variable {prog:Program} {w:World} {A:Around} {E:Value→Shared→Prop} {s:Shared}
theorem dB {it a:Addr}{i:Nat}{vs:List Value}{x:Value}{Q:Value→Shared→Prop}(T:s.heap.IsTupleIter it a i)(S:s.heap.IsTuple a vs.toArray)(e:vs[i]? = some x)
  (h:∀h',h'.IsTupleIter it a (i+1)→Heap.SameBut it s.heap h'→Q x { s with heap:=h' }):wpAny (model prog w) A (nextOf (.ref it)) Q E s:=by
 obtain⟨ob,hob,hcl,hdt⟩:=id T
 obtain⟨os,hos,_,nn,hsq⟩:=id S
 have e':vs.toArray[i]? = some x:=by simpa using e
 unfold nextOf
 refine wpAny_bind (wpAny_callSpecial?_slot (name:=Str.ofString "__next__") T.typeIs F.slot_tuple_iterator_next (wpAny_call_entry F.slot_tuple_iterator_next T.typeIs F.entry_tuple_iterator_next (wpAny_bind (m:=field (.ref it) 0) (wpAny_field hob hdt (x:=.ref a) rfl ?_)) (F.args_tuple_iterator_next_1 _)))
 refine wpAny_bind (m:=field (.ref it) 1) (wpAny_field hob hdt (x:=.int i 0) rfl (wpAny_bind (m:=seqItems? (.ref a)) (wpAny_seqItems hos hsq ?_)))
 simp only[xdt,e']
 refine wpAny_bind (wpAny_setField hob hdt (by simp) (wpAny_pure ⟨x,rfl,wpAny_pure (h _ ⟨_,Heap.get?_update_self _ hob (Obj.isFreed_of_fields (Obj.data_mapFields hdt _)),(Obj.cls_mapFields ..).trans hcl,?_⟩ (Heap.SameBut.update ..))⟩))
 rw[Obj.data_mapFields hdt]
 simp[rawInt]
theorem sD {it a:Addr}{i:Nat}{vs:List Value}{Q:Value→Shared→Prop}(hn:A.handled=none)(T:s.heap.IsTupleIter it a i)(S:s.heap.IsTuple a vs.toArray)(e:vs[i]? = none)
  (h:∀h' x,Heap.ExtBut it s.heap h'→(∃o,h'.get? x=some o∧o.cls=.type "StopIteration")→E (.ref x) { s with heap:=h' }):wpAny (model prog w) A (nextOf (.ref it)) Q E s:=by
 obtain⟨ob,hob,hcl,hdt⟩:=id T
 obtain⟨os,hos,_,nn,hsq⟩:=id S
 have e':vs.toArray[i]? = none:=by simpa using e
 unfold nextOf
 refine wpAny_bind (wpAny_callSpecial?_slot (name:=Str.ofString "__next__") T.typeIs F.slot_tuple_iterator_next (wpAny_call_entry F.slot_tuple_iterator_next T.typeIs F.entry_tuple_iterator_next (wpAny_bind (m:=field (.ref it) 0) (wpAny_field hob hdt (x:=.ref a) rfl ?_)) (F.args_tuple_iterator_next_1 _)))
 refine wpAny_bind (m:=field (.ref it) 1) (wpAny_field hob hdt (x:=.int i 0) rfl (wpAny_bind (m:=seqItems? (.ref a)) (wpAny_seqItems hos hsq ?_)))
 simp only[xdt,e']
 refine wpAny_bind (wpAny_rule (wpAny_bind (wpAny_setField hob hdt (by simp) (wpAny_bind ?_))))
 simp only[newExc,newTuple]
 refine wpAny_bind (wpAny_newObj_type (wpAny_bind (m:=firstArgMember _ _) (wpAny_of_eq (a:=Value.none) (by first | rfl | (simp only[firstArgMember];rfl)) (wpAny_newObj_type ?_ (by size_fits)))) (by size_fits))
 simp only[raiseNew]
 refine wpAny_bind (wpAny_handled ?_)
 first | rw[show A.in1.handled=none from hn] | rw[hn]
 exact wpAny_bind (wpAny_pure (wpAny_throw (h _ _ (((Heap.SameBut.update ..).extBut.push _).push _) ⟨_,Heap.get?_push_size _ rfl,rfl⟩)))
end
theorem oJ (it a:Addr)(vs:List Value):Drw it a vs (fun i h=>h.IsTupleIter it a i) (fun h=>h.IsTuple a vs.toArray) where
 mv:=fun i h h' t k=>t.at k
 smv:=fun h h' t k=>let ⟨o,e,r⟩:=t;⟨o,k o e,r⟩
 ob:=fun i h t=>let ⟨o,e,_,d⟩:=t;⟨o,e,fun v z=>by rw[d] at z;cases z⟩
 item:=fun prog w A E i x s Q t l e h=>dB t l e h
 fin:=fun prog w A E i s Q hh t l e h=>sD hh t l e h
structure ZA (z ti to i1 i2 a1 a2:Addr):Prop where
 a:ti≠z∧to≠z∧i1≠z∧i2≠z∧ti≠to∧ti≠i1∧ti≠i2∧to≠i1∧to≠i2∧i1≠i2
 b:a1≠z∧a1≠to∧a1≠i1∧a1≠i2∧a2≠z∧a2≠to∧a2≠i1∧a2≠i2
section
variable {prog:Program} {w:World} {A:Around} {E:Value→Shared→Prop} {s:Shared} {z ti to i1 i2 a1 a2:Addr} {vs us:List Value} {t1 t2:Nat→Heap→Prop} {s1 s2:Heap→Prop}
theorem tU {k:Nat}{x y p q:Value}{Q:Value→Shared→Prop}(D:ZA z ti to i1 i2 a1 a2)(W1:Drw i1 a1 vs t1 s1)(W2:Drw i2 a2 us t2 s2)(Z:IsZip s.heap z ti to .none)(TI:IsPair s.heap ti (.ref i1) (.ref i2))(TO:IsPair s.heap to p q)
  (b1:t1 k s.heap) (b2:t2 k s.heap) (c1:s1 s.heap) (c2:s2 s.heap) (ex:vs[k]? = some x) (ey:us[k]? = some y)
  (h:∀h',IsZip h' z ti to (rawInt s.heap.objs.size)→IsPair h' to x y→t1 (k+1) h'→t2 (k+1) h'→IsPair h' s.heap.objs.size x y →
   (∀c o,c≠z→c≠to→c≠i1→c≠i2→s.heap.get? c=some o→h'.get? c=some o)→Q (.ref s.heap.objs.size) { s with heap:=h' }) :
  wpAny (model prog w) A (Builtin.«zip.__next__» ⟨[.ref z],[]⟩) (fun fin s'=>∃v,fin=.done (.ret v)∧Q v s') E s:=by
 obtain⟨⟨d1,d2,d3,d4,d5,d6,d7,d8,d9,d10⟩,e1,e2,e3,e4,e5,e6,e7,e8⟩:=D
 refine wpAny_bind (m:=field (.ref z) 2) (wpAny_field Z rfl (x:=.bool false) rfl (wpAny_bind (m:=field (.ref z) 3) (wpAny_field Z rfl (x:=.ref ti) rfl (wpAny_bind (wpAny_seqItems TI rfl ?_)))))
 refine wpAny_bind (m:=Builtin.SmallTypes.ownedTupleIsFree (.ref z)) ?_
 unfold Builtin.SmallTypes.ownedTupleIsFree
 refine wpAny_bind (wpAny_field Z rfl (x:=.none) rfl (wpAny_pure ?_))
 simp only[if_true]
 refine wpAny_bind (wpAny_rule (wpAny_bind (wpAny_field Z rfl (x:=.ref to) rfl (wpAny_bind (wpAny_setField_rec Z (by simp) fun g1 Z1 S1=>wpAny_bind ?_)))))
 replace Z1:IsZip g1 z ti to .ellipsis:=Z1
 simp only[List.zipIdx_cons,List.zipIdx_nil,List.forIn_cons,List.forIn_nil]
 refine wpAny_bind (wpAny_bind (wpAny_onRaise (wpAny_bind (m:=nextOf (.ref i1)) ?_)))
 refine W1.item _ _ _ _ k x _ _ (W1.mv _ _ _ b1 fun o=>S1.extBut _ o d3) (W1.smv _ _ c1 fun o=>S1.extBut _ o e1) ex fun g2 b12 S2=>wpAny_pure ?_
 have TO2:IsPair g2 to p q:=S2.extBut _ _ d8 (S1.extBut _ _ d2 TO)
 refine wpAny_bind (wpAny_seqItems TO2 rfl (wpAny_bind (wpAny_updateSeq_pair TO2 fun g3 TO3 S3=>wpAny_bind (wpAny_letGo (wpAny_pure ?_)))))
 replace TO3:IsPair g3 to x q:=TO3
 refine wpAny_bind (wpAny_bind (wpAny_onRaise (wpAny_bind (m:=nextOf (.ref i2)) ?_)))
 have k3:∀c o,c≠z→c≠to→c≠i1→s.heap.get? c=some o→g3.get? c=some o:=fun c o n1 n2 n3 g=>S3.extBut _ _ n2 (S2.extBut _ _ n3 (S1.extBut _ _ n1 g))
 refine W2.item _ _ _ _ k y _ _ (W2.mv _ _ _ b2 fun o=>k3 _ o d4 (Ne.symm d9) (Ne.symm d10)) (W2.smv _ _ c2 fun o=>k3 _ o e5 e6 e7) ey fun g4 b24 S4=>wpAny_pure ?_
 have TO4:IsPair g4 to x q:=S4.extBut _ _ d9 TO3
 refine wpAny_bind (wpAny_seqItems TO4 rfl (wpAny_bind (wpAny_updateSeq_pair TO4 fun g5 TO5 S5=>wpAny_bind (wpAny_letGo (wpAny_pure (wpAny_pure ?_))))))
 replace TO5:IsPair g5 to x y:=TO5
 refine wpAny_bind (wpAny_seqItems TO5 rfl (wpAny_bind (wpAny_newTuple (wpAny_bind (m:=Builtin.SmallTypes.ownedTupleHandOut (.ref z) (.ref g5.objs.size)) ?_))))
 have sz5:g5.objs.size=s.heap.objs.size:=by rw[S5.1,S4.1,S3.1,S2.1,S1.1]
 have k5:∀c o,c≠to→c≠i2→g3.get? c=some o→g5.get? c=some o:=fun c o n1 n2 g=>S5.extBut _ _ n1 (S4.extBut _ _ n2 g)
 have Z5:IsZip g5 z ti to .ellipsis:=k5 _ _ (Ne.symm d2) (Ne.symm d4) (S3.extBut _ _ (Ne.symm d2) (S2.extBut _ _ (Ne.symm d3) Z1))
 have b15:t1 (k+1) g5:=W1.mv _ _ _ b12 fun o g=>k5 _ o (Ne.symm d8) d10 (S3.extBut _ o (Ne.symm d8) g)
 have b25:t2 (k+1) g5:=W2.mv _ _ _ b24 fun o g=>S5.extBut _ o (Ne.symm d9) g
 have zlt:z<g5.objs.size:=Heap.lt_size Z5
 unfold Builtin.SmallTypes.ownedTupleHandOut
 refine wpAny_bind (wpAny_setField_rec (show IsZip (g5.push { cls:=.type "tuple", data:=.seq #[x,y] }) z ti to .ellipsis from Heap.get?_push_of_some _ Z5) (by simp) fun g7 Z7 S7=>wpAny_setField_rec (show IsZip g7 z ti to (rawInt g5.objs.size) from Z7) (by simp) fun g8 Z8 S8=>?_)
 replace Z8:IsZip g8 z ti to (rawInt g5.objs.size):=Z8
 have up8:∀c o,c≠z→g5.get? c=some o→g8.get? c=some o:=fun c o n g=>S8.extBut _ _ n (S7.extBut _ _ n (Heap.get?_push_of_some _ g))
 have T8:IsPair g8 g5.objs.size x y:=S8.extBut _ _ (xeI zlt) (S7.extBut _ _ (xeI zlt) (Heap.get?_push_size _ rfl))
 refine wpAny_pure ⟨_,rfl,?_⟩
 show Q (.ref g5.objs.size) _
 rw[sz5] at Z8 T8 ⊢
 exact h g8 Z8 (up8 _ _ d2 TO5) (W1.mv _ _ _ b15 fun o g=>up8 _ o d3 g) (W2.mv _ _ _ b25 fun o g=>up8 _ o d4 g) T8 fun c o n1 n2 n3 n4 g=>up8 c o n1 (k5 c o n2 n4 (k3 c o n1 n2 n3 g))
theorem cW {k:Nat}{p q:Value}{Q:Fin→Shared→Prop}(hn:A.handled=none)(D:ZA z ti to i1 i2 a1 a2)(W1:Drw i1 a1 vs t1 s1)(W2:Drw i2 a2 us t2 s2)(Z:IsZip s.heap z ti to .none)(TI:IsPair s.heap ti (.ref i1) (.ref i2))(TO:IsPair s.heap to p q)
  (b1:t1 k s.heap) (b2:t2 k s.heap) (c1:s1 s.heap) (c2:s2 s.heap) (end':vs[k]? = none∨us[k]? = none)
  (h:∀h' e,(∀c o,c≠z→c≠to→c≠i1→c≠i2→s.heap.get? c=some o→h'.get? c=some o)→(∃o,h'.get? e=some o∧o.cls=.type "StopIteration")→E (.ref e) { s with heap:=h' }) :
  wpAny (model prog w) A (Builtin.«zip.__next__» ⟨[.ref z],[]⟩) Q E s:=by
 obtain⟨⟨d1,d2,d3,d4,d5,d6,d7,d8,d9,d10⟩,e1,e2,e3,e4,e5,e6,e7,e8⟩:=D
 refine wpAny_bind (m:=field (.ref z) 2) (wpAny_field Z rfl (x:=.bool false) rfl (wpAny_bind (m:=field (.ref z) 3) (wpAny_field Z rfl (x:=.ref ti) rfl (wpAny_bind (wpAny_seqItems TI rfl ?_)))))
 refine wpAny_bind (m:=Builtin.SmallTypes.ownedTupleIsFree (.ref z)) ?_
 unfold Builtin.SmallTypes.ownedTupleIsFree
 refine wpAny_bind (wpAny_field Z rfl (x:=.none) rfl (wpAny_pure ?_))
 simp only[if_true]
 refine wpAny_bind (wpAny_rule (wpAny_bind (wpAny_field Z rfl (x:=.ref to) rfl (wpAny_bind (wpAny_setField_rec Z (by simp) fun g1 Z1 S1=>wpAny_bind ?_)))))
 replace Z1:IsZip g1 z ti to .ellipsis:=Z1
 simp only[List.zipIdx_cons,List.zipIdx_nil,List.forIn_cons,List.forIn_nil]
 refine wpAny_bind (wpAny_bind (wpAny_onRaise (wpAny_bind (m:=nextOf (.ref i1)) ?_)))
 have b1':=W1.mv _ _ _ b1 fun o=>S1.extBut _ o d3
 have c1':=W1.smv _ _ c1 fun o=>S1.extBut _ o e1
 cases ex:vs[k]? with
 | none =>
  refine W1.fin _ _ _ _ k _ _ hn b1' c1' ex fun g2 e S2 he=>?_
  obtain⟨oe,hoe,hce⟩:=he
  have Z2:IsZip g2 z ti to .ellipsis:=S2 _ _ (Ne.symm d3) Z1
  have ne:e≠z:=fun y=>by subst y;rw[Z2] at hoe;cases hoe;simp at hce
  exact wpAny_setField_rec Z2 (by simp) fun g3 _ S3=>h g3 e (fun c o n1 _ n3 _ g=>S3.extBut _ _ n1 (S2 _ _ n3 (S1.extBut _ _ n1 g))) ⟨oe,S3.extBut _ _ ne hoe,hce⟩
 | some x =>
  have ey:us[k]? = none:=end'.resolve_left (by rw[ex];exact fun z=>nomatch z)
  refine W1.item _ _ _ _ k x _ _ b1' c1' ex fun g2 b12 S2=>wpAny_pure ?_
  have TO2:IsPair g2 to p q:=S2.extBut _ _ d8 (S1.extBut _ _ d2 TO)
  refine wpAny_bind (wpAny_seqItems TO2 rfl (wpAny_bind (wpAny_updateSeq_pair TO2 fun g3 TO3 S3=>wpAny_bind (wpAny_letGo (wpAny_pure ?_)))))
  refine wpAny_bind (wpAny_bind (wpAny_onRaise (wpAny_bind (m:=nextOf (.ref i2)) ?_)))
  have k3:∀c o,c≠z→c≠to→c≠i1→s.heap.get? c=some o→g3.get? c=some o:=fun c o n1 n2 n3 g=>S3.extBut _ _ n2 (S2.extBut _ _ n3 (S1.extBut _ _ n1 g))
  refine W2.fin _ _ _ _ k _ _ hn (W2.mv _ _ _ b2 fun o=>k3 _ o d4 (Ne.symm d9) (Ne.symm d10)) (W2.smv _ _ c2 fun o=>k3 _ o e5 e6 e7) ey fun g4 e S4 he=>?_
  obtain⟨oe,hoe,hce⟩:=he
  have Z4:IsZip g4 z ti to .ellipsis:=S4 _ _ (Ne.symm d4) (S3.extBut _ _ (Ne.symm d2) (S2.extBut _ _ (Ne.symm d3) Z1))
  have ne:e≠z:=fun y=>by subst y;rw[Z4] at hoe;cases hoe;simp at hce
  exact wpAny_setField_rec Z4 (by simp) fun g5 _ S5=>h g5 e (fun c o n1 n2 n3 n4 g=>S5.extBut _ _ n1 (S4 _ _ n4 (k3 c o n1 n2 n3 g))) ⟨oe,S5.extBut _ _ ne hoe,hce⟩
end
end L2
namespace L2
open PySem PySem.Spec PyProof.Rows
section
variable {prog:Program} {w:World} {A:Around} {E:Value→Shared→Prop} {s:Shared}
end
theorem xat {n a1 a2:Addr}(h1:a1<n)(h2:a2<n):ZA (n+4) (n+2) (n+3) n (n+1) a1 a2:=by
 have up:∀(x k:Nat),x<n→x≠n+k:=fun x k h=>xeJ (xeF h (xey n k))
 have ad:∀j k:Nat,j≠k→n+j≠n+k:=fun j k h e=>h (Nat.add_left_cancel e)
 have a0:∀k:Nat,0≠k→n≠n+k:=fun k h e=>h (Nat.add_left_cancel (n:=n) (by simpa using e))
 exact⟨⟨ad _ _ (by decide),ad _ _ (by decide),a0 _ (by decide),ad _ _ (by decide),ad _ _ (by decide),fun e=>a0 2 (by decide) e.symm,ad _ _ (by decide),fun e=>a0 3 (by decide) e.symm,ad _ _ (by decide),a0 _ (by decide)⟩,
  up _ _ h1,up _ _ h1,xeJ h1,up _ _ h1,up _ _ h2,up _ _ h2,xeJ h2,up _ _ h2⟩
def Sq2 (K:PySem.W.Frag)(b:Bool)(H:Hp)(a:Addr)(xs:List V):Prop:=if b=true then SqT K H a xs else SqL K H a xs
def tM (b:Bool)(a:Addr)(vs:List Value)(h:Heap):Prop:=if b=true then h.IsTuple a vs.toArray else h.IsList a vs.toArray
def Tn2 (b:Bool)(it a:Addr)(i:Nat)(h:Heap):Prop:=if b=true then h.IsTupleIter it a i else h.IsListIter it a i
theorem gf (b:Bool)(it a:Addr)(vs:List Value):Drw it a vs (Tn2 b it a) (tM b a vs):=by
 cases b with
 | true=>exact oJ it a vs
 | false=>exact bM it a vs
theorem Inv.sq2 {X:Cx}{pins:List (Addr×Obj)}{σ:St}{H:Hp}{s:Shared}{b:Bool}{a:Addr}{xs:List V}(I:Inv X pins σ H s)(h:Sq2 X.K b H a xs):∃vs:List Value,yy xs vs∧tM b a vs s.heap:=by
 cases b with
 | true=>obtain⟨vs,r,p,_⟩:=I.tuple (show SqT X.K H a xs from h);exact⟨vs,r,p⟩
 | false=>obtain⟨vs,r,p,_⟩:=I.list (show SqL X.K H a xs from h);exact⟨vs,r,p.isList⟩
section
variable {P:Program} {w:World} {K:PySem.W.Frag} {z ti to i1 i2 a1 a2:Addr} {b:Bool} {xs ys:List V}
end
section
variable {X:Cx}
end
end L2
namespace L2
open PySem PySem.Spec PyProof.Rows
end L2
namespace L2
open PySem PySem.Spec PyProof.Rows
inductive Tr where
 | non | bl (b:Bool) | int (i:Int) | str (x:Str) | emp | tup (xs:List Tr) | lst (xs:List Tr)
mutual
def Rep (F:Addr→Prop)(H:Hp):Tr→V→Prop
 | .non,v=>v=.non
 | .bl b,v=>v=.bl b
 | .int i,v=>v=.int i
 | .str x,v=>v=.str x
 | .emp,v=>∃a,v=.ref a∧¬F a∧H a=some (.dK [])
 | .tup ts,v=>∃a ws,v=.ref a∧¬F a∧H a=some (.tup ws)∧yQ F H ts ws
 | .lst ts,v=>∃a ws,v=.ref a∧¬F a∧H a=some (.lst ws)∧yQ F H ts ws
def yQ (F:Addr→Prop)(H:Hp):List Tr→List V→Prop
 | [],ws=>ws=[]
 | t::ts,ws=>∃w r,ws=w::r∧Rep F H t w∧yQ F H ts r
end
theorem yo {F:Addr→Prop}{H:Hp}:∀ {ts:List Tr} {ws:List V},yQ F H ts ws↔Paired (Rep F H) ts ws
 | [],ws=>by
  constructor
  ·intro h;cases (show ws=[] from h);exact .nil
  ·intro h;cases h;rfl
 | t::ts,ws=>by
  constructor
  ·rintro⟨w,r,rfl,h1,h2⟩;exact .cons h1 (yo.mp h2)
  ·intro h
   cases h with
   | cons h1 h2=>exact⟨_,_,rfl,h1,yo.mpr h2⟩
theorem yQ.len {F:Addr→Prop}{H:Hp}{ts:List Tr}{ws:List V}(h:yQ F H ts ws):ts.length=ws.length:=rN (yo.mp h)
theorem yQ.app {F:Addr→Prop}{H:Hp}{ts ts':List Tr}{ws ws':List V}(h:yQ F H ts ws)(h':yQ F H ts' ws'):yQ F H (ts++ts') (ws++ws'):=yo.mpr (j2 (yo.mp h) (yo.mp h'))
theorem yQ.get {F:Addr→Prop}{H:Hp}{ts:List Tr}{ws:List V}{i:Nat}{w:V}(h:yQ F H ts ws)(e:ws[i]? = some w):∃t,ts[i]? = some t∧Rep F H t w:=jV (yo.mp h) e
theorem yQ.getT {F:Addr→Prop}{H:Hp}:∀ {ts:List Tr} {ws:List V} {i:Nat} {t:Tr},yQ F H ts ws→ts[i]? = some t→∃w,ws[i]? = some w∧Rep F H t w:=fun {ts ws i t} h e=>by
 have hl:=h.len
 have hi:i<ws.length:=by have:=(xdQ.mp e).1;omega
 obtain⟨t',e',r⟩:=h.get (xdO hi)
 rw[e] at e';cases e'
 exact⟨_,xdO hi,r⟩
mutual
theorem xZ {F F':Addr→Prop}{H H':Hp}(m:∀a o,H a=some o→¬F a→H' a=some o∧¬F' a):∀(t:Tr) (v:V),Rep F H t v→Rep F' H' t v
 | .non,v,h=>h
 | .bl b,v,h=>h
 | .int i,v,h=>h
 | .str x,v,h=>h
 | .emp,v,h=>by
  obtain⟨a,e,n,k⟩:=h
  exact⟨a,e,(m a _ k n).2,(m a _ k n).1⟩
 | .tup ts,v,h=>by
  obtain⟨a,ws,e,n,k,r⟩:=h
  exact⟨a,ws,e,(m a _ k n).2,(m a _ k n).1,xO m ts ws r⟩
 | .lst ts,v,h=>by
  obtain⟨a,ws,e,n,k,r⟩:=h
  exact⟨a,ws,e,(m a _ k n).2,(m a _ k n).1,xO m ts ws r⟩
theorem xO {F F':Addr→Prop}{H H':Hp}(m:∀a o,H a=some o→¬F a→H' a=some o∧¬F' a):∀(ts:List Tr) (ws:List V),yQ F H ts ws→yQ F' H' ts ws
 | [],ws,h=>h
 | t::ts,ws,h=>by
  obtain⟨w,r,e,h1,h2⟩:=h
  exact⟨w,r,e,xZ m t w h1,xO m ts r h2⟩
end
def rL:Tr→Option V
 | .non=>some .non | .bl b=>some (.bl b) | .int i=>some (.int i) | .str x=>some (.str x) | _=>none
theorem uh {F:Addr→Prop}{H:Hp}{t:Tr}{v:V}(h:rL t=some v):Rep F H t v:=by
 cases t with
 | non=>cases h;rfl
 | bl b=>cases h;rfl
 | int i=>cases h;rfl
 | str x=>cases h;rfl
 | _=>cases h
inductive TV where
 | un | fz (t:Tr) | ow (ts:List Tr) | st | sc (ns:List Int) | ob (a:Addr)
abbrev TSt:=List TV
def nth:TSt→Nat→TV
 | [],_=>.un
 | x::_,0=>x
 | _::r,n+1=>nth r n
theorem qp:∀ {τ:TSt} {i:Nat} (h:i<τ.length),nth τ i=τ[i]
 | [],_,h=>absurd h (by simp)
 | _::_,0,_=>rfl
 | _::r,i+1,h=>qp (τ:=r) (by simpa using h)
theorem yE:∀ {τ:TSt} {i:Nat} (h:τ.length≤i),nth τ i=.un
 | [],_,_=>rfl
 | _::_,0,h=>absurd h (by simp)
 | _::r,i+1,h=>yE (τ:=r) (by simpa using h)
theorem yz:∀ {τ:TSt} {i:Nat} {x:TV} (h:i<τ.length),nth (τ.set i x) i=x
 | [],_,_,h=>absurd h (by simp)
 | _::_,0,_,_=>rfl
 | _::r,i+1,x,h=>yz (τ:=r) (by simpa using h)
theorem yf:∀ {τ:TSt} {i j:Nat} {x:TV} (h:j≠i),nth (τ.set i x) j=nth τ j
 | [],_,_,_,_=>rfl
 | _::_,0,0,_,h=>absurd rfl h
 | _::_,0,_+1,_,_=>rfl
 | _::_,_+1,0,_,_=>rfl
 | _::r,i+1,j+1,x,h=>yf (τ:=r) (fun e=>h (by rw[e]))
structure FB where
 F0:Addr→Prop
 S0:Addr→Prop
 H0:Hp
 G0:List (Tr×V)
abbrev Phi:=Nat→Option Addr
def Av (B:FB)(φ:Phi)(a:Addr):Prop:=B.F0 a∨∃i,φ i=some a
def SA (B:FB)(φ:Phi)(τ:TSt)(a:Addr):Prop:=B.S0 a∨∃i,φ i=some a∧nth τ i=.st
def Wk (B:FB)(φ:Phi)(τ:TSt)(a:Addr):Prop:=B.F0 a∨SA B φ τ a
def AvB:Bool→FB→Phi→TSt→Addr→Prop
 | true,B,φ,_=>Av B φ
 | false,B,φ,τ=>Wk B φ τ
def xbX (K:PySem.W.Frag):Option (Addr×Str):=match K.lookup 4 with
 | none=>none
 | some _=>match PySem.W.nsIn K mainGlobals "law" with
  | some (some (.ref f))=>(match K.lookup f with
   | some ⟨_,_,.func fd,_⟩=>(match fd.code with
    | .ref c=>(match K.lookup c with
     | some ⟨_,_,.fields vs,_⟩=>(match vs.toList.getD 11 Value.none with
      | Value.ref P=>some (P, "law.<locals>.<lambda>")
      | _=>none)
     | _=>none)
    | _=>none)
   | _=>none)
  | _=>none
def oa (K:PySem.W.Frag)(H:Hp):Prop:=∀P q,xbX K=some (P,q)→H P=some (.tb q)
theorem oa.none {K:PySem.W.Frag}{H:Hp}(h:xbX K=Option.none):oa K H:=fun P q e=>by rw[h] at e;cases e
def cR (K:PySem.W.Frag)(H:Hp)(a:Addr)(ns:List Int):Prop:=((∃o,H a=some (.frz o (.lst (ns.map V.int))))∨∀H',SqL K H' a (ns.map V.int))∧oa K H
def Ent (K:PySem.W.Frag)(B:FB)(φ:Phi)(H:Hp)(i:Nat)(o:Option (Option V)):TV→Prop
 | .un=>True
 | .fz t=>∃v,o=some (some v)∧Rep (Av B φ) H t v
 | .ow ts=>∃a ws,o=some (some (.ref a))∧φ i=some a∧B.H0 a=none∧H a=some (.lst ws)∧yQ (Av B φ) H ts ws
 | .st=>∃p,o=some (some (.ref p))∧φ i=some p∧(B.S0 p∨B.H0 p=none)
 | .sc ns=>∃a,o=some (some (.ref a))∧ns.length≤63∧cR K H a ns
 | .ob a=>o=some (some (.ref a))
structure RS (K:PySem.W.Frag)(B:FB)(φ:Phi)(σ:St)(τ:TSt)(H:Hp):Prop where
 f0:∀a,B.F0 a→B.H0 a≠none
 s0:∀a,B.S0 a→B.F0 a
 ext:∀a o,B.H0 a=some o→¬B.S0 a→H a=some o
 sst:∀a,SA B φ τ a→tL a H
 inj:∀i j a ts,nth τ i=.ow ts→φ i=some a→φ j=some a→i=j
 ow:∀i a,φ i=some a→H a≠none
 len:σ.length=τ.length
 ent:∀i,Ent K B φ H i (σ[i]?) (nth τ i)
 gh:∀p∈B.G0,Rep (Av B φ) H p.1 p.2
structure HX (B:FB)(φ:Phi)(τ:TSt)(H H':Hp):Prop where
 keep:∀a o,H a=some o→¬SA B φ τ a→H' a=some o
 st:∀a,SA B φ τ a→tL a H'
section
variable {K:PySem.W.Frag} {B:FB} {φ:Phi} {σ:St} {τ:TSt} {H H' H'':Hp}
theorem tL.ne_none {p:Addr}(h:tL p H):H p≠none:=by
 obtain⟨n,b,e,_⟩:=h
 rw[e];exact fun z=>nomatch z
theorem RS.sAv (R:RS K B φ σ τ H){a:Addr}(h:SA B φ τ a):Av B φ a:=by
 rcases h with h | ⟨i,h,_⟩
 ·exact .inl (R.s0 a h)
 ·exact .inr ⟨i,h⟩
theorem RS.wAv (R:RS K B φ σ τ H){a:Addr}(h:Wk B φ τ a):Av B φ a:=by
 rcases h with h | h
 ·exact .inl h
 ·exact R.sAv h
theorem RS.sB (R:RS K B φ σ τ H){b:Bool}{a:Addr}(h:SA B φ τ a):AvB b B φ τ a:=by
 cases b with
 | true=>exact R.sAv h
 | false=>exact .inr h
theorem RS.dom (R:RS K B φ σ τ H){a:Addr}(h:Av B φ a):H a≠none:=by
 rcases h with h | ⟨i,h⟩
 ·by_cases s:B.S0 a
  ·exact(R.sst a (.inl s)).ne_none
  ·cases e:B.H0 a with
   | none=>exact absurd e (R.f0 a h)
   | some o=>rw[R.ext a o e s];exact fun z=>nomatch z
 ·exact R.ow i a h
theorem RS.domB (R:RS K B φ σ τ H){b:Bool}{a:Addr}(h:AvB b B φ τ a):H a≠none:=by
 cases b with
 | true=>exact R.dom h
 | false=>exact R.dom (R.wAv h)
theorem HX.refl (R:RS K B φ σ τ H):HX B φ τ H H:=⟨fun _ _ h _=>h,R.sst⟩
theorem HX.trans (h:HX B φ τ H H')(h':HX B φ τ H' H''):HX B φ τ H H'':=⟨fun a o e n=>h'.keep a o (h.keep a o e n) n,h'.st⟩
theorem HX.none (h:HX B φ τ H H'){a:Addr}(e:H' a=none):H a=none:=by
 cases q:H a with
 | none=>rfl
 | some o =>
  by_cases s:SA B φ τ a
  ·exact absurd e (h.st a s).ne_none
  ·rw[h.keep a o q s] at e;cases e
theorem HX.new (R:RS K B φ σ τ H){p:Addr}(hp:H p=Option.none)(o:HO):HX B φ τ H (upd H p o) :=
 ⟨fun a u e _=>by rw[xC (xn e hp)];exact e,fun a s=>by
  obtain⟨n,b,e,z⟩:=R.sst a s
  exact⟨n,b,by rw[xC (xn e hp)];exact e,z⟩⟩
theorem HX.rep (h:HX B φ τ H H'){F:Addr→Prop}(hF:∀a,SA B φ τ a→F a){t:Tr}{v:V}(r:Rep F H t v):Rep F H' t v:=xZ (fun a o e n=>⟨h.keep a o e (fun s=>n (hF a s)),n⟩) t v r
theorem HX.repL (h:HX B φ τ H H'){F:Addr→Prop}(hF:∀a,SA B φ τ a→F a){t:List Tr}{v:List V}(r:yQ F H t v):yQ F H' t v:=xO (fun a o e n=>⟨h.keep a o e (fun s=>n (hF a s)),n⟩) t v r
theorem gS (R:RS K B φ σ τ H){a:Addr}{o:Obj}{u:HO}(e:H a=some (.frz o u)):¬SA B φ τ a:=fun s=>by
 obtain⟨n,b,q,_⟩:=R.sst a s
 rw[e] at q;cases q
theorem oY (R:RS K B φ σ τ H){a:Addr}{q:Str}(e:H a=some (.tb q)):¬SA B φ τ a:=fun s=>by
 obtain⟨n,b,y,_⟩:=R.sst a s
 rw[e] at y;cases y
theorem oa.hx (t:oa K H)(R:RS K B φ σ τ H)(h:HX B φ τ H H'):oa K H':=fun P q e=>h.keep P _ (t P q e) (oY R (t P q e))
theorem RS.hx (R:RS K B φ σ τ H)(h:HX B φ τ H H'):RS K B φ σ τ H' where
 f0:=R.f0
 s0:=R.s0
 ext:=fun a o e n=>by
  by_cases s:SA B φ τ a
  ·have q:=R.ext a o e n
   rcases s with s | ⟨i,s,hi⟩
   ·exact absurd s n
   ·have en:=R.ent i
    rw[hi] at en
    obtain⟨p,_,e2,e3⟩:=en
    rw[s] at e2;cases e2
    rcases e3 with z | z
    ·exact absurd z n
    ·rw[z] at e;cases e
  ·exact h.keep a o (R.ext a o e n) s
 sst:=h.st
 inj:=R.inj
 ow:=fun i a e z=>R.ow i a e (h.none z)
 len:=R.len
 ent:=fun i=>by
  have en:=R.ent i
  revert en
  cases hi:nth τ i with
  | un=>exact fun _=>trivial
  | fz t=>exact fun⟨v,e,r⟩=>⟨v,e,h.rep (fun a s=>R.sAv s) r⟩
  | ow ts =>
   intro ⟨a,ws,e1,e2,e3,e4,r⟩
   refine⟨a,ws,e1,e2,e3,?_,h.repL (fun a s=>R.sAv s) r⟩
   by_cases s:SA B φ τ a
   ·rcases s with s | ⟨j,s,hj⟩
    ·exact absurd e3 (R.f0 a (R.s0 a s))
    ·have:=R.inj i j a ts hi e2 s
     subst this
     rw[hi] at hj;cases hj
   ·exact h.keep a _ e4 s
  | st=>exact fun z=>z
  | ob a=>exact fun z=>z
  | sc ns =>
   intro ⟨a,e,l,q,tb⟩
   refine⟨a,e,l,?_,tb.hx R h⟩
   rcases q with ⟨o,q⟩ | q
   ·exact .inl ⟨o,h.keep a _ q (gS R q)⟩
   ·exact .inr q
 gh:=fun p hp=>h.rep (fun a s=>R.sAv s) (R.gh p hp)
end
end L2
namespace L2
open PySem PySem.Spec PyProof.Rows
abbrev DE:=TSt→(Tr→Prop)→Prop
abbrev DT:=TSt→(Bool→Prop)→Prop
abbrev DA:=TSt→(List Tr→Prop)→Prop
structure jn where
 nx:TSt→Prop
 rt:Tr→Prop
 bk:TSt→Prop:=fun _=>False
 ct:TSt→Prop:=fun _=>False
abbrev DS:=jn→TSt→Prop
abbrev DG:=Tr→TSt→(TSt→Prop)→Prop
abbrev DGs:=List Tr→TSt→(TSt→Prop)→Prop
def OkE (K:PySem.W.Frag)(b:Bool)(te:TE)(d:DE):Prop:=∀(B:FB) (φ:Phi) (σ:St) (τ:TSt) (H:Hp) (Q:VK) (KK:Tr→Prop),RS K B φ σ τ H→d τ KK →
 (∀t v H',HX B φ τ H H'→KK t→Rep (AvB b B φ τ) H' t v→Q v H')→te σ H Q
def OkF (K:PySem.W.Frag)(te:TE)(d:DE):Prop:=∀(B:FB) (φ:Phi) (σ:St) (τ:TSt) (H:Hp) (Q:VK) (KK:Tr→Prop),RS K B φ σ τ H→d τ KK →
 (∀ts a ws H',HX B φ τ H H'→KK (.lst ts)→H a=none→H' a=some (.lst ws)→yQ (fun c=>Av B φ c∨c=a) H' ts ws→Q (.ref a) H')→te σ H Q
def OkT (K:PySem.W.Frag)(t:TT)(d:DT):Prop:=∀(B:FB) (φ:Phi) (σ:St) (τ:TSt) (H:Hp) (Q:Bool→Hp→Prop) (KK:Bool→Prop),RS K B φ σ τ H→d τ KK →
 (∀b H',HX B φ τ H H'→KK b→Q b H')→t σ H Q
def OkA (K:PySem.W.Frag)(b:Bool)(n:Nat)(ta:TA)(d:DA):Prop:=∀(B:FB) (φ:Phi) (σ:St) (τ:TSt) (H:Hp) (Q:List V→Hp→Prop) (KK:List Tr→Prop),RS K B φ σ τ H→d τ KK →
 (∀ts vs H',HX B φ τ H H'→KK ts→ts.length=n→yQ (AvB b B φ τ) H' ts vs→Q vs H')→ta σ H Q
def HXA (B:FB)(φ:Phi)(H H':Hp):Prop:=∀a o,H a=some o→¬Av B φ a→H' a=some o
def OkG (K:PySem.W.Frag)(g:TG)(d:DG):Prop:=∀(B:FB) (φ:Phi) (σ:St) (τ:TSt) (H:Hp) (t:Tr) (v:V) (Q:St→Hp→Prop) (KK:TSt→Prop),RS K B φ σ τ H→Rep (Av B φ) H t v→d t τ KK →
 (∀ φ' σ' τ' H',RS K B φ' σ' τ' H'→(∀a,Av B φ' a→Av B φ a)→HXA B φ H H'→KK τ'→Q σ' H')→g v σ H Q
def FrL (F:Addr→Prop)(H H':Hp)(t:Tr)(v:V):Prop:=∃a ts ws,v=.ref a∧t=.lst ts∧H a=none∧H' a=some (.lst ws)∧yQ (fun c=>F c∨c=a) H' ts ws
structure xcc (B:FB)(H:Hp):Prop where
 ext:∀a o,B.H0 a=some o→¬B.S0 a→H a=some o
 st:∀a,B.S0 a→tL a H
structure EOk (K:PySem.W.Frag)(B:FB)(fr:Bool)(E:Ends)(G:jn):Prop where
 nx:∀ φ σ τ H,RS K B φ σ τ H→G.nx τ→E.nx σ H
 bk:∀ φ σ τ H,RS K B φ σ τ H→G.bk τ→E.bk σ H
 ct:∀ φ σ τ H,RS K B φ σ τ H→G.ct τ→E.ct σ H
 rt:∀t v H,Rep B.F0 H t v→xcc B H→G.rt t→(fr=true→FrL B.F0 B.H0 H t v)→E.rt v H
def OkS (K:PySem.W.Frag)(fr:Bool)(T:TS)(D:DS):Prop:=∀(B:FB) (φ:Phi) (σ:St) (τ:TSt) (H:Hp) (E:Ends) (G:jn),RS K B φ σ τ H→D G τ→EOk K B fr E G→T E σ H
section
variable {K:PySem.W.Frag} {B:FB} {φ:Phi} {σ:St} {τ:TSt} {H H' H'':Hp}
theorem RS.extB (R:RS K B φ σ τ H):xcc B H:=⟨R.ext,fun a s=>R.sst a (.inl s)⟩
theorem xb7 {b:Bool}{t:Tr}{v:V}(R:RS K B φ σ τ H)(h:Rep (AvB b B φ τ) H' t v):Rep (Wk B φ τ) H' t v:=by
 cases b with
 | true=>exact xZ (fun a o e n=>⟨e,fun w=>n (R.wAv w)⟩) t v h
 | false=>exact h
theorem xbT {b:Bool}{t:List Tr}{v:List V}(R:RS K B φ σ τ H)(h:yQ (AvB b B φ τ) H' t v):yQ (Wk B φ τ) H' t v:=by
 cases b with
 | true=>exact xO (fun a o e n=>⟨e,fun w=>n (R.wAv w)⟩) t v h
 | false=>exact h
theorem OkE.weak {b:Bool}{te:TE}{d:DE}(h:OkE K b te d):OkE K false te d:=fun B φ σ τ H Q KK R hd q=>h B φ σ τ H Q KK R hd fun t v H' x k r=>q t v H' x k (xb7 R r)
theorem OkF.e {te:TE}{d:DE}(h:OkF K te d):OkE K true te d:=fun B φ σ τ H Q KK R hd q=>h B φ σ τ H Q KK R hd fun ts a ws H' x k e e' r=>q _ _ H' x k ⟨a,ws,rfl,fun z=>R.dom z e,e',xO (fun c o e n=>⟨e,fun z=>n (.inl z)⟩) _ _ r⟩
def lM (i:Nat):DE:=fun τ KK=>match nth τ i with | .fz t=>KK t | _=>False
def xaM (i:Nat):DE:=fun τ KK=>match nth τ i with | .fz t=>KK t | .ow ts=>KK (.lst ts) | _=>False
def dC (t:Tr):DE:=fun _ KK=>KK t
theorem xa {i:Nat}:OkE K true (fb i) (lM i):=fun B φ σ τ H Q KK R hd q=>by
 have en:=R.ent i
 unfold lM at hd
 revert en hd
 cases nth τ i with
 | fz t=>exact fun k ⟨v,e,r⟩=>⟨v,e,q t v H (HX.refl R) k r⟩
 | _=>exact fun z _=>z.elim
theorem aZ (R:RS K B φ σ τ H){i:Nat}{a:Addr}{ts:List Tr}(hi:nth τ i=.ow ts)(e2:φ i=some a)(e3:B.H0 a=none):¬Wk B φ τ a:=fun z=>by
 rcases z with z | z | ⟨j,z,hj⟩
 ·exact R.f0 a z e3
 ·exact R.f0 a (R.s0 a z) e3
 ·have:=R.inj i j a ts hi e2 z
  subst this
  rw[hi] at hj;cases hj
theorem vU {i:Nat}:OkE K false (fb i) (xaM i):=fun B φ σ τ H Q KK R hd q=>by
 have en:=R.ent i
 unfold xaM at hd
 revert en hd
 cases hi:nth τ i with
 | fz t=>exact fun k ⟨v,e,r⟩=>⟨v,e,q t v H (HX.refl R) k (xb7 (b:=true) R r)⟩
 | ow ts =>
  intro k ⟨a,ws,e1,e2,e3,e4,r⟩
  exact⟨_,e1,q _ _ H (HX.refl R) k ⟨a,ws,rfl,aZ R hi e2 e3,e4,xbT (b:=true) R r⟩⟩
 | _=>exact fun z _=>z.elim
theorem xa8 {t:Tr}{v:V}(h:rL t=some v:=by rfl):OkE K true (tC v) (dC t):=fun B φ σ τ H Q KK R hd q=>q t v H (HX.refl R) hd (uh h)
def d2 (f:Tr→Tr→(Tr→Prop)→Prop)(da db:DE):DE:=fun τ KK=>da τ fun x=>db τ fun y=>f x y KK
def OpS (r:R2)(f:Tr→Tr→(Tr→Prop)→Prop):Prop:=∀(F G:Addr→Prop) (H:Hp) (x y:V) (t u:Tr) (KK:Tr→Prop) (Q:VK),Rep F H t x→Rep G H u y→f t u KK→(∀w v,rL w=some v→KK w→Q v H)→r x y H Q
theorem xh {b c:Bool}{r:R2}{f:Tr→Tr→(Tr→Prop)→Prop}{ta tb:TE}{da db:DE}(hr:OpS r f)(ha:OkE K b ta da)(hb:OkE K c tb db):OkE K true (tOp r ta tb) (d2 f da db):=fun B φ σ τ H Q KK R hd q =>
 ha B φ σ τ H _ _ R hd fun t v H1 x1 k1 r1=>hb B φ σ τ H1 _ _ (R.hx x1) k1 fun u w H2 x2 k2 r2 =>
  hr _ _ H2 v w t u KK Q (x2.rep (fun a s=>R.sB s) r1) r2 k2 fun z v' e k=>q z v' H2 (x1.trans x2) k (uh e)
def fI (C:Int→Int→Prop)(g:Int→Int→Tr)(x y:Tr)(KK:Tr→Prop):Prop:=match x,y with | .int i,.int j=>C i j∧KK (g i j) | _,_=>False
def fI0 (g:Int→Int→Tr)(x y:Tr)(KK:Tr→Prop):Prop:=match x,y with | .int i,.int j=>KK (g i j) | _,_=>False
theorem oq {C:Int→Int→Prop}{g:Int→Int→V}{g':Int→Int→Tr}(h:∀i j,rL (g' i j)=some (g i j)):OpS (rI C g) (fI C g'):=by
 intro F G H x y t u KK Q r1 r2 hf q
 unfold fI at hf
 split at hf
 ·rename_i i j
  cases (show x=.int i from r1);cases (show y=.int j from r2)
  exact⟨i,j,rfl,rfl,hf.1,q _ _ (h i j) hf.2⟩
 ·exact hf.elim
theorem rj {g:Int→Int→V}{g':Int→Int→Tr}(h:∀i j,rL (g' i j)=some (g i j)):OpS (rI0 g) (fI0 g'):=by
 intro F G H x y t u KK Q r1 r2 hf q
 unfold fI0 at hf
 split at hf
 ·rename_i i j
  cases (show x=.int i from r1);cases (show y=.int j from r2)
  exact⟨i,j,rfl,rfl,q _ _ (h i j) hf⟩
 ·exact hf.elim
abbrev xcU:=fI0 fun i j=>.int (i+j)
abbrev xc_:=fI0 fun i j=>.int (i-j)
abbrev fLe:=fI0 fun i j=>.bl (decide (i≤j))
abbrev fGt:=fI0 fun i j=>.bl (decide (j<i))
theorem wk:OpS (rI0 fun i j=>.int (i+j)) xcU:=rj fun _ _=>rfl
theorem zN:OpS (rI0 fun i j=>.int (i-j)) xc_:=rj fun _ _=>rfl
theorem gg:OpS (rI0 fun i j=>.bl (decide (i≤j))) fLe:=rj fun _ _=>rfl
theorem dP:OpS (rI0 fun i j=>.bl (decide (j<i))) fGt:=rj fun _ _=>rfl
def Bd (i:Int):Prop:=i.natAbs<2 ^ 2000
theorem oy {i:Int}(h1:-(10 ^ 100)≤i)(h2:i≤10 ^ 100):Bd i:=by
 have:i.natAbs≤10 ^ 100:=by omega
 exact xeE this (by decide +kernel)
theorem log2_lt_of {n k:Nat}(h:n<2 ^ k)(hk:0<k):n.log2<k:=by
 by_cases h0:n=0
 ·subst h0;simpa using hk
 ·exact(Nat.log2_lt h0).mpr h
theorem Bd.bits {i:Int}(h:Bd i):Builtin.Int.intBits i≤2000:=by
 unfold Builtin.Int.intBits
 split
 ·exact xeL _
 ·have:=log2_lt_of h (by decide)
  omega
def CM (i j:Int):Prop:=Bd i∧Bd j
theorem CM.ok {i j:Int}(h:CM i j):IntMulOk i j:=PyProof.Rows.mulOk_of_bits h.1.bits h.2.bits (by decide)
section
variable {X:Cx}
theorem xJ:OpR X (binaryOp .Mult) (rI CM fun i j=>.int (i*j)):=opI fun _ _ _ _ _ _ _ hc q=>mul_int q hc.ok
def CDv (_i j:Int):Prop:=j≠0∧Bd j
theorem ua:OpR X (binaryOp .FloorDiv) (rI CDv fun i j=>.int (i.fdiv j)):=opI fun i j _ _ _ _ _ hc q =>
 floordiv_int hc.1 q (.inl (PyProof.noPylong_of_log2 (Nat.lt_trans (log2_lt_of hc.2 (by decide)) (by decide))))
end
abbrev xcW:=fI CM fun i j=>.int (i*j)
abbrev xcP:=fI CDv fun i j=>.int (i.fdiv j)
abbrev xdb:=fI (fun _ j=>j≠0) fun i j=>.int (i.fmod j)
theorem xU:OpS (rI CM fun i j=>.int (i*j)) xcW:=oq fun _ _=>rfl
theorem v_:OpS (rI CDv fun i j=>.int (i.fdiv j)) xcP:=oq fun _ _=>rfl
theorem aJ:OpS (rI (fun _ j=>j≠0) fun i j=>.int (i.fmod j)) xdb:=oq fun _ _=>rfl
def d1 (f:Tr→(Tr→Prop)→Prop)(da:DE):DE:=fun τ KK=>da τ fun x=>f x KK
def xc2 (x:Tr)(KK:Tr→Prop):Prop:=match x with | .int i=>KK (.int (-i)) | _=>False
theorem yL {b:Bool}{ta:TE}{da:DE}(ha:OkE K b ta da):OkE K true (tUn (rU fun i=>.int (-i)) ta) (d1 xc2 da):=fun B φ σ τ H Q KK R hd q =>
 ha B φ σ τ H _ _ R hd fun t v H1 x1 k1 r1=>by
  cases t with
  | int i=>cases (show v=.int i from r1);exact⟨i,rfl,q _ _ H1 x1 k1 rfl⟩
  | _=>exact k1.elim
def lU:Tr→Bool
 | .non=>true
 | _=>false
theorem md {F:Addr→Prop}{t:Tr}{v:V}(r:Rep F H t v):decide (v=.non)=lU t:=by
 cases t with
 | non=>cases (show v=.non from r);rfl
 | bl b=>cases (show v=.bl b from r);rfl
 | int b=>cases (show v=.int b from r);rfl
 | str b=>cases (show v=.str b from r);rfl
 | emp=>obtain⟨a,e,_⟩:=r;subst e;rfl
 | tup ts=>obtain⟨a,ws,e,_⟩:=r;subst e;rfl
 | lst ts=>obtain⟨a,ws,e,_⟩:=r;subst e;rfl
theorem mj {b:Bool}{ta:TE}{da:DE}(ha:OkE K b ta da):OkE K true (xb9 ta) (d1 (fun x KK=>KK (.bl (lU x))) da):=fun B φ σ τ H Q KK R hd q =>
 ha B φ σ τ H _ _ R hd fun t v H1 x1 k1 r1=>by
  show Q (.bl (decide (v=.non))) H1
  rw[md r1];exact q _ _ H1 x1 k1 rfl
def fB (x:Tr)(KK:Bool→Prop):Prop:=match x with | .bl b=>KK b | _=>False
def xcl (d:DE):DT:=fun τ KK=>d τ fun x=>fB x KK
theorem zr {b:Bool}{ta:TE}{da:DE}(ha:OkE K b ta da):OkT K (tB ta) (xcl da):=fun B φ σ τ H Q KK R hd q =>
 ha B φ σ τ H _ _ R hd fun t v H1 x1 k1 r1=>by
  cases t with
  | bl i=>cases (show v=.bl i from r1);exact⟨i,rfl,q _ H1 x1 k1⟩
  | _=>exact k1.elim
theorem xK {b:Bool}{ta:TE}{da:DE}(ha:OkE K b ta da):OkT K (oR ta) (xcl da):=zr ha
def xcN (a b:DT):DT:=fun τ KK=>a τ fun c=>if c=true then b τ KK else KK false
def dOr (a b:DT):DT:=fun τ KK=>a τ fun c=>if c=true then KK true else b τ KK
def xcO (a:DT):DT:=fun τ KK=>a τ fun c=>KK (!c)
theorem kZ {ta tb:TT}{da db:DT}(ha:OkT K ta da)(hb:OkT K tb db):OkT K (xcL ta tb) (xcN da db):=fun B φ σ τ H Q KK R hd q =>
 ha B φ σ τ H _ _ R hd fun c H1 x1 k1=>by
  cases c with
  | true=>exact tO (hb B φ σ τ H1 _ _ (R.hx x1) k1 fun d H2 x2 k2=>q d H2 (x1.trans x2) k2)
  | false=>exact sR (q false H1 x1 k1)
theorem kg {ta tb:TT}{da db:DT}(ha:OkT K ta da)(hb:OkT K tb db):OkT K (tOr ta tb) (dOr da db):=fun B φ σ τ H Q KK R hd q =>
 ha B φ σ τ H _ _ R hd fun c H1 x1 k1=>by
  cases c with
  | false=>exact sR (hb B φ σ τ H1 _ _ (R.hx x1) k1 fun d H2 x2 k2=>q d H2 (x1.trans x2) k2)
  | true=>exact tO (q true H1 x1 k1)
theorem we {ta:TT}{da:DT}(ha:OkT K ta da):OkT K (xcr ta) (xcO da):=fun B φ σ τ H Q KK R hd q =>
 ha B φ σ τ H _ _ R hd fun c H1 x1 k1=>q (!c) H1 x1 k1
def xb8 (a b:DE):DE:=fun τ KK=>a τ fun x=>fB x fun c=>if c=true then b τ KK else KK (.bl false)
def xc6 (a b:DE):DE:=fun τ KK=>a τ fun x=>fB x fun c=>if c=true then KK (.bl true) else b τ KK
def xb0 (a:DE):DE:=fun τ KK=>a τ fun x=>fB x fun c=>KK (.bl (!c))
theorem gx {b c:Bool}{ta tb:TE}{da db:DE}(ha:OkE K b ta da)(hb:OkE K c tb db):OkE K c (xaO ta tb) (xb8 da db):=fun B φ σ τ H Q KK R hd q =>
 ha B φ σ τ H _ _ R hd fun t v H1 x1 k1 r1=>by
  cases t with
  | bl i =>
   cases (show v=.bl i from r1)
   refine⟨i,rfl,?_⟩
   cases i with
   | true=>exact tO (hb B φ σ τ H1 _ _ (R.hx x1) k1 fun d w H2 x2 k2 r2=>q d w H2 (x1.trans x2) k2 r2)
   | false=>exact sR (q _ _ H1 x1 k1 (uh rfl))
  | _=>exact k1.elim
theorem pk {b c:Bool}{ta tb:TE}{da db:DE}(ha:OkE K b ta da)(hb:OkE K c tb db):OkE K c (xcp ta tb) (xc6 da db):=fun B φ σ τ H Q KK R hd q =>
 ha B φ σ τ H _ _ R hd fun t v H1 x1 k1 r1=>by
  cases t with
  | bl i =>
   cases (show v=.bl i from r1)
   refine⟨i,rfl,?_⟩
   cases i with
   | false=>exact sR (hb B φ σ τ H1 _ _ (R.hx x1) k1 fun d w H2 x2 k2 r2=>q d w H2 (x1.trans x2) k2 r2)
   | true=>exact tO (q _ _ H1 x1 k1 (uh rfl))
  | _=>exact k1.elim
theorem lz {b:Bool}{ta:TE}{da:DE}(ha:OkE K b ta da):OkE K true (xa6 ta) (xb0 da):=fun B φ σ τ H Q KK R hd q =>
 ha B φ σ τ H _ _ R hd fun t v H1 x1 k1 r1=>by
  cases t with
  | bl i=>cases (show v=.bl i from r1);exact⟨i,rfl,q _ _ H1 x1 k1 rfl⟩
  | _=>exact k1.elim
def lR (f f':Tr→Tr→(Tr→Prop)→Prop)(da db dc:DE):DE:=fun τ KK=>da τ fun x=>db τ fun y=>f x y fun z=>fB z fun k=>if k=true then dc τ fun w=>f' y w KK else KK (.bl false)
theorem bI {b1 b2 b3:Bool}{r r':R2}{f f':Tr→Tr→(Tr→Prop)→Prop}{ta tb tc:TE}{da db dc:DE}(hr:OpS r f)(hr':OpS r' f')(ha:OkE K b1 ta da)(hb:OkE K b2 tb db)(hc:OkE K b3 tc dc) :
  OkE K true (pR r r' ta tb tc) (lR f f' da db dc):=fun B φ σ τ H Q KK R hd q =>
 ha B φ σ τ H _ _ R hd fun t v H1 x1 k1 r1=>hb B φ σ τ H1 _ _ (R.hx x1) k1 fun u w H2 x2 k2 r2 =>
  hr _ _ H2 v w t u _ _ (x2.rep (fun a s=>R.sB s) r1) r2 k2 fun z v' e k=>by
   cases z with
   | bl i =>
    cases e
    refine⟨i,rfl,?_⟩
    cases i with
    | true=>exact tO (hc B φ σ τ H2 _ _ (R.hx (x1.trans x2)) k fun w3 v3 H3 x3 k3 r3=>hr' _ _ H3 w v3 u w3 KK Q (x3.rep (fun a s=>R.sB s) r2) r3 k3 fun z' v'' e' k'=>q z' v'' H3 ((x1.trans x2).trans x3) k' (uh e'))
    | false=>exact sR (q _ _ H2 (x1.trans x2) k (uh rfl))
   | _=>exact k.elim
def xap:DA:=fun _ KK=>KK []
def tu (a:DE)(r:DA):DA:=fun τ KK=>a τ fun x=>r τ fun xs=>KK (x::xs)
theorem zJ {b:Bool}:OkA K b 0 dY xap:=fun B φ σ τ H Q KK R hd q=>q [] [] H (HX.refl R) hd rfl rfl
theorem xT {b:Bool}{n:Nat}{te:TE}{ta:TA}{de:DE}{da:DA}(he:OkE K b te de)(ha:OkA K b n ta da):OkA K b (n+1) (zL te ta) (tu de da):=fun B φ σ τ H Q KK R hd q =>
 he B φ σ τ H _ _ R hd fun t v H1 x1 k1 r1=>ha B φ σ τ H1 _ _ (R.hx x1) k1 fun ts vs H2 x2 k2 l2 r2=>q (t::ts) (v::vs) H2 (x1.trans x2) k2 (by rw[xdV,l2]) ⟨v,vs,rfl,x2.rep (fun a s=>R.sB s) r1,r2⟩
def xc1 (a:DA):DE:=fun τ KK=>a τ fun xs=>KK (.tup xs)
def xbO (a:DA):DE:=fun τ KK=>a τ fun xs=>KK (.lst xs)
theorem k7 {F:Addr→Prop}{p:Addr}{o:HO}{t:Tr}{v:V}(hp:H p=none)(r:Rep F H t v):Rep F (upd H p o) t v:=xZ (fun a u e n=>⟨by rw[xC (xn e hp)];exact e,n⟩) t v r
theorem wu {F:Addr→Prop}{p:Addr}{o:HO}{t:List Tr}{v:List V}(hp:H p=none)(r:yQ F H t v):yQ F (upd H p o) t v:=xO (fun a u e n=>⟨by rw[xC (xn e hp)];exact e,n⟩) t v r
theorem vt {F:Addr→Prop}{p:Addr}{o:HO}{t:List Tr}{v:List V}(hp:H p=none)(r:yQ F H t v):yQ (fun c=>F c∨c=p) (upd H p o) t v:=xO (fun a u e n=>⟨by rw[xC (xn e hp)];exact e,fun z=>z.elim n (xn e hp)⟩) t v r
theorem yn {b:Bool}{n:Nat}{ta:TA}{da:DA}(ha:OkA K b n ta da)(hn:n≤sizeLine:=by decide):OkE K b (xbK ta) (xc1 da):=fun B φ σ τ H Q KK R hd q =>
 ha B φ σ τ H _ _ R hd fun ts vs H1 x1 k1 l1 r1=>⟨by rw[←r1.len,l1];exact hn,fun p hp =>
  q _ _ _ (x1.trans (HX.new (R.hx x1) hp _)) k1 ⟨p,vs,rfl,fun z=>(R.hx x1).domB z hp,xM,wu hp r1⟩⟩
theorem uO {n:Nat}{ta:TA}{da:DA}(ha:OkA K true n ta da)(hn:n≤sizeLine:=by decide):OkF K (xbJ ta) (xbO da):=fun B φ σ τ H Q KK R hd q =>
 ha B φ σ τ H _ _ R hd fun ts vs H1 x1 k1 l1 r1=>⟨by rw[←r1.len,l1];exact hn,fun p hp =>
  q ts p vs _ (x1.trans (HX.new (R.hx x1) hp _)) k1 (x1.none hp) xM (vt hp r1)⟩
theorem dQ {b:Bool}{n:Nat}{ta:TA}{da:DA}(ha:OkA K b n ta da)(hn:n≤sizeLine:=by decide):OkE K b (xbJ ta) (xbO da):=fun B φ σ τ H Q KK R hd q =>
 ha B φ σ τ H _ _ R hd fun ts vs H1 x1 k1 l1 r1=>⟨by rw[←r1.len,l1];exact hn,fun p hp =>
  q _ _ _ (x1.trans (HX.new (R.hx x1) hp _)) k1 ⟨p,vs,rfl,fun z=>(R.hx x1).domB z hp,xM,wu hp r1⟩⟩
end
end L2
namespace L2
open PySem PySem.Spec PyProof.Rows
def getT {α:Type}:List α→Nat→Option α
 | [],_=>none
 | x::_,0=>some x
 | _::r,n+1=>getT r n
theorem jo {α:Type}:∀(l:List α) (n:Nat),getT l n=l[n]?
 | [],_=>by simp[getT]
 | _::_,0=>by simp[getT]
 | _::r,n+1=>by simp[getT,jo r n]
def atT {α:Type}(ts:List α):Int→Option α
 | .ofNat n=>getT ts n
 | .negSucc n=>if n<ts.length then getT ts (ts.length-1-n) else none
theorem pj {α:Type}(ts:List α)(i:Int):atT ts i=atI ts i:=by
 unfold atI ixN
 cases i with
 | ofNat n =>
  show getT ts n=_
  rw[jo]
  have h0:(0:Int)≤Int.ofNat n:=Int.natCast_nonneg n
  rw[if_pos h0]
  by_cases h:(Int.ofNat n)<(ts.length:Int)
  ·rw[if_pos h];rfl
  ·rw[if_neg h]
   have:ts.length≤n:=by
    have h':¬((n:Int)<(ts.length:Int)):=h
    omega
   rw[xdP this];rfl
 | negSucc n =>
  show(if n<ts.length then getT ts (ts.length-1-n) else none)=_
  have h0:¬(0:Int)≤Int.negSucc n:=by omega
  rw[if_neg h0]
  by_cases h:n<ts.length
  ·rw[if_pos h,jo,if_pos (by omega)]
   show ts[ts.length-1-n]? = ts[(Int.negSucc n+(ts.length:Int)).toNat]?
   congr 1
   omega
  ·rw[if_neg h,if_neg (by omega)];rfl
section
variable {K:PySem.W.Frag} {B:FB} {φ:Phi} {σ:St} {τ:TSt} {H H' H'':Hp}
theorem yQ.at {F:Addr→Prop}{ts:List Tr}{ws:List V}{i:Int}{t:Tr}(r:yQ F H ts ws)(h:atT ts i=some t):∃w,atI ws i=some w∧Rep F H t w:=by
 rw[pj] at h
 unfold atI at h ⊢
 rw[←r.len]
 cases e:ixN ts.length i with
 | none=>rw[e] at h;cases h
 | some j =>
  rw[e] at h
  exact r.getT h
def tN (o:Option Tr)(KK:Tr→Prop):Prop:=match o with | some t=>KK t | none=>False
def fIx (x y:Tr)(KK:Tr→Prop):Prop:=match x,y with | .tup ts,.int i=>tN (atT ts i) KK | .lst ts,.int i=>tN (atT ts i) KK | _,_=>False
theorem rJ {b c:Bool}{ta tb:TE}{da db:DE}(ha:OkE K b ta da)(hb:OkE K c tb db):OkE K b (tOp (rIx K) ta tb) (d2 fIx da db):=fun B φ σ τ H Q KK R hd q =>
 ha B φ σ τ H _ _ R hd fun t v H1 x1 k1 r1=>hb B φ σ τ H1 _ _ (R.hx x1) k1 fun u w H2 x2 k2 r2=>by
  have r1':=x2.rep (fun a s=>R.sB s) r1
  unfold fIx at k2
  split at k2
  ·rename_i ts i
   obtain⟨a,ws,e,n,ha',rl⟩:=r1'
   cases (show w=.int i from r2)
   subst e
   cases e:atT ts i with
   | none=>rw[e] at k2;exact k2.elim
   | some z =>
    rw[e] at k2
    obtain⟨y,e1,e2⟩:=rl.at e
    exact .inr (.inl ⟨a,ws,i,y,rfl,rfl,SqT.of ha',e1,q z y H2 (x1.trans x2) k2 e2⟩)
  ·rename_i ts i
   obtain⟨a,ws,e,n,ha',rl⟩:=r1'
   cases (show w=.int i from r2)
   subst e
   cases e:atT ts i with
   | none=>rw[e] at k2;exact k2.elim
   | some z =>
    rw[e] at k2
    obtain⟨y,e1,e2⟩:=rl.at e
    exact .inl ⟨a,ws,i,y,rfl,rfl,SqL.of ha',e1,q z y H2 (x1.trans x2) k2 e2⟩
  ·exact k2.elim
def xc0 (ts:List Tr)(y:Tr)(KK:Tr→Prop):Prop:=match y with | .int k=>tN (atT ts k) KK | _=>False
def xcF (i:Nat)(db:DE):DE:=fun τ KK=>match nth τ i with | .ow ts=>db τ fun y=>xc0 ts y KK | _=>False
theorem kR {i:Nat}{a:Addr}{ts:List Tr}(R:RS K B φ σ τ H)(x:HX B φ τ H H')(hi:nth τ i=.ow ts)(e1:σ[i]? = some (some (.ref a))):∃ws,H' a=some (.lst ws)∧yQ (Av B φ) H' ts ws∧φ i=some a∧B.H0 a=none:=by
 have en2:=(R.hx x).ent i
 rw[hi] at en2
 obtain⟨a',ws',e1',e2,e3,e4',r'⟩:=en2
 rw[e1] at e1';cases e1'
 exact⟨ws',e4',r',e2,e3⟩
theorem rm {c:Bool}{i:Nat}{tb:TE}{db:DE}(hb:OkE K c tb db):OkE K true (tOp (rIx K) (fb i) tb) (xcF i db):=fun B φ σ τ H Q KK R hd q=>by
 have en:=R.ent i
 unfold xcF at hd
 revert en hd
 cases hi:nth τ i with
 | ow ts =>
  intro hd ⟨a,ws,e1,e2,e3,e4,r⟩
  refine⟨_,e1,hb B φ σ τ H _ _ R hd fun u w H2 x2 k2 r2=>?_⟩
  obtain⟨ws',e4',r',_⟩:=kR R x2 hi e1
  cases u with
  | int k =>
   cases (show w=.int k from r2)
   have k2:tN (atT ts k) KK:=k2
   cases e:atT ts k with
   | none=>rw[e] at k2;exact k2.elim
   | some z =>
    rw[e] at k2
    obtain⟨y,f1,f2⟩:=r'.at e
    exact .inl ⟨a,ws',k,y,rfl,rfl,SqL.of e4',f1,q z y H2 x2 k2 f2⟩
  | _=>exact k2.elim
 | _=>exact fun z _=>z.elim
abbrev DO:=TSt→(Option Int→Prop)→Prop
def OkO (K:PySem.W.Frag)(t:TO)(d:DO):Prop:=∀(B:FB) (φ:Phi) (σ:St) (τ:TSt) (H:Hp) (Q:Option Int→Hp→Prop) (KK:Option Int→Prop),RS K B φ σ τ H→d τ KK→(∀o H',HX B φ τ H H'→KK o→Q o H')→t σ H Q
def oD:DO:=fun _ KK=>KK none
def xbm (d:DE):DO:=fun τ KK=>d τ fun x=>match x with | .int i=>KK (some i) | _=>False
theorem qc:OkO K bB oD:=fun B φ σ τ H Q KK R hd q=>q none H (HX.refl R) hd
theorem qv {b:Bool}{te:TE}{d:DE}(h:OkE K b te d):OkO K (oO te) (xbm d):=fun B φ σ τ H Q KK R hd q =>
 h B φ σ τ H _ _ R hd fun t v H1 x1 k1 r1=>by
  cases t with
  | int i=>cases (show v=.int i from r1);exact⟨i,rfl,q _ H1 x1 k1⟩
  | _=>exact k1.elim
def jK {α:Type}(xs:List α)(lo hi:Option Int):List α:=(xs.drop (HT.sIx xs.length 0 lo)).take (HT.sIx xs.length xs.length hi-HT.sIx xs.length 0 lo)
theorem yQ.cut {F:Addr→Prop}{ts:List Tr}{ws:List V}(r:yQ F H ts ws)(lo hi:Option Int):yQ F H (jK ts lo hi) (tE ws lo hi):=by
 unfold jK tE
 rw[←r.len]
 exact yo.mpr (uo _ (vJ _ (yo.mp r)))
def dSl (d:DE)(dl dh:DO):DE:=fun τ KK=>d τ fun x=>dl τ fun lo=>dh τ fun hi=>match x with | .tup ts=>KK (.tup (jK ts lo hi)) | .lst ts=>KK (.lst (jK ts lo hi)) | _=>False
def xcV (d:DE)(dl dh:DO):DE:=fun τ KK=>d τ fun x=>dl τ fun lo=>dh τ fun hi=>match x with | .lst ts=>KK (.lst (jK ts lo hi)) | _=>False
theorem pM {b:Bool}{te:TE}{tl th:TO}{d:DE}{dl dh:DO}(h:OkE K b te d)(hl:OkO K tl dl)(hh:OkO K th dh):OkE K b (tSl (lV K) te tl th) (xcV d dl dh):=fun B φ σ τ H Q KK R hd q =>
 h B φ σ τ H _ _ R hd fun t v H1 x1 k1 r1=>hl B φ σ τ H1 _ _ (R.hx x1) k1 fun lo H2 x2 k2=>hh B φ σ τ H2 _ _ (R.hx (x1.trans x2)) k2 fun hi H3 x3 k3=>by
  have r3:=(x2.trans x3).rep (fun a s=>R.sB s) r1
  have x:=(x1.trans x2).trans x3
  cases t with
  | lst ts =>
   obtain⟨a,ws,e,n,ha,rl⟩:=r3
   exact⟨a,ws,e,SqL.of ha,fun p hp=>q _ _ _ (x.trans (HX.new (R.hx x) hp _)) k3 ⟨p,_,rfl,fun z=>(R.hx x).domB z hp,xM,wu hp (rl.cut lo hi)⟩⟩
  | _=>exact k3.elim
def xcJ (i:Nat)(dl dh:DO):DE:=fun τ KK=>match nth τ i with | .ow ts=>dl τ fun lo=>dh τ fun hi=>KK (.lst (jK ts lo hi)) | _=>False
theorem oF {i:Nat}{tl th:TO}{dl dh:DO}(hl:OkO K tl dl)(hh:OkO K th dh):OkF K (tSl (lV K) (fb i) tl th) (xcJ i dl dh):=fun B φ σ τ H Q KK R hd q=>by
 have en:=R.ent i
 unfold xcJ at hd
 revert en hd
 cases hi:nth τ i with
 | ow ts =>
  intro hd ⟨a,ws,e1,e2,e3,e4,r⟩
  refine⟨_,e1,hl B φ σ τ H _ _ R hd fun lo H2 x2 k2=>hh B φ σ τ H2 _ _ (R.hx x2) k2 fun hi' H3 x3 k3=>?_⟩
  have x:=x2.trans x3
  obtain⟨ws',e4',r',_⟩:=kR R x hi e1
  exact⟨a,ws',rfl,SqL.of e4',fun p hp=>q _ _ _ _ (x.trans (HX.new (R.hx x) hp _)) k3 (x.none hp) xM (vt hp (r'.cut lo hi'))⟩
 | _=>exact fun z _=>z.elim
def xct (x y:Tr)(KK:Tr→Prop):Prop:=match x,y with | .lst ts,.lst us=>ts.length+us.length≤sizeLine∧KK (.lst (ts++us)) | _,_=>False
theorem oN {ta tb:TE}{da db:DE}(ha:OkE K true ta da)(hb:OkE K true tb db):OkF K (tOp xbP ta tb) (d2 xct da db):=fun B φ σ τ H Q KK R hd q =>
 ha B φ σ τ H _ _ R hd fun t v H1 x1 k1 r1=>hb B φ σ τ H1 _ _ (R.hx x1) k1 fun u w H2 x2 k2 r2=>by
  have r1':=x2.rep (F:=Av B φ) (fun a s=>R.sAv s) r1
  have x:=x1.trans x2
  unfold xct at k2
  split at k2
  ·rename_i ts us
   obtain⟨a,ws,e,n,ha',rl⟩:=r1'
   obtain⟨a2,ws2,e2,n2,ha2,rl2⟩:=r2
   exact⟨a,a2,ws,ws2,e,e2,ha',ha2,by rw[←rl.len,←rl2.len];exact k2.1,fun p hp=>q _ _ _ _ (x.trans (HX.new (R.hx x) hp _)) k2.2 (x.none hp) xM (vt hp (rl.app rl2))⟩
  ·exact k2.elim
def dCB (f:List Tr→(Tr→Prop)→Prop)(da:DA):DE:=fun τ KK=>da τ fun xs=>f xs KK
def CbS (r:List V→Hp→VK→Prop)(f:List Tr→(Tr→Prop)→Prop):Prop:=∀(F:Addr→Prop) (H:Hp) (vs:List V) (ts:List Tr) (KK:Tr→Prop) (Q:VK),yQ F H ts vs→f ts KK→(∀w v,rL w=some v→KK w→Q v H)→r vs H Q
theorem yp {b:Bool}{n:Nat}{r:List V→Hp→VK→Prop}{f:List Tr→(Tr→Prop)→Prop}{ta:TA}{da:DA}(hr:CbS r f)(ha:OkA K b n ta da):OkE K true (tCB r ta) (dCB f da):=fun B φ σ τ H Q KK R hd q =>
 ha B φ σ τ H _ _ R hd fun ts vs H1 x1 k1 l1 r1=>hr _ H1 vs ts KK Q r1 k1 fun w v e k=>q w v H1 x1 k (uh e)
theorem gP {F:Addr→Prop}{t:Tr}{vs:List V}(h:yQ F H [t] vs):∃v,vs=[v]∧Rep F H t v:=by
 obtain⟨w,r,e,h1,h2⟩:=h
 cases (show r=[] from h2)
 exact⟨w,e,h1⟩
theorem mO {F:Addr→Prop}{t u:Tr}{vs:List V}(h:yQ F H [t,u] vs):∃v w,vs=[v,w]∧Rep F H t v∧Rep F H u w:=by
 obtain⟨w,r,e,h1,h2⟩:=h
 obtain⟨w',e',h3⟩:=gP h2
 subst e'
 exact⟨w,w',e,h1,h3⟩
def xcK (xs:List Tr)(KK:Tr→Prop):Prop:=match xs with | [.tup ts]=>KK (.int ts.length) | [.lst ts]=>KK (.int ts.length) | _=>False
theorem ve:CbS (o_ K) xcK:=by
 intro F H vs ts KK Q r hf q
 unfold xcK at hf
 split at hf
 ·rename_i ts
  obtain⟨v,rfl,a,ws,e,n,ha,rl⟩:=gP r
  exact⟨a,ws,by rw[e],.inr (SqT.of ha),by rw[←rl.len];exact q _ _ rfl hf⟩
 ·rename_i ts
  obtain⟨v,rfl,a,ws,e,n,ha,rl⟩:=gP r
  exact⟨a,ws,by rw[e],.inl (SqL.of ha),by rw[←rl.len];exact q _ _ rfl hf⟩
 ·exact hf.elim
def xcv (xs:List Tr)(KK:Tr→Prop):Prop:=match xs with | [.int i]=>KK (.int (if i<0 then -i else i)) | _=>False
theorem qi:CbS (fun xs H Q=>∃i,xs=[.int i]∧Q (.int (if i<0 then -i else i)) H) xcv:=by
 intro F H vs ts KK Q r hf q
 unfold xcv at hf
 split at hf
 ·rename_i i
  obtain⟨v,rfl,e⟩:=gP r
  cases (show v=.int i from e)
  exact⟨i,rfl,q _ _ rfl hf⟩
 ·exact hf.elim
def xae (xs:List Tr)(KK:Tr→Prop):Prop:=match xs with | [.int i,.int j]=>KK (.int (if j>i then j else i)) | _=>False
theorem lb:CbS (fun xs H Q=>∃i j,xs=[.int i,.int j]∧Q (.int (if j>i then j else i)) H) xae:=by
 intro F H vs ts KK Q r hf q
 unfold xae at hf
 split at hf
 ·rename_i i j
  obtain⟨v,w,rfl,e,e'⟩:=mO r
  cases (show v=.int i from e);cases (show w=.int j from e')
  exact⟨i,j,rfl,q _ _ rfl hf⟩
 ·exact hf.elim
def xau (xs:List Tr)(KK:Tr→Prop):Prop:=match xs with | [.int i,.int j]=>KK (.int (if j<i then j else i)) | _=>False
theorem lx:CbS (fun xs H Q=>∃i j,xs=[.int i,.int j]∧Q (.int (if j<i then j else i)) H) xau:=by
 intro F H vs ts KK Q r hf q
 unfold xau at hf
 split at hf
 ·rename_i i j
  obtain⟨v,w,rfl,e,e'⟩:=mO r
  cases (show v=.int i from e);cases (show w=.int j from e')
  exact⟨i,j,rfl,q _ _ rfl hf⟩
 ·exact hf.elim
theorem jF {F:Addr→Prop}:∀ {ns:List Int} {ws:List V},yQ F H (ns.map Tr.int) ws→ws=ns.map V.int
 | [],_,h=>h
 | n::ns,_,⟨w,r,e,h1,h2⟩=>by
  cases (show w=.int n from h1)
  rw[e,jF h2];rfl
theorem rz {F:Addr→Prop}:∀ {ns:List Bool} {ws:List V},yQ F H (ns.map Tr.bl) ws→ws=ns.map V.bl
 | [],_,h=>h
 | n::ns,_,⟨w,r,e,h1,h2⟩=>by
  cases (show w=.bl n from h1)
  rw[e,rz h2];rfl
def xb2 (xs:List Tr)(KK:Tr→Prop):Prop:=∃bs:List Bool,xs=[.lst (bs.map Tr.bl)]∧KK (.bl (bs.all id))
theorem qY:CbS (oW K) xb2:=by
 intro F H vs ts KK Q r hf q
 obtain⟨ns,rfl,h1⟩:=hf
 obtain⟨v,rfl,a,ws,e,n,ha,rl⟩:=gP r
 rw[rz rl] at ha
 exact⟨a,ns,by rw[e],SqL.of ha,q _ _ rfl h1⟩
def tyT:Tr→String
 | .non => "NoneType" | .bl _ => "bool" | .int _ => "int" | .str _ => "str" | .emp => "dict" | .tup _ => "tuple" | .lst _ => "list"
theorem pE {F:Addr→Prop}{t:Tr}{v:V}(r:Rep F H t v):tyN H v=some (tyT t):=by
 cases t with
 | non=>cases (show v=.non from r);rfl
 | bl b=>cases (show v=.bl b from r);rfl
 | int b=>cases (show v=.int b from r);rfl
 | str b=>cases (show v=.str b from r);rfl
 | emp=>obtain⟨a,e,_,h⟩:=r;subst e;simp only[tyN,h,tyT]
 | tup ts=>obtain⟨a,ws,e,_,h,_⟩:=r;subst e;simp only[tyN,h,tyT]
 | lst ts=>obtain⟨a,ws,e,_,h,_⟩:=r;subst e;simp only[tyN,h,tyT]
def lK (c:String)(t:Tr):Bool:=match c,t with
 | "int", .int _=>true | "int", .bl _=>true | "bool", .bl _=>true | "str", .str _=>true | "tuple", .tup _=>true | "list", .lst _=>true | "dict", .emp=>true | _,_=>false
theorem sZ {c:String}(h:c∈wI)(t:Tr):dm (tyT t) c=lK c t:=by
 simp only[wI,xec,xep,xeV] at h
 rcases h with rfl | rfl | rfl | rfl | rfl | rfl<;>cases t<;>rfl
def xcT (c:String)(d:DE):DE:=fun τ KK=>d τ fun x=>KK (.bl (lK c x))
theorem vG {b:Bool}{c:String}{te:TE}{d:DE}(h:OkE K b te d)(hc:c∈wI:=by decide):OkE K true (tCB xb_ (zL te (zL (tC (.ty c)) dY))) (xcT c d):=fun B φ σ τ H Q KK R hd q =>
 h B φ σ τ H _ _ R hd fun t v H1 x1 k1 r1=>⟨v,c,tyT t,rfl,pE r1,hc,by rw[sZ hc];exact q _ _ H1 x1 k1 rfl⟩
def xb3 (c c':String)(d:DE):DE:=fun τ KK=>d τ fun x=>KK (.bl (lK c x || lK c' x))
theorem oE {b:Bool}{c c':String}{te:TE}{d:DE}(h:OkE K b te d)(hc:c∈wI:=by decide)(hc':c'∈wI:=by decide) :
  OkE K true (tCB xaG (zL te (zL (xbK (zL (tC (.ty c)) (zL (tC (.ty c')) dY))) dY))) (xb3 c c' d):=fun B φ σ τ H Q KK R hd q =>
 h B φ σ τ H _ _ R hd fun t v H1 x1 k1 r1=>⟨by show 2≤sizeLine;decide,fun p hp=>⟨v,p,[c,c'],tyT t,rfl,xM,pE (k7 hp r1),by simp[hc,hc'],by
  have e:[c,c'].any (dm (tyT t))=(lK c t || lK c' t):=by simp[sZ hc,sZ hc']
  rw[e];exact q _ _ _ (x1.trans (HX.new (R.hx x1) hp _)) k1 rfl⟩⟩
def lZ (i:Nat):DE:=fun τ KK=>match nth τ i with | .ow ts=>KK (.tup ts) | _=>False
theorem oM {i:Nat}:OkE K true (tCB (xa0 K) (zL (fb i) dY)) (lZ i):=fun B φ σ τ H Q KK R hd q=>by
 have en:=R.ent i
 unfold lZ at hd
 revert en hd
 cases hi:nth τ i with
 | ow ts =>
  intro hd ⟨a,ws,e1,e2,e3,e4,r⟩
  exact⟨_,e1,a,ws,rfl,.inl ⟨SqL.of e4,fun p hp=>q _ _ _ (HX.new R hp _) hd ⟨p,_,rfl,fun z=>R.dom z hp,xM,wu hp r⟩⟩⟩
 | _=>exact fun z _=>z.elim
def oh (i:Nat):DE:=fun τ KK=>match nth τ i with | .sc ns=>ns.length≤63→KK (.int ns.length) | _=>False
theorem cO {i:Nat}:OkE K true (tCB (o_ K) (zL (fb i) dY)) (oh i):=fun B φ σ τ H Q KK R hd q=>by
 have en:=R.ent i
 unfold oh at hd
 revert en hd
 cases hi:nth τ i with
 | sc ns =>
  intro hd ⟨a,e,l,so,_⟩
  have sq:SqL K H a (ns.map V.int):=by
   rcases so with ⟨o,h⟩ | h
   ·exact .inl (.inr ⟨o,h⟩)
   ·exact h H
  refine⟨_,e,a,_,rfl,.inl sq,?_⟩
  rw[xdZ]
  exact q _ _ H (HX.refl R) (hd l) rfl
 | _=>exact fun z _=>z.elim
end
end L2
namespace L2
open PySem PySem.Spec PyProof.Rows
abbrev TSp:=List Tr→(Tr→Prop)→Prop
def spT (n:Nat)(st fr:Bool)(sp:TSp):Sp:=fun vs H Q _=>∃(F S:Addr→Prop) (ts:List Tr) (KK:Tr→Prop) (us:List V),
 (match st with | true=>∃p,vs=.ref p::us∧S p | false=>vs=us)∧(∀a,F a→H a≠none)∧(∀a,S a→F a)∧(∀a,S a→tL a H)∧yQ F H ts us∧ts.length=n∧sp ts KK ∧
 ∀t v H',KK t→(∀a o,H a=some o→¬S a→H' a=some o)→(∀a,S a→tL a H')→Rep F H' t v→(fr=true→FrL F H H' t v)→Q v H'
def lH (sp:TSp)(da:DA):DE:=fun τ KK=>da τ fun ts=>sp ts KK
def pe (i:Nat)(sp:TSp)(da:DA):DE:=fun τ KK=>match nth τ i with | .st=>da τ fun ts=>sp ts KK | _=>False
section
variable {K:PySem.W.Frag} {B:FB} {φ:Phi} {σ:St} {τ:TSt} {H H' H'':Hp}
theorem xF {b fr:Bool}{n:Nat}{sp:TSp}{ta:TA}{da:DA}(ha:OkA K b n ta da):OkE K b (lN (spT n false fr sp) ta) (lH sp da):=fun B φ σ τ H Q KK R hd q =>
 ha B φ σ τ H _ _ R hd fun ts vs H1 x1 k1 l1 r1=>⟨AvB b B φ τ,SA B φ τ,ts,KK,vs,rfl,fun a z=>(R.hx x1).domB z,fun a z=>R.sB z,x1.st,r1,l1,k1,fun t v H' k e s r _=>q t v H' (x1.trans ⟨e,s⟩) k r⟩
theorem sA {n:Nat}{sp:TSp}{ta:TA}{da:DA}(ha:OkA K true n ta da):OkF K (lN (spT n false true sp) ta) (lH sp da):=fun B φ σ τ H Q KK R hd q =>
 ha B φ σ τ H _ _ R hd fun ts vs H1 x1 k1 l1 r1=>⟨Av B φ,SA B φ τ,ts,KK,vs,rfl,fun a z=>(R.hx x1).dom z,fun a z=>R.sAv z,x1.st,r1,l1,k1,fun t v H' k e s r f=>by
  obtain⟨a,ts',ws,rfl,rfl,h1,h2,h3⟩:=f rfl
  exact q ts' a ws H' (x1.trans ⟨e,s⟩) k (x1.none h1) h2 h3⟩
theorem yt {b fr:Bool}{n i:Nat}{sp:TSp}{ta:TA}{da:DA}(ha:OkA K b n ta da):OkE K b (lN (spT n true fr sp) (zL (fb i) ta)) (pe i sp da):=fun B φ σ τ H Q KK R hd q=>by
 have en:=R.ent i
 unfold pe at hd
 revert en hd
 cases hi:nth τ i with
 | st =>
  intro hd ⟨p,e1,e2,e3⟩
  exact⟨_,e1,ha B φ σ τ H _ _ R hd fun ts vs H1 x1 k1 l1 r1=>⟨AvB b B φ τ,SA B φ τ,ts,KK,vs,⟨p,rfl,.inr ⟨i,e2,hi⟩⟩,fun a z=>(R.hx x1).domB z,fun a z=>R.sB z,x1.st,r1,l1,k1,fun t v H' k e s r _=>q t v H' (x1.trans ⟨e,s⟩) k r⟩⟩
 | _=>exact fun z _=>z.elim
def Phi.del (φ:Phi)(i:Nat):Phi:=fun j=>if j=i then none else φ j
def Phi.put (φ:Phi)(i:Nat)(a:Addr):Phi:=fun j=>if j=i then some a else φ j
theorem zA {i j:Nat}{a:Addr}(h:φ.del i j=some a):j≠i∧φ j=some a:=by
 unfold Phi.del at h
 by_cases e:j=i
 ·rw[if_pos e] at h;cases h
 ·rw[if_neg e] at h;exact⟨e,h⟩
theorem pJ {i j:Nat}(h:j≠i):φ.del i j=φ j:=if_neg h
theorem zC {i j:Nat}{a c:Addr}(h:φ.put i a j=some c):(j=i∧c=a)∨(j≠i∧φ j=some c):=by
 unfold Phi.put at h
 by_cases e:j=i
 ·rw[if_pos e] at h;cases h;exact .inl ⟨e,rfl⟩
 ·rw[if_neg e] at h;exact .inr ⟨e,h⟩
theorem kP {i:Nat}{a:Addr}:φ.put i a i=some a:=if_pos rfl
theorem j7 {i j:Nat}{a:Addr}(h:j≠i):φ.put i a j=φ j:=if_neg h
theorem qz {i:Nat}{a:Addr}(h:Av B (φ.del i) a):Av B φ a:=by
 rcases h with h | ⟨j,h⟩
 ·exact .inl h
 ·exact .inr ⟨j,(zA h).2⟩
theorem kS {φ':Phi}{i:Nat}{o:Option (Option V)}{x:TV}(h:Ent K B φ H i o x)(hφ:φ' i=φ i)(hr:∀t v,Rep (Av B φ) H t v→Rep (Av B φ') H' t v)(hrl:∀t v,yQ (Av B φ) H t v→yQ (Av B φ') H' t v)
  (hl:∀a ws ts,x=.ow ts→φ i=some a→H a=some (.lst ws)→H' a=some (.lst ws)) (hs:∀a ns,cR K H a ns→cR K H' a ns):Ent K B φ' H' i o x:=by
 cases x with
 | un=>trivial
 | fz t=>obtain⟨v,e,r⟩:=h;exact⟨v,e,hr t v r⟩
 | ow ts=>obtain⟨a,ws,e1,e2,e3,e4,r⟩:=h;exact⟨a,ws,e1,hφ.trans e2,e3,hl a ws ts rfl e2 e4,hrl _ _ r⟩
 | st=>obtain⟨p,e1,e2,e3⟩:=h;exact⟨p,e1,hφ.trans e2,e3⟩
 | sc ns=>obtain⟨a,e,l,q⟩:=h;exact⟨a,e,l,hs a ns q⟩
 | ob a=>exact h
theorem RS.setFz {i:Nat}{t:Tr}{v:V}(R:RS K B φ σ τ H)(r:Rep (Av B φ) H t v):RS K B (φ.del i) (σ.set i (some v)) (τ.set i (.fz t)) H where
 f0:=R.f0
 s0:=R.s0
 ext:=R.ext
 sst:=fun a s=>by
  rcases s with s | ⟨j,s,hj⟩
  ·exact R.sst a (.inl s)
  ·obtain⟨hne,s'⟩:=zA s
   rw[yf hne] at hj
   exact R.sst a (.inr ⟨j,s',hj⟩)
 inj:=fun j k a ts hj e1 e2=>by
  obtain⟨hne,e1⟩:=zA e1
  rw[yf hne] at hj
  exact R.inj j k a ts hj e1 (zA e2).2
 ow:=fun j a e=>R.ow j a (zA e).2
 len:=by rw[xd2,xd2];exact R.len
 ent:=fun j=>by
  have mono:∀t v,Rep (Av B φ) H t v→Rep (Av B (φ.del i)) H t v:=fun t v=>xZ (fun a o e n=>⟨e,fun z=>n (qz z)⟩) t v
  by_cases e:j=i
  ·subst e
   by_cases hl:j<τ.length
   ·rw[yz hl]
    exact⟨v,by rw[xdT (by rw[R.len];exact hl)],mono _ _ r⟩
   ·rw[yE (by rw[xd2];omega)];trivial
  ·rw[yf e,xdS (Ne.symm e)]
   exact kS (R.ent j) (pJ e) mono (fun t v=>xO (fun a o e n=>⟨e,fun z=>n (qz z)⟩) t v) (fun _ _ _ _ _ z=>z) fun _ _ z=>z
 gh:=fun p hp=>xZ (fun a o e n=>⟨e,fun z=>n (qz z)⟩) _ _ (R.gh p hp)
theorem RS.setNew {i:Nat}{x:TV}{a:Addr}(R:RS K B φ σ τ H)(hx:HX B φ τ H H')(ha:H a=none)(ha':H' a≠none)(hst:x=.st→tL a H')
  (hen:Ent K B (φ.put i a) H' i (some (some (.ref a))) x):RS K B (φ.put i a) (σ.set i (some (.ref a))) (τ.set i x) H':=by
 have R':=R.hx hx
 have nav:∀c,c≠a→Av B (φ.put i a) c→Av B φ c:=fun c hc z=>by
  rcases z with z | ⟨j,z⟩
  ·exact .inl z
  ·rcases zC z with ⟨_,e⟩ | ⟨_,e⟩
   ·exact absurd e hc
   ·exact .inr ⟨j,e⟩
 have mv:∀c o,H c=some o→¬Av B φ c→H' c=some o∧¬Av B (φ.put i a) c:=fun c o e n=>⟨hx.keep c o e fun s=>n (R.sAv s),fun z=>n (nav c (xn e ha) z)⟩
 refine⟨R.f0,R.s0,R'.ext,fun c s=>?_,fun j k c ts hj e1 e2=>?_,fun j c e=>?_,?_,fun j=>?_,fun p hp=>xZ mv _ _ (R.gh p hp)⟩
 ·rcases s with s | ⟨j,s,hj⟩
  ·exact R'.sst c (.inl s)
  ·rcases zC s with ⟨rfl,rfl⟩ | ⟨hne,s'⟩
   ·by_cases hl:j<τ.length
    ·rw[yz hl] at hj
     exact hst hj
    ·rw[yE (by rw[xd2];omega)] at hj;cases hj
   ·rw[yf hne] at hj
    exact R'.sst c (.inr ⟨j,s',hj⟩)
 ·have key:∀j:Nat,φ j=some a→False:=fun j e=>R.ow j a e ha
  rcases zC e1 with ⟨z1,z2⟩ | ⟨n1,f1⟩
  ·rcases zC e2 with ⟨z3,_⟩ | ⟨n2,f2⟩
   ·rw[z1,z3]
   ·exact(key k (by rw[←z2];exact f2)).elim
  ·rcases zC e2 with ⟨z3,z4⟩ | ⟨n2,f2⟩
   ·exact(key j (by rw[←z4];exact f1)).elim
   ·rw[yf n1] at hj
    exact R.inj j k c ts hj f1 f2
 ·rcases zC e with ⟨_,rfl⟩ | ⟨_,e⟩
  ·exact ha'
  ·exact R'.ow j c e
 ·rw[xd2,xd2];exact R.len
 ·by_cases e:j=i
  ·subst e
   by_cases hl:j<τ.length
   ·rw[yz hl,xdT (by rw[R.len];exact hl)]
    exact hen
   ·rw[yE (by rw[xd2];omega)];trivial
  ·rw[yf e,xdS (Ne.symm e)]
   refine kS (R.ent j) (j7 e) (fun t v=>xZ mv t v) (fun t v=>xO mv t v) (fun c ws ts hj e1 e2=>?_) fun c ns z=>?_
   ·refine hx.keep c _ e2 fun s=>?_
    rcases s with s | ⟨k,s,hk⟩
    ·have en:=R.ent j
     rw[hj] at en
     obtain⟨a',ws',_,q2,q3,_⟩:=en
     rw[e1] at q2;cases q2
     exact R.f0 c (R.s0 c s) q3
    ·have:=R.inj j k c ts hj e1 s
     subst this
     rw[hj] at hk;cases hk
   ·refine⟨?_,z.2.hx R hx⟩
    rcases z.1 with ⟨o,z⟩ | z
    ·exact .inl ⟨o,hx.keep c _ z (gS R z)⟩
    ·exact .inr z
theorem RS.wrOw {i:Nat}{ts ts':List Tr}{a:Addr}{ws':List V}(R:RS K B φ σ τ H)(hi:nth τ i=.ow ts)(e1:σ[i]? = some (some (.ref a)))(r:yQ (Av B φ) H ts' ws'):RS K B φ σ (τ.set i (.ow ts')) (upd H a (.lst ws')):=by
 have en:=R.ent i
 rw[hi] at en
 obtain⟨a',ws,e1',e2,e3,e4,_⟩:=en
 rw[e1] at e1';cases e1'
 have hl:i<τ.length:=by
  by_cases h:i<τ.length
  ·exact h
  ·rw[yE (by omega)] at hi;cases hi
 have mv:∀c o,H c=some o→¬Av B φ c→(upd H a (.lst ws')) c=some o∧¬Av B φ c:=fun c o e n=>⟨by rw[xC (fun z=>n (by rw[z];exact .inr ⟨i,e2⟩))];exact e,n⟩
 have nsa:∀c,SA B φ (τ.set i (.ow ts')) c→SA B φ τ c∧c≠a:=fun c s=>by
  rcases s with s | ⟨j,s,hj⟩
  ·exact⟨.inl s,fun z=>R.f0 a (R.s0 a (z▸s)) e3⟩
  ·by_cases e:j=i
   ·subst e
    rw[yz hl] at hj;cases hj
   ·rw[yf e] at hj
    exact⟨.inr ⟨j,s,hj⟩,fun z=>e (R.inj i j a ts hi e2 (z▸s)).symm⟩
 refine⟨R.f0,R.s0,fun c o e n=>?_,fun c s=>?_,fun j k c us hj f1 f2=>?_,fun j c e=>?_,by rw[xd2];exact R.len,fun j=>?_,fun p hp=>xZ mv _ _ (R.gh p hp)⟩
 ·rw[xC (xn e e3)];exact R.ext c o e n
 ·obtain⟨s',hne⟩:=nsa c s
  obtain⟨n,b,q,z⟩:=R.sst c s'
  exact⟨n,b,by rw[xC hne];exact q,z⟩
 ·by_cases e:j=i
  ·subst e;exact R.inj j k c ts hi f1 f2
  ·rw[yf e] at hj
   exact R.inj j k c us hj f1 f2
 ·by_cases z:c=a
  ·rw[z,xM];exact fun z=>nomatch z
  ·rw[xC z];exact R.ow j c e
 ·by_cases e:j=i
  ·subst e
   rw[yz hl]
   exact⟨a,ws',e1,e2,e3,xM,xO mv _ _ r⟩
  ·rw[yf e]
   refine kS (R.ent j) rfl (fun t v=>xZ mv t v) (fun t v=>xO mv t v) (fun c us vs hj f1 f2=>?_) fun c ns z=>?_
   ·rw[xC (fun(z:c=a)=>e (R.inj i j a ts hi e2 (by rw[←z];exact f1)).symm)];exact f2
   ·refine⟨?_,fun P q h=>by rw[xC (lQ (z.2 P q h) e4 (fun q=>nomatch q))];exact z.2 P q h⟩
    rcases z.1 with ⟨o,z⟩ | z
    ·exact .inl ⟨o,by rw[xC (lQ z e4 (fun q=>nomatch q))];exact z⟩
    ·exact .inr z
theorem RS.freeze {i:Nat}{ts:List Tr}(R:RS K B φ σ τ H)(hi:nth τ i=.ow ts):RS K B (φ.del i) σ (τ.set i (.fz (.lst ts))) H:=by
 have en:=R.ent i
 rw[hi] at en
 obtain⟨a,ws,e1,e2,e3,e4,r⟩:=en
 have hl:i<τ.length:=by
  by_cases h:i<τ.length
  ·exact h
  ·rw[yE (by omega)] at hi;cases hi
 have na:¬Av B (φ.del i) a:=fun z=>by
  rcases z with z | ⟨j,z⟩
  ·exact R.f0 a z e3
  ·obtain⟨n,z⟩:=zA z
   exact n (R.inj i j a ts hi e2 z).symm
 refine⟨R.f0,R.s0,R.ext,fun c s=>?_,fun j k c us hj f1 f2=>?_,fun j c e=>R.ow j c (zA e).2,by rw[xd2];exact R.len,fun j=>?_,fun p hp=>xZ (fun a o e n=>⟨e,fun z=>n (qz z)⟩) _ _ (R.gh p hp)⟩
 ·rcases s with s | ⟨j,s,hj⟩
  ·exact R.sst c (.inl s)
  ·obtain⟨hne,s'⟩:=zA s
   rw[yf hne] at hj
   exact R.sst c (.inr ⟨j,s',hj⟩)
 ·obtain⟨hne,f1⟩:=zA f1
  rw[yf hne] at hj
  exact R.inj j k c us hj f1 (zA f2).2
 ·by_cases e:j=i
  ·subst e
   rw[yz hl]
   exact⟨.ref a,e1,a,ws,rfl,na,e4,xO (fun a o e n=>⟨e,fun z=>n (qz z)⟩) _ _ r⟩
  ·rw[yf e]
   exact kS (R.ent j) (pJ e) (fun t v=>xZ (fun a o e n=>⟨e,fun z=>n (qz z)⟩) t v) (fun t v=>xO (fun a o e n=>⟨e,fun z=>n (qz z)⟩) t v) (fun _ _ _ _ _ z=>z) fun _ _ z=>z
def OkN (K:PySem.W.Frag)(g:TG)(d:DG):Prop:=∀(B:FB) (φ:Phi) (σ:St) (τ:TSt) (H:Hp) (F:Addr→Prop) (t:Tr) (v:V) (Q:St→Hp→Prop) (KK:TSt→Prop),RS K B φ σ τ H→(∀a,Av B φ a→F a)→Rep F H t v→d t τ KK →
 (∀ φ' σ' τ',RS K B φ' σ' τ' H→(∀a,Av B φ' a→Av B φ a)→KK τ'→Q σ' H)→g v σ H Q
def lO (K:PySem.W.Frag)(g:TGs)(d:DGs):Prop:=∀(B:FB) (φ:Phi) (σ:St) (τ:TSt) (H:Hp) (F:Addr→Prop) (t:List Tr) (v:List V) (Q:St→Hp→Prop) (KK:TSt→Prop),RS K B φ σ τ H→(∀a,Av B φ a→F a)→yQ F H t v→d t τ KK →
 (∀ φ' σ' τ',RS K B φ' σ' τ' H→(∀a,Av B φ' a→Av B φ a)→KK τ'→Q σ' H)→g v σ H Q
def eName (i:Nat):DG:=fun t τ KK=>KK (τ.set i (.fz t))
def xa7:DGs:=fun ts τ KK=>match ts with | []=>KK τ | _=>False
def cp (d:DG)(r:DGs):DGs:=fun ts τ KK=>match ts with | t::us=>d t τ fun τ'=>r us τ' KK | []=>False
def xc4 (n:Nat)(d:DGs):DG:=fun t τ KK=>match t with | .tup ts=>ts.length=n∧d ts τ KK | _=>False
theorem xl {i:Nat}:OkN K (jN i) (eName i):=fun B φ σ τ H F t v Q KK R hF r hd q =>
 q (φ.del i) _ _ (R.setFz (xZ (fun a o e n=>⟨e,fun z=>n (hF a z)⟩) _ _ r)) (fun a z=>qz z) hd
theorem yq:lO K xbz xa7:=fun B φ σ τ H F t v Q KK R hF r hd q=>by
 cases t with
 | nil=>exact⟨r,q φ σ τ R (fun _ z=>z) hd⟩
 | cons _ _=>exact hd.elim
theorem xr {g:TG}{gs:TGs}{d:DG}{ds:DGs}(h:OkN K g d)(hs:lO K gs ds):lO K (lG g gs) (cp d ds):=fun B φ σ τ H F t v Q KK R hF r hd q=>by
 cases t with
 | nil=>exact hd.elim
 | cons t ts =>
  obtain⟨w,r',e,h1,h2⟩:=r
  exact⟨w,r',e,h B φ σ τ H F t w _ _ R hF h1 hd fun φ' σ' τ' R' ha k=>hs B φ' σ' τ' H F ts r' Q KK R' (fun a z=>hF a (ha a z)) h2 k fun φ2 σ2 τ2 R2 ha2 k2=>q φ2 σ2 τ2 R2 (fun a z=>ha a (ha2 a z)) k2⟩
theorem zd {n:Nat}{gs:TGs}{ds:DGs}(h:lO K gs ds):OkN K (xbh K n gs) (xc4 n ds):=fun B φ σ τ H F t v Q KK R hF r hd q=>by
 cases t with
 | tup ts =>
  obtain⟨a,ws,e,n,ha,rl⟩:=r
  exact⟨a,ws,e,SqT.of ha,by rw[←rl.len];exact hd.1,h B φ σ τ H F ts ws Q KK R hF rl hd.2 q⟩
 | _=>exact hd.elim
theorem OkN.g {g:TG}{d:DG}(h:OkN K g d):OkG K g d:=fun B φ σ τ H t v Q KK R r hd q=>h B φ σ τ H (Av B φ) t v Q KK R (fun _ z=>z) r hd fun φ' σ' τ' R' ha k=>q φ' σ' τ' H R' ha (fun _ _ e _=>e) k
def bP:DS:=fun G τ=>G.nx τ
def pH (a b:DS):DS:=fun G τ=>a { G with nx:=b G } τ
def lT:DS:=fun _ _=>False
def xb6 (d:DE):DS:=fun G τ=>d τ G.rt
def sIf (c:DT)(a b:DS):DS:=fun G τ=>c τ fun k=>if k=true then a G τ else b G τ
def xcn (i:Nat)(d:DE):DS:=fun G τ=>d τ fun t=>G.nx (τ.set i (.fz t))
def xbo (i:Nat)(d:DE):DS:=fun G τ=>d τ fun t=>match t with | .lst ts=>G.nx (τ.set i (.ow ts)) | _=>False
def xc7 (d:DE)(g:DG):DS:=fun G τ=>d τ fun t=>g t τ G.nx
def xc5 (i j:Nat)(d:DA):DS:=fun G τ=>d τ fun ts=>match ts with | [t,u]=>G.nx ((τ.set i (.fz t)).set j (.fz u)) | _=>False
def xb1 (d:DE):DS:=fun G τ=>d τ fun _=>G.nx τ
def xcA (i:Nat)(d:DE):DS:=fun G τ=>match nth τ i with | .ow ts=>d τ fun t=>ts.length<sizeLine∧G.nx (τ.set i (.ow (ts++[t]))) | _=>False
def xcw (i:Nat)(a:DS):DS:=fun G τ=>match nth τ i with | .ow ts=>a G (τ.set i (.fz (.lst ts))) | _=>False
variable {fr:Bool}
theorem xQ:OkS K fr xay bP:=fun B φ σ τ H E G R hd e=>e.nx φ σ τ H R hd
theorem mS:OkS K fr pZ lT:=fun B φ σ τ H E G R hd e=>hd.elim
theorem xk {a b:TS}{da db:DS}(ha:OkS K fr a da)(hb:OkS K fr b db):OkS K fr (xbd a b) (pH da db):=fun B φ σ τ H E G R hd e =>
 ha B φ σ τ H _ _ R hd ⟨fun φ' σ' τ' H' R' k=>hb B φ' σ' τ' H' E G R' k e,e.bk,e.ct,e.rt⟩
theorem xE {b:Bool}{te:TE}{d:DE}(h:OkE K b te d):OkS K false (xa9 te) (xb6 d):=fun B φ σ τ H E G R hd e =>
 h B φ σ τ H _ _ R hd fun t v H1 x1 k1 r1=>e.rt t v H1 (xZ (fun a o e n=>⟨e,fun z=>n (.inl z)⟩) _ _ (xb7 R r1)) (R.hx x1).extB k1 fun z=>nomatch z
theorem qu {te:TE}{d:DE}(h:OkF K te d):OkS K fr (xa9 te) (xb6 d):=fun B φ σ τ H E G R hd e =>
 h B φ σ τ H _ _ R hd fun ts a ws H1 x1 k1 h1 h2 h3=>by
  have z0:B.H0 a=none:=by
   cases q:B.H0 a with
   | none=>rfl
   | some o =>
    by_cases s:B.S0 a
    ·exact absurd h1 (R.sst a (.inl s)).ne_none
    ·rw[R.ext a o q s] at h1;cases h1
  have na:¬B.F0 a:=fun z=>R.dom (.inl z) h1
  have rr:yQ (fun c=>B.F0 c∨c=a) H1 ts ws:=xO (fun c o e n=>⟨e,fun z=>n (z.elim (fun z=>.inl (.inl z)) .inr)⟩) _ _ h3
  exact e.rt (.lst ts) _ H1 ⟨a,ws,rfl,na,h2,xO (fun c o e n=>⟨e,fun z=>n (.inl z)⟩) _ _ rr⟩ (R.hx x1).extB k1 fun _=>⟨a,ts,ws,rfl,rfl,z0,h2,rr⟩
def xaS (i:Nat):DS:=fun G τ=>match nth τ i with | .ow ts=>G.rt (.lst ts) | _=>False
theorem qd {i:Nat}:OkS K fr (xa9 (fb i)) (xaS i):=fun B φ σ τ H E G R hd e=>by
 have en:=R.ent i
 unfold xaS at hd
 revert en hd
 cases hi:nth τ i with
 | ow ts =>
  intro hd ⟨a,ws,e1,e2,e3,e4,r⟩
  have na:¬B.F0 a:=fun z=>R.f0 a z e3
  have rr:yQ (fun c=>B.F0 c∨c=a) H ts ws:=xO (fun c o e n=>⟨e,fun z=>n (z.elim .inl fun z=>.inr ⟨i,by rw[z];exact e2⟩)⟩) _ _ r
  exact⟨_,e1,e.rt (.lst ts) _ H ⟨a,ws,rfl,na,e4,xO (fun c o e n=>⟨e,fun z=>n (.inl z)⟩) _ _ rr⟩ R.extB hd fun _=>⟨a,ts,ws,rfl,rfl,e3,e4,rr⟩⟩
 | _=>exact fun z _=>z.elim
theorem yw {c:TT}{a b:TS}{dc:DT}{da db:DS}(hc:OkT K c dc)(ha:OkS K fr a da)(hb:OkS K fr b db):OkS K fr (xcj c a b) (sIf dc da db):=fun B φ σ τ H E G R hd e =>
 hc B φ σ τ H _ _ R hd fun k H1 x1 k1=>by
  cases k with
  | true=>exact tO (ha B φ σ τ H1 E G (R.hx x1) k1 e)
  | false=>exact sR (hb B φ σ τ H1 E G (R.hx x1) k1 e)
theorem yg {i:Nat}{te:TE}{d:DE}(h:OkE K true te d):OkS K fr (oA te (jN i)) (xcn i d):=fun B φ σ τ H E G R hd e =>
 h B φ σ τ H _ _ R hd fun t v H1 x1 k1 r1=>e.nx _ _ _ H1 ((R.hx x1).setFz r1) k1
theorem wB {i:Nat}{te:TE}{d:DE}(h:OkF K te d):OkS K fr (oA te (jN i)) (xbo i d):=fun B φ σ τ H E G R hd e =>
 h B φ σ τ H _ _ R hd fun ts a ws H1 x1 k1 h1 h2 h3=>by
  have z0:B.H0 a=none:=by
   cases q:B.H0 a with
   | none=>rfl
   | some o =>
    by_cases s:B.S0 a
    ·exact absurd h1 (R.sst a (.inl s)).ne_none
    ·rw[R.ext a o q s] at h1;cases h1
  refine e.nx _ _ _ H1 (R.setNew (x:=.ow ts) x1 h1 (by rw[h2];exact fun z=>nomatch z) (fun z=>nomatch z) ⟨a,ws,rfl,kP,z0,h2,xO (fun c o e n=>⟨e,fun z=>n ?_⟩) _ _ h3⟩) k1
  rcases z with z | ⟨j,z⟩
  ·exact .inl (.inl z)
  ·rcases zC z with ⟨_,z⟩ | ⟨_,z⟩
   ·exact .inr z
   ·exact .inl (.inr ⟨j,z⟩)
theorem qZ {te:TE}{g:TG}{d:DE}{dg:DG}(h:OkE K true te d)(hg:OkG K g dg):OkS K fr (oA te g) (xc7 d dg):=fun B φ σ τ H E G R hd e =>
 h B φ σ τ H _ _ R hd fun t v H1 x1 k1 r1=>hg B φ σ τ H1 t v _ _ (R.hx x1) r1 k1 fun φ' σ' τ' H' R' _ _ k=>e.nx φ' σ' τ' H' R' k
theorem uV {i j:Nat}{ta:TA}{da:DA}{n:Nat}(h:OkA K true n ta da):OkS K fr (xb5 i j ta) (xc5 i j da):=fun B φ σ τ H E G R hd e =>
 h B φ σ τ H _ _ R hd fun ts vs H1 x1 k1 l1 r1=>by
  cases ts with
  | nil=>exact k1.elim
  | cons t ts =>
   cases ts with
   | nil=>exact k1.elim
   | cons u ts =>
    cases ts with
    | cons _ _=>exact k1.elim
    | nil =>
     obtain⟨v,w,rfl,h1,h2⟩:=mO r1
     exact⟨v,w,rfl,e.nx _ _ _ H1 (((R.hx x1).setFz h1).setFz (xZ (fun a o e n=>⟨e,fun z=>n (qz z)⟩) _ _ h2)) k1⟩
theorem cX {b:Bool}{te:TE}{d:DE}(h:OkE K b te d):OkS K fr (t5 te) (xb1 d):=fun B φ σ τ H E G R hd e =>
 h B φ σ τ H _ _ R hd fun t v H1 x1 k1 r1=>e.nx φ σ τ H1 (R.hx x1) k1
theorem wM {i:Nat}{te:TE}{d:DE}(h:OkE K true te d):OkS K fr (t5 (tBM K "list" ma (fb i) (zL te dY))) (xcA i d):=fun B φ σ τ H E G R hd e=>by
 have en:=R.ent i
 unfold xcA at hd
 revert en hd
 cases hi:nth τ i with
 | ow ts =>
  intro hd ⟨a,ws,e1,e2,e3,e4,r⟩
  refine⟨_,e1,.inl ⟨rfl,_,SqL.of e4⟩,h B φ σ τ H _ _ R hd fun t v H1 x1 k1 r1=>?_⟩
  obtain⟨ws',f4,f5,_⟩:=kR R x1 hi e1
  exact⟨a,ws',v,rfl,rfl,f4,by rw[←f5.len];exact k1.1,e.nx φ σ _ _ ((R.hx x1).wrOw hi e1 (f5.app (show yQ _ _ [t] [v] from⟨v,[],rfl,r1,rfl⟩))) k1.2⟩
 | _=>exact fun z _=>z.elim
theorem oz {i:Nat}{a:TS}{da:DS}(h:OkS K fr a da):OkS K fr a (xcw i da):=fun B φ σ τ H E G R hd e=>by
 unfold xcw at hd
 revert hd
 cases hi:nth τ i with
 | ow ts=>exact fun hd=>h B _ σ _ H E G (R.freeze hi) hd e
 | _=>exact fun z=>z.elim
end
end L2
namespace L2
open PySem PySem.Spec PyProof.Rows
abbrev DI:=TSt→(List Tr→Prop)→Prop
def cS (H H':Hp):Prop:=H'=H∨∃q o,H q=none∧H'=upd H q o
structure ItC (F S:Addr→Prop)(J:It)(ts:List Tr)(Src:Hp→Prop):Prop where
 stab:∀H H',Src H→(∀a o,H a=some o→¬S a→H' a=some o)→Src H'
 go:∀i H,Src H→i<ts.length→J.go i H
 stop:∀H,Src H→J.stop ts.length H
 yld:∀i H x H',Src H→(∀a,F a→H a≠none)→i<ts.length→J.yld i H x H'→cS H H'∧∃t,ts[i]? = some t∧Rep F H' t x
structure ItL (J:It)(ts:List Tr)(G:List (Tr×V)):Prop where
 go:∀F H i,(∀p∈G,Rep F H p.1 p.2)→i<ts.length→J.go i H
 stop:∀F H,(∀p∈G,Rep F H p.1 p.2)→J.stop ts.length H
 yld:∀F i H x H',(∀p∈G,Rep F H p.1 p.2)→(∀a,F a→H a≠none)→i<ts.length→J.yld i H x H'→cS H H'∧∃t,ts[i]? = some t∧Rep F H' t x
theorem ItL.c {J:It}{ts:List Tr}{G:List (Tr×V)}(h:ItL J ts G){F S:Addr→Prop}(hS:∀a,S a→F a):ItC F S J ts (fun H=>∀p∈G,Rep F H p.1 p.2) where
 stab:=fun H H' s k p hp=>xZ (fun a o e n=>⟨k a o e fun z=>n (hS a z),n⟩) _ _ (s p hp)
 go:=fun i H s hi=>h.go F H i s hi
 stop:=fun H s=>h.stop F H s
 yld:=fun i H x H' s d hi y=>h.yld F i H x H' s d hi y
def OkI (K:PySem.W.Frag)(b:Bool)(wi:TI)(d:DI):Prop:=∀(B:FB) (φ:Phi) (σ:St) (τ:TSt) (H:Hp) (R:It→Hp→Prop) (KK:List Tr→Prop),RS K B φ σ τ H→d τ KK →
 (∀J ts G H',HX B φ τ H H'→KK ts→ItL J ts G→(∀p∈G,Rep (AvB b B φ τ) H' p.1 p.2)→R J H')→wi σ H R
def xaI (K:PySem.W.Frag)(wi:TI)(d:DI):Prop:=∀(B:FB) (φ:Phi) (σ:St) (τ:TSt) (H:Hp) (R:It→Hp→Prop) (KK:List Tr→Prop),RS K B φ σ τ H→d τ KK →
 (∀J ts Src H',HX B φ τ H H'→KK ts→ItC (Av B φ) (SA B φ τ) J ts Src→Src H'→R J H')→wi σ H R
section
variable {K:PySem.W.Frag} {B:FB} {φ:Phi} {σ:St} {τ:TSt} {H H' H'':Hp} {fr:Bool}
theorem OkI.c {wi:TI}{d:DI}(h:OkI K true wi d):xaI K wi d:=fun B φ σ τ H R KK Rs hd q=>h B φ σ τ H R KK Rs hd fun J ts G H' x k i s=>q J ts _ H' x k (i.c fun a z=>Rs.sAv z) s
def xc9 (d:DE):DI:=fun τ KK=>d τ fun x=>match x with | .tup ts=>KK ts | .lst ts=>KK ts | _=>False
theorem cU {a:Addr}{ts:List Tr}:ItL (Itl K a) ts [(.lst ts,.ref a)] where
 go:=fun F H i s hi=>by
  obtain⟨a',ws,e,n,h,r⟩:=s _ xee
  cases e
  obtain⟨w,e1,_⟩:=r.getT (xdO hi)
  exact⟨ws,w,SqL.of h,e1⟩
 stop:=fun F H s=>by
  obtain⟨a',ws,e,n,h,r⟩:=s _ xee
  cases e
  exact⟨ws,SqL.of h,by rw[←r.len];exact xeA _⟩
 yld:=fun F i H x H' s d hi y=>by
  obtain⟨a',ws,e,n,h,r⟩:=s _ xee
  cases e
  obtain⟨rfl,y⟩:=y
  obtain⟨t,e1,e2⟩:=r.get (y ws (SqL.of h))
  exact⟨.inl rfl,t,e1,e2⟩
theorem oV {a:Addr}{ts:List Tr}:ItL (Itt K a) ts [(.tup ts,.ref a)] where
 go:=fun F H i s hi=>by
  obtain⟨a',ws,e,n,h,r⟩:=s _ xee
  cases e
  obtain⟨w,e1,_⟩:=r.getT (xdO hi)
  exact⟨ws,w,SqT.of h,e1⟩
 stop:=fun F H s=>by
  obtain⟨a',ws,e,n,h,r⟩:=s _ xee
  cases e
  exact⟨ws,SqT.of h,by rw[←r.len];exact xeA _⟩
 yld:=fun F i H x H' s d hi y=>by
  obtain⟨a',ws,e,n,h,r⟩:=s _ xee
  cases e
  obtain⟨rfl,y⟩:=y
  obtain⟨t,e1,e2⟩:=r.get (y ws (SqT.of h))
  exact⟨.inl rfl,t,e1,e2⟩
def xbU (i:Nat):DI:=fun τ KK=>match nth τ i with | .ow ts=>KK ts | _=>False
theorem c7 {i:Nat}:xaI K (xbQ K (fb i)) (xbU i):=fun B φ σ τ H R KK Rs hd q=>by
 have en:=Rs.ent i
 unfold xbU at hd
 revert en hd
 cases hi:nth τ i with
 | ow ts =>
  intro hd ⟨a,ws,e1,e2,e3,e4,r⟩
  refine⟨_,e1,a,rfl,⟨ws,SqL.of e4⟩,q _ ts (fun H=>H a=some (.lst ws)∧yQ (Av B φ) H ts ws) H (HX.refl Rs) hd ⟨?_,?_,?_,?_⟩ ⟨e4,r⟩⟩
  ·intro H1 H2 ⟨s1,s2⟩ k
   exact⟨k a _ s1 fun z=>aZ Rs hi e2 e3 (.inr z),xO (fun c o e n=>⟨k c o e fun z=>n (Rs.sAv z),n⟩) _ _ s2⟩
  ·intro j H1 ⟨s1,s2⟩ hj
   obtain⟨w,f1,_⟩:=s2.getT (xdO hj)
   exact⟨ws,w,SqL.of s1,f1⟩
  ·intro H1 ⟨s1,s2⟩
   exact⟨ws,SqL.of s1,by rw[←s2.len];exact xeA _⟩
  ·intro j H1 x H2 ⟨s1,s2⟩ _ hj ⟨f,y⟩
   subst f
   obtain⟨t,g1,g2⟩:=s2.get (y ws (SqL.of s1))
   exact⟨.inl rfl,t,g1,g2⟩
 | _=>exact fun z _=>z.elim
def bG (lo:Int)(n:Nat):List Tr:=(List.range n).map fun(k:Nat)=>Tr.int (lo+k)
theorem zm (lo:Int)(n:Nat):(bG lo n).length=n:=by unfold bG;rw[xdZ,List.length_range]
theorem qs {lo:Int}{n i:Nat}(h:i<n):(bG lo n)[i]? = some (.int (lo+i)):=by unfold bG;rw[xdR,List.getElem?_range h];rfl
theorem dA {lo:Int}{n:Nat}:ItL (Itr lo n) (bG lo n) [] where
 go:=fun F H i s hi=>by rw[zm] at hi;exact hi
 stop:=fun F H s=>by rw[zm];exact xeA _
 yld:=fun F i H x H' s d hi y=>by
  rw[zm] at hi
  obtain⟨rfl,rfl⟩:=y
  exact⟨.inl rfl,_,qs hi,rfl⟩
def oU (d:DA):DI:=fun τ KK=>d τ fun xs=>match xs with | [.int j]=>(-(2 ^ 62)≤j∧j<2 ^ 62)∧KK (bG 0 j.toNat) | _=>False
def lg (d:DA):DI:=fun τ KK=>d τ fun xs=>match xs with | [.int i,.int j]=>(-(2 ^ 62)≤i∧i<2 ^ 62∧-(2 ^ 62)≤j∧j<2 ^ 62)∧KK (bG i (j-i).toNat) | _=>False
theorem qK {b:Bool}{n:Nat}{ta:TA}{da:DA}(h:OkA K b n ta da):OkI K true (xaQ ta) (oU da):=fun B φ σ τ H R KK Rs hd q =>
 h B φ σ τ H _ _ Rs hd fun ts vs H1 x1 k1 l1 r1=>by
  split at k1
  ·rename_i j
   obtain⟨v,rfl,e⟩:=gP r1
   exact⟨j,by rw[show v=.int j from e],k1.1.1,k1.1.2,q _ _ [] H1 x1 k1.2 dA fun p hp=>absurd hp (by simp)⟩
  ·exact k1.elim
theorem vn {b:Bool}{n:Nat}{ta:TA}{da:DA}(h:OkA K b n ta da):OkI K true (xaE ta) (lg da):=fun B φ σ τ H R KK Rs hd q =>
 h B φ σ τ H _ _ Rs hd fun ts vs H1 x1 k1 l1 r1=>by
  split at k1
  ·rename_i i j
   obtain⟨v,w,rfl,e,e'⟩:=mO r1
   exact⟨i,j,by rw[show v=.int i from e,show w=.int j from e'],k1.1,q _ _ [] H1 x1 k1.2 dA fun p hp=>absurd hp (by simp)⟩
  ·exact k1.elim
def pS (dg:DG)(body:DS)(G:jn):List Tr→TSt→Prop
 | [],τ=>G.nx τ
 | x::xs,τ=>dg x τ fun τ'=>body { G with nx:=pS dg body G xs,ct:=pS dg body G xs,bk:=G.nx } τ'
def xbs (di:DI)(dg:DG)(body:DS):DS:=fun G τ=>di τ fun xs=>pS dg body G xs τ
def FB.more (B:FB)(G:List (Tr×V)):FB:={ B with G0:=G++B.G0 }
theorem RS.more (R:RS K B φ σ τ H){G:List (Tr×V)}(h:∀p∈G,Rep (Av B φ) H p.1 p.2):RS K (B.more G) φ σ τ H :=
 ⟨R.f0,R.s0,R.ext,R.sst,R.inj,R.ow,R.len,R.ent,fun p hp=>(xd_.mp hp).elim (h p) (R.gh p)⟩
theorem RS.less {G:List (Tr×V)}(R:RS K (B.more G) φ σ τ H):RS K B φ σ τ H∧∀p∈G,Rep (Av B φ) H p.1 p.2 :=
 ⟨⟨R.f0,R.s0,R.ext,R.sst,R.inj,R.ow,R.len,R.ent,fun p hp=>R.gh p (xeb _ hp)⟩,fun p hp=>R.gh p (xea _ hp)⟩
theorem cS.hx (R:RS K B φ σ τ H)(g:cS H H'):HX B φ τ H H':=by
 rcases g with rfl | ⟨q,o,e,rfl⟩
 ·exact HX.refl R
 ·exact HX.new R e o
theorem zb {wi:TI}{g:TG}{tb:TS}{di:DI}{dg:DG}{db:DS}(hi:OkI K true wi di)(hg:OkG K g dg)(hb:OkS K fr tb db):OkS K fr (xcC wi g tb) (xbs di dg db):=fun B φ σ τ H E G R hd e =>
 hi B φ σ τ H _ _ R hd fun J ts Gh H1 x1 k1 it gh=>by
  let W:Nat→St→Hp→Prop:=fun i σ' H'=>i≤ts.length∧∃ φ' τ',RS K (B.more Gh) φ' σ' τ' H'∧pS dg db G (ts.drop i) τ'
  refine⟨fun i m σ' H'=>m=ts.length-i∧W i σ' H',⟨_,rfl,xeL _,φ,τ,(R.hx x1).more gh,k1⟩,?_⟩
  rintro i m σ' H' ⟨rfl,hle,φ',τ',R',f⟩
  obtain⟨R0,g0⟩:=R'.less
  by_cases hlt:i<ts.length
  ·refine .inr ⟨it.go _ H' i g0 hlt,W (i+1),fun σ2 H2 w=>⟨_,by omega,rfl,w⟩,fun x H2 y=>?_⟩
   obtain⟨gr,t,ht,rt⟩:=it.yld _ i H' x H2 g0 (fun a z=>R0.dom z) hlt y
   have hx:=gr.hx R'
   have R2:=R'.hx hx
   have ed:ts.drop i=t::ts.drop (i+1):=by
    rw[xdB hlt]
    rw[xdO hlt] at ht
    cases ht;rfl
   rw[ed] at f
   refine hg (B.more Gh) φ' σ' τ' H2 t x _ _ R2 rt f fun φ3 σ3 τ3 H3 R3 _ _ k3=>?_
   exact hb (B.more Gh) φ3 σ3 τ3 H3 _ _ R3 k3 ⟨fun φ4 σ4 τ4 H4 R4 k4=>⟨hlt,φ4,τ4,R4,k4⟩,fun φ4 σ4 τ4 H4 R4 k4=>e.nx φ4 σ4 τ4 H4 R4.less.1 k4,fun φ4 σ4 τ4 H4 R4 k4=>⟨hlt,φ4,τ4,R4,k4⟩,fun t v H r x k f=>e.rt t v H r ⟨x.ext,x.st⟩ k f⟩
  ·have ei:i=ts.length:=by omega
   subst ei
   rw[xdC] at f
   exact .inl ⟨it.stop _ H' g0,e.nx φ' σ' τ' H' R0 f⟩
def lr (c:DT)(body:DS)(G:jn):Nat→TSt→Prop
 | 0,_=>False
 | n+1,τ=>c τ fun b=>if b=true then body { G with nx:=lr c body G n,ct:=lr c body G n,bk:=G.nx } τ else G.nx τ
def pq (c:DT)(body:DS):DS:=fun G τ=>∃n,lr c body G n τ
theorem qb {c:TT}{tb:TS}{dc:DT}{db:DS}(hc:OkT K c dc)(hb:OkS K fr tb db):OkS K fr (pQ c tb) (pq dc db):=fun B φ σ τ H E G R hd e=>by
 obtain⟨n,hd⟩:=hd
 refine⟨fun m σ' H'=>∃ φ' τ',RS K B φ' σ' τ' H'∧lr dc db G m τ',⟨n,φ,τ,R,hd⟩,?_⟩
 rintro m σ' H' ⟨φ',τ',R',f⟩
 cases m with
 | zero=>exact f.elim
 | succ m =>
  refine hc B φ' σ' τ' H' _ _ R' f fun b H1 x1 k1=>?_
  cases b with
  | true =>
   refine tO ⟨fun σ2 H2=>∃ φ2 τ2,RS K B φ2 σ2 τ2 H2∧lr dc db G m τ2,fun σ2 H2 w=>⟨m,by omega,w⟩,?_⟩
   exact hb B φ' σ' τ' H1 _ _ (R'.hx x1) k1 ⟨fun φ4 σ4 τ4 H4 R4 k4=>⟨φ4,τ4,R4,k4⟩,fun φ4 σ4 τ4 H4 R4 k4=>e.nx φ4 σ4 τ4 H4 R4 k4,fun φ4 σ4 τ4 H4 R4 k4=>⟨φ4,τ4,R4,k4⟩,e.rt⟩
  | false=>exact sR (e.nx φ' σ' τ' H1 (R'.hx x1) k1)
def sY (dg:DG)(dc:DT)(de:DE)(τi:TSt)(KK:List Tr→Prop):List Tr→List Tr→Prop
 | [],acc=>KK acc
 | x::xs,acc=>dg x τi fun τ2=>dc τ2 fun b=>if b=true then de τ2 fun y=>sY dg dc de τi KK xs (acc++[y]) else sY dg dc de τi KK xs acc
def xca:TV→TV
 | .ow _=>.un
 | x=>x
def vT (tau:List (Option Nat))(τ:TSt):TSt:=tau.map fun o=>match o with | some j=>xca (nth τ j) | none=>.un
def xbr (tau:List (Option Nat))(di:DI)(dg:DG)(dc:DT)(de:DE):DE:=fun τ KK=>di τ fun xs=>xs.length<sizeLine∧sY dg dc de (vT tau τ) (fun ys=>KK (.lst ys)) xs []
def mG:DT:=fun _ KK=>KK true
theorem y4:OkT K xaH mG:=fun B φ σ τ H Q KK R hd q=>q true H (HX.refl R) hd
def FB.inner (B:FB)(φ:Phi)(τ:TSt)(H:Hp):FB:=⟨Av B φ,SA B φ τ,H,[]⟩
def dW (tau:List (Option Nat))(φ:Phi)(τ:TSt):Phi:=fun i=>match tau[i]? with | some (some j)=>(match nth τ j with | .st=>φ j | _=>none) | _=>none
theorem fP {tau:List (Option Nat)}:∀ {i:Nat},nth (vT tau τ) i=match tau[i]? with | some (some j)=>xca (nth τ j) | _=>.un:=by
 intro i
 by_cases h:i<tau.length
 ·have h':i<(vT tau τ).length:=by unfold vT;rw[xdZ];exact h
  rw[qp h',xdO h]
  simp only[vT,List.getElem_map]
  cases tau[i]<;>rfl
 ·rw[yE (by unfold vT;rw[xdZ];omega),xdP (by omega)]
theorem gi {tau:List (Option Nat)}{i j:Nat}{v:V}(h:tau[i]? = some (some j))(e:σ[j]? = some (some v)):(vC tau σ)[i]? = some (some v):=by
 unfold vC
 rw[xdR,h]
 simp only[Option.map_some,e,xeM]
theorem RS.inner {tau:List (Option Nat)}(R:RS K B φ σ τ H):RS K (B.inner φ τ H) (dW tau φ τ) (vC tau σ) (vT tau τ) H:=by
 have hphi:∀i a,dW tau φ τ i=some a→∃j,tau[i]? = some (some j)∧nth τ j=.st∧φ j=some a:=fun i a e=>by
  unfold dW at e
  split at e
  ·rename_i j hj
   split at e
   ·rename_i hs;exact⟨j,hj,hs,e⟩
   ·cases e
  ·cases e
 have hav:∀a,Av (B.inner φ τ H) (dW tau φ τ) a→Av B φ a:=fun a z=>by
  rcases z with z | ⟨i,z⟩
  ·exact z
  ·obtain⟨j,_,_,e⟩:=hphi i a z
   exact .inr ⟨j,e⟩
 refine⟨fun a z=>R.dom z,fun a z=>R.sAv z,fun a o e _=>e,fun a s=>?_,fun i j a ts hi e1 _=>?_,fun i a e=>?_,?_,fun i=>?_,fun p hp=>absurd hp (by simp[FB.inner])⟩
 ·rcases s with s | ⟨i,s,_⟩
  ·exact R.sst a s
  ·obtain⟨j,_,hs,e⟩:=hphi i a s
   exact R.sst a (.inr ⟨j,e,hs⟩)
 ·exfalso
  rw[fP] at hi
  split at hi
  ·rename_i j hj
   revert hi
   cases nth τ j<;>intro hi<;>cases hi
  ·cases hi
 ·obtain⟨j,_,_,e⟩:=hphi i a e
  exact R.ow j a e
 ·unfold vC vT;rw[xdZ,xdZ]
 ·rw[fP]
  split
  ·rename_i j hj
   have en:=R.ent j
   cases hn:nth τ j with
   | un=>trivial
   | ow ts=>trivial
   | fz t =>
    rw[hn] at en
    obtain⟨v,e,r⟩:=en
    exact⟨v,gi hj e,xZ (fun a o e n=>⟨e,fun z=>n (hav a z)⟩) _ _ r⟩
   | st =>
    rw[hn] at en
    obtain⟨p,e1,e2,e3⟩:=en
    refine⟨p,gi hj e1,?_,.inl (.inr ⟨j,e2,hn⟩)⟩
    unfold dW
    simp only[hj,hn];exact e2
   | sc ns =>
    rw[hn] at en
    obtain⟨a,e,l,q⟩:=en
    exact⟨a,gi hj e,l,q⟩
   | ob a =>
    rw[hn] at en
    exact gi hj en
  ·trivial
theorem yU {wi:TI}{tau:List (Option Nat)}{g:TG}{tc:TT}{te:TE}{di:DI}{dg:DG}{dc:DT}{de:DE}{b:Bool}(hi:xaI K wi di)(hg:OkN K g dg)(hc:OkT K tc dc)(he:OkE K b te de) :
  OkF K (lF wi tau g tc te) (xbr tau di dg dc de):=fun B φ σ τ H Q KK R hd q =>
 hi B φ σ τ H _ _ R hd fun J ts Src H1 x1 k1 it s1=>by
  refine⟨fun i m ys H'=>m=ts.length-i∧i≤ts.length∧ys.length≤i∧HX B φ τ H H'∧Src H'∧∃acc,yQ (Av B φ) H' acc ys∧sY dg dc de (vT tau τ) (fun ys=>KK (.lst ys)) (ts.drop i) acc,⟨_,rfl,xeL _,xeL _,x1,s1,[],rfl,k1.2⟩,?_⟩
  rintro i m ys H' ⟨rfl,hle,hys,x,s,acc,ra,f⟩
  have R':=R.hx x
  by_cases hlt:i<ts.length
  ·refine .inr ⟨it.go i H' s hlt,by have:=k1.1;omega,fun v H2 y=>?_⟩
   obtain⟨gr,t,ht,rt⟩:=it.yld i H' v H2 s (fun a z=>R'.dom z) hlt y
   have hx:=gr.hx R'
   have R2:=R'.hx hx
   have ed:ts.drop i=t::ts.drop (i+1):=by
    rw[xdB hlt]
    rw[xdO hlt] at ht
    cases ht;rfl
   rw[ed] at f
   refine hg (B.inner φ τ H2) _ _ _ H2 (Av B φ) t v _ _ R2.inner (fun a z=>?_) rt f fun φ3 σ3 τ3 R3 ha k3=>?_
   ·rcases z with z | ⟨j,z⟩
    ·exact z
    ·unfold dW at z
     split at z
     ·split at z
      ·exact .inr ⟨_,z⟩
      ·cases z
     ·cases z
   have hsa:∀a,SA (B.inner φ τ H2) φ3 τ3 a→SA B φ τ a:=fun a z=>by
    rcases z with z | ⟨j,z,hj⟩
    ·exact z
    ·have en:=R3.ent j
     rw[hj] at en
     obtain⟨p,e1,e2,e3⟩:=en
     rw[z] at e2;cases e2
     rcases e3 with e3 | e3
     ·exact e3
     ·exact absurd e3 (R3.sst a (.inr ⟨j,z,hj⟩)).ne_none
   have hxo:∀ {H3 H4:Hp},HX (B.inner φ τ H2) φ3 τ3 H3 H4→HX B φ τ H3 H4:=fun {H3 H4} h=>⟨fun a o e n=>h.keep a o e fun z=>n (hsa a z),fun a z=>h.st a (.inl z)⟩
   refine hc _ φ3 σ3 τ3 H2 _ _ R3 k3 fun c H3 x3 k4=>?_
   have x23:=hxo x3
   have s3:=it.stab _ _ (it.stab _ _ s fun a o e n=>hx.keep a o e n) fun a o e n=>x23.keep a o e n
   cases c with
   | false =>
    refine sR ⟨_,by omega,rfl,hlt,by omega,(x.trans hx).trans x23,s3,acc,(hx.trans x23).repL (fun a z=>R.sAv z) ra,?_⟩
    simpa using k4
   | true =>
    refine tO (he _ φ3 σ3 τ3 H3 _ _ (R3.hx x3) k4 fun u w H4 x4 k5 r5=>?_)
    have x34:=hxo x4
    refine⟨_,by omega,rfl,hlt,by rw[xdU,xd3];omega,((x.trans hx).trans x23).trans x34,it.stab _ _ s3 fun a o e n=>x34.keep a o e n,acc++[u],(((hx.trans x23).trans x34).repL (fun a z=>R.sAv z) ra).app (show yQ _ _ [u] [w] from⟨w,[],rfl,?_,rfl⟩),k5⟩
    refine xZ (fun a o e n=>⟨e,fun z=>n ?_⟩) _ _ r5
    cases b with
    | true=>exact .inl z
    | false=>exact .inl z
  ·have ei:i=ts.length:=by omega
   subst ei
   rw[xdC] at f
   refine .inl ⟨it.stop H' s,fun p hp=>q acc p ys _ (x.trans (HX.new R' hp _)) f (x.none hp) xM (vt hp ra)⟩
end
end L2
namespace L2
open PySem PySem.Spec PyProof.Rows
def startT (N:List Str):Bool→List Tr→TSt
 | true,ts=>.st::(ts.map TV.fz++List.replicate (N.length-(ts.length+1)) .un)
 | false,ts=>ts.map TV.fz++List.replicate (N.length-ts.length) .un
theorem qH {ts:List Tr}{n i:Nat}{x:TV}(h:nth (ts.map TV.fz++List.replicate n .un) i=x):x=.un∨∃t,ts[i]? = some t∧x=.fz t:=by
 by_cases hi:i<ts.length
 ·right
  rw[qp (by simp;omega),List.getElem_append_left (by simpa using hi),List.getElem_map] at h
  exact⟨_,xdO hi,h.symm⟩
 ·left
  by_cases h2:i<ts.length+n
  ·rw[qp (by simp;omega),List.getElem_append_right (by simp;omega),List.getElem_replicate] at h
   exact h.symm
  ·rw[yE (by simp;omega)] at h
   exact h.symm
theorem qq {N:List Str}{vs:List V}{i:Nat}{v:V}(h:vs[i]? = some v):(start N vs)[i]? = some (some v):=by
 unfold start
 have hi:=(xdQ.mp h).1
 rw[xdN (by simpa using hi),xdR,h];rfl
theorem jr {N:List Str}{vs:List V}(h:vs.length≤N.length):(start N vs).length=N.length:=by
 unfold start;rw[xdU,xdZ,List.length_replicate];omega
section
variable {P:Program} {w:World} {K:PySem.W.Frag} {mg:Str→Option Value} {base:Heap} {k n:Nat} {x qual:Str} {st:Stmt} {f:Addr} {fd:FuncData} {N ps:List Str} {fr:Bool} {sp:TSp}
theorem nA {F S:Addr→Prop}{H:Hp}{ts:List Tr}{us:List V}(hF:∀a,F a→H a≠none)(hS:∀a,S a→F a)(hst:∀a,S a→tL a H)(r:yQ F H ts us)(hl:ts.length≤N.length) :
  RS K ⟨F,S,H,[]⟩ (fun _=>none) (start N us) (startT N false ts) H where
 f0:=hF
 s0:=hS
 ext:=fun a o e _=>e
 sst:=fun a s=>by
  rcases s with s | ⟨i,s,_⟩
  ·exact hst a s
  ·cases s
 inj:=fun i j a us _ e=>by cases e
 ow:=fun i a e=>by cases e
 len:=by
  have:=r.len
  rw[jr (by omega)]
  simp[startT];omega
 ent:=fun i=>by
  rcases qH (ts:=ts) (n:=N.length-ts.length) (i:=i) rfl with e | ⟨t,h,e⟩
  ·show Ent K _ _ H i _ (nth (ts.map TV.fz++List.replicate (N.length-ts.length) .un) i)
   rw[e];trivial
  ·show Ent K _ _ H i _ (nth (ts.map TV.fz++List.replicate (N.length-ts.length) .un) i)
   rw[e]
   obtain⟨v,e1,e2⟩:=r.getT h
   exact⟨v,qq e1,xZ (fun a o e n=>⟨e,fun z=>n (z.elim id fun⟨_,z⟩=>nomatch z)⟩) _ _ e2⟩
 gh:=fun p hp=>absurd hp (by simp)
theorem nr {F S:Addr→Prop}{H:Hp}{ts:List Tr}{us:List V}{p:Addr}(hp:S p)(hF:∀a,F a→H a≠none)(hS:∀a,S a→F a)(hst:∀a,S a→tL a H)(r:yQ F H ts us)(hl:ts.length+1≤N.length) :
  RS K ⟨F,S,H,[]⟩ (fun i=>if i=0 then some p else none) (start N (.ref p::us)) (startT N true ts) H where
 f0:=hF
 s0:=hS
 ext:=fun a o e _=>e
 sst:=fun a s=>by
  rcases s with s | ⟨i,s,_⟩
  ·exact hst a s
  ·have s:(if i=0 then some p else none)=some a:=s
   by_cases e:i=0
   ·rw[if_pos e] at s;cases s;exact hst _ hp
   ·rw[if_neg e] at s;cases s
 inj:=fun i j a us hi e=>by
  exfalso
  by_cases e0:i=0
  ·subst e0;cases hi
  ·rw[if_neg e0] at e;cases e
 ow:=fun i a e=>by
  by_cases e0:i=0
  ·rw[if_pos e0] at e;cases e;exact(hst _ hp).ne_none
  ·rw[if_neg e0] at e;cases e
 len:=by
  have:=r.len
  rw[jr (by rw[xdV];omega)]
  simp[startT];omega
 ent:=fun i=>by
  cases i with
  | zero=>exact⟨p,qq (by rfl),if_pos rfl,.inl hp⟩
  | succ i =>
   show Ent K _ _ H (i+1) _ (nth (ts.map TV.fz++List.replicate (N.length-(ts.length+1)) .un) i)
   rcases qH (ts:=ts) (n:=N.length-(ts.length+1)) (i:=i) rfl with e | ⟨t,h,e⟩
   ·rw[e];trivial
   ·rw[e]
    obtain⟨v,e1,e2⟩:=r.getT h
    refine⟨v,qq (by rw[List.getElem?_cons_succ];exact e1),xZ (fun a o e n=>⟨e,fun z=>n ?_⟩) _ _ e2⟩
    rcases z with z | ⟨j,z⟩
    ·exact z
    ·have z:(if j=0 then some p else none)=some a:=z
     by_cases e0:j=0
     ·rw[if_pos e0] at z;cases z;exact hS _ hp
     ·rw[if_neg e0] at z;cases z
 gh:=fun p hp=>absurd hp (by simp)
theorem xA (F:Fun K x qual st f fd)(S:xt N ps (xg st))(mgx:mg x=some (.ref f))(b:Binds K fd ps [])(hn:ps.length=n)
  (body:∀(cdv:Value) (A:Around) (outer:List Env) (s:Shared) (H:Hp) (E:XK),jJ k (A.deeper (envOfC qual (xg st) s.heap.objs.size f cdv)) →
   ∃T D,PSs (bH CX0 P w K mg base N qual (xg st) f cdv A outer s H E).nox (yS st) T∧OkS K fr T D∧∀ts KK,ts.length=n→sp ts KK→D { nx:=fun _=>fr=false∧KK .non,rt:=KK } (startT N false ts)) :
  Own P w K mg base (k+1) x ps (spT n false fr sp):=by
 have hpl:ps.length≤N.length:=by have:=xeO List.length S.pre;rw[xd4] at this;omega
 refine j6 F S mgx b (fun vs H Q E h=>?_) (fun cdv A outer s H vs Q E hr h=>?_)
 ·obtain⟨F',S',ts,KK,us,e,_,_,_,r,l,_⟩:=h
  cases (show vs=us from e)
  rw[←r.len,l,hn]
 ·obtain⟨F',S',ts,KK,us,e,hF,hS,hst,r,l,hsp,q⟩:=h
  cases (show vs=us from e)
  obtain⟨T,D,ht,hd,h⟩:=body cdv A outer s H E hr
  refine⟨T,ht,hd _ _ _ _ H _ _ (nA hF hS hst r (by omega)) (h ts KK l hsp) ⟨fun φ σ τ H1 R k=>?_,fun _ _ _ _ _ z=>z.elim,fun _ _ _ _ _ z=>z.elim,fun t v H1 r1 x k fl=>?_⟩⟩
  ·obtain⟨k1,k2⟩:=k
   exact q .non .non H1 k2 R.ext (fun a z=>R.sst a (.inl z)) rfl fun z=>by rw[k1] at z;cases z
  ·exact q t v H1 k x.ext x.st r1 fl
theorem jq (F:Fun K x qual st f fd)(S:xt N ps (xg st))(mgx:mg x=some (.ref f))(b:Binds K fd ps [])(hn:ps.length=n+1)
  (body:∀(cdv:Value) (A:Around) (outer:List Env) (s:Shared) (H:Hp) (E:XK),jJ k (A.deeper (envOfC qual (xg st) s.heap.objs.size f cdv)) →
   ∃T D,PSs (bH CX0 P w K mg base N qual (xg st) f cdv A outer s H E).nox (yS st) T∧OkS K fr T D∧∀ts KK,ts.length=n→sp ts KK→D { nx:=fun _=>fr=false∧KK .non,rt:=KK } (startT N true ts)) :
  Own P w K mg base (k+1) x ps (spT n true fr sp):=by
 have hpl:ps.length≤N.length:=by have:=xeO List.length S.pre;rw[xd4] at this;omega
 refine j6 F S mgx b (fun vs H Q E h=>?_) (fun cdv A outer s H vs Q E hr h=>?_)
 ·obtain⟨F',S',ts,KK,us,⟨p,e,_⟩,_,_,_,r,l,_⟩:=h
  rw[e,xdV,←r.len,l,hn]
 ·obtain⟨F',S',ts,KK,us,⟨p,e,hp⟩,hF,hS,hst,r,l,hsp,q⟩:=h
  subst e
  obtain⟨T,D,ht,hd,h⟩:=body cdv A outer s H E hr
  refine⟨T,ht,hd _ _ _ _ H _ _ (nr hp hF hS hst r (by omega)) (h ts KK l hsp) ⟨fun φ σ τ H1 R k=>?_,fun _ _ _ _ _ z=>z.elim,fun _ _ _ _ _ z=>z.elim,fun t v H1 r1 x k fl=>?_⟩⟩
  ·obtain⟨k1,k2⟩:=k
   exact q .non .non H1 k2 R.ext (fun a z=>R.sst a (.inl z)) rfl fun z=>by rw[k1] at z;cases z
  ·exact q t v H1 k x.ext x.st r1 fl
def xbt (H:Hp):Prop:=∀b,(H b=none∨∃o xs,H b=some (.frz o (.lst xs)))∨∃q,H b=some (.tb q)
def rW (K:PySem.W.Frag):Sp:=fun vs H Q _=>∃(a:Addr) (ns:List Int),vs=[.ref a]∧(xbt H∧oa K H)∧SqL K H a (ns.map V.int)∧ns.length≤63∧∀H',Q (.bl true) H'
theorem bX (F:Fun K x qual st f fd)(S:xt N ps (xg st))(hn:ps.length=1)
  (body:∀(cdv:Value) (A:Around) (outer:List Env) (s:Shared) (H:Hp) (E:XK),jJ k (A.deeper (envOfC qual (xg st) s.heap.objs.size f cdv)) →
   ∃T D,PSs (bH CX0 P w K mg base N qual (xg st) f cdv A outer s H E).nox (yS st) T∧OkS K false T D∧∀ns:List Int,ns.length≤63→D { nx:=fun _=>False,rt:=fun t=>t=.bl true } (.sc ns::List.replicate (N.length-1) .un)) :
  g_ P w K mg base CX0 (k+1) f fd ps (rW K):=by
 have hpl:ps.length≤N.length:=by have:=xeO List.length S.pre;rw[xd4] at this;omega
 refine F.ok S (fun vs H Q E h=>?_) (fun cdv A outer s H vs Q E hr h=>?_)
 ·obtain⟨a,ns,rfl,_⟩:=h
  exact hn.symm
 ·obtain⟨a,ns,rfl,⟨hO,hT⟩,hS,hl,q⟩:=h
  obtain⟨T,D,ht,hd,h⟩:=body cdv A outer s H E hr
  have so:cR K H a ns:=by
   refine⟨?_,hT⟩
   rcases hS with (z | ⟨o,z⟩) | z
   ·exfalso
    rcases hO a with (y | ⟨o,xs,y⟩) | ⟨_,y⟩
    ·rw[y] at z;cases z
    ·rw[y] at z;cases z
    ·rw[y] at z;cases z
   ·exact .inl ⟨o,z⟩
   ·exact .inr fun _=>.inr z
  have R:RS K ⟨fun _=>False,fun _=>False,H,[]⟩ (fun _=>none) (start N [.ref a]) (.sc ns::List.replicate (N.length-1) .un) H:=by
   refine⟨fun _ z=>z.elim,fun _ z=>z,fun _ _ e _=>e,fun a s=>?_,fun i j a us _ e=>(by cases e),fun i a e=>(by cases e),?_,fun i=>?_,fun p hp=>absurd hp (by simp)⟩
   ·rcases s with s | ⟨i,s,_⟩
    ·exact s.elim
    ·cases s
   ·rw[jr (by simp;omega)]
    simp;omega
   ·cases i with
    | zero=>exact⟨a,qq rfl,hl,so⟩
    | succ i =>
     show Ent K _ _ H (i+1) _ (nth (List.replicate (N.length-1) .un) i)
     rcases qH (ts:=[]) (n:=N.length-1) (i:=i) rfl with e | ⟨t,h,e⟩
     ·rw[xd9,xem] at e
      rw[e];trivial
     ·simp at h
  refine⟨T,ht,hd _ _ _ _ H _ _ R (h ns hl) ⟨fun _ _ _ _ _ z=>z.elim,fun _ _ _ _ _ z=>z.elim,fun _ _ _ _ _ z=>z.elim,fun t v H1 r1 x k fl=>?_⟩⟩
  cases (show t=.bl true from k)
  cases (show v=.bl true from r1)
  exact q H1
end
section
variable {K:PySem.W.Frag} {fr:Bool}
def n5:TSp:=fun ts KK=>match ts with | [.int many]=>(0<many∧many<2 ^ 128)∧∀r,0≤r→r<many→KK (.int r) | _=>False
theorem nJ {P:Program}{w:World}{mg:Str→Option Value}{base:Heap}{k:Nat}{x:Str}{ps:List Str}(h:Own P w K mg base k x ps pC):Own P w K mg base k x ps (spT 1 true false n5):=h.imp fun vs H Q E q=>by
 obtain⟨F,S,ts,KK,us,⟨p,e,hp⟩,hF,hS,hst,r,l,hsp,q⟩:=q
 unfold n5 at hsp
 split at hsp
 ·rename_i many
  obtain⟨v,rfl,r1⟩:=gP r
  cases (show v=.int many from r1)
  refine⟨p,many,e,hst p hp,hsp.1.1,hsp.1.2,fun r H' h0 h1 sb=>q (.int r) (.int r) H' (hsp.2 r h0 h1) (fun a o e n=>sb.keep a o (fun z=>n (by rw[z];exact hp)) e) (fun a s=>?_) rfl (fun z=>nomatch z)⟩
  by_cases ea:a=p
  ·rw[ea];exact sb.st
  ·obtain⟨n,b,e1,z⟩:=hst a s
   exact⟨n,b,sb.keep a _ ea e1,z⟩
 ·exact hsp.elim
end
end L2
namespace L2
open PySem PySem.Spec PyProof.Rows
mutual
def kj:Tr→PyData
 | .non=>.none | .bl b=>.bool b | .int i=>.int i | .str x=>.str x | .emp=>.dict [] | .tup ts=>.tuple (w_ ts) | .lst ts=>.list (w_ ts)
def w_:List Tr→List PyData
 | []=>[]
 | t::ts=>kj t::w_ ts
end
def teq (t u:Tr):Bool:=PyData.eqv (kj t) (kj u)
def pln (t:Tr):Bool:=(kj t).canLay0
def dep (t:Tr):Nat:=(kj t).depth
section
variable {X:Cx} {pins:List (Addr×Obj)} {σ:St} {H:Hp} {s:Shared}
mutual
theorem w6 (I:Inv X pins σ H s){F:Addr→Prop}:∀(t:Tr) (x:V) (a:Value),Rep F H t x→RelV x a→pln t=true→∃as,Reads s.heap a (kj t) as
 | .non,x,a,r,e,_=>by cases (show x=.non from r);cases e;exact⟨_,.none⟩
 | .bl b,x,a,r,e,_=>by cases (show x=.bl b from r);cases e;exact⟨_,.bool b⟩
 | .int i,x,a,r,e,_=>by cases (show x=.int i from r);obtain⟨t,rfl⟩:=e;exact⟨_,.int i t⟩
 | .str i,x,a,r,e,_=>by cases (show x=.str i from r);obtain⟨t,rfl⟩:=e;exact⟨_,.str i t⟩
 | .emp,x,a,r,e,h=>by cases h
 | .tup ts,x,a,r,e,h=>by
  obtain⟨p,ws,rfl,_,hp,rl⟩:=r
  cases e
  obtain⟨its,rv,⟨o,ho,hc,n,hd⟩,_⟩:=I.tuple (SqT.of hp)
  obtain⟨as,ra⟩:=w5 I ts ws its rl rv h
  exact⟨_,.tuple ho hc hd (by simpa using ra)⟩
 | .lst ts,x,a,r,e,h=>by
  obtain⟨p,ws,rfl,_,hp,rl⟩:=r
  cases e
  obtain⟨its,rv,pl,_⟩:=I.list (SqL.of hp)
  obtain⟨o,ho,hc,n,hd⟩:=pl.isList
  obtain⟨as,ra⟩:=w5 I ts ws its rl rv h
  exact⟨_,.list ho hc hd (by simpa using ra)⟩
theorem w5 (I:Inv X pins σ H s){F:Addr→Prop}:∀(ts:List Tr) (ws:List V) (us:List Value),yQ F H ts ws→yy ws us→PyData.canLayAll0 (w_ ts)=true→∃as,ReadsAll s.heap us (w_ ts) as
 | [],ws,us,r,v,_=>by cases (show ws=[] from r);cases v;exact⟨_,.nil⟩
 | t::ts,ws,us,r,v,h=>by
  obtain⟨w,r',rfl,h1,h2⟩:=r
  cases v with
  | cons v1 v2 =>
   have h':pln t=true∧PyData.canLayAll0 (w_ ts)=true:=by
    have:(pln t&&PyData.canLayAll0 (w_ ts))=true:=h
    simpa using this
   obtain⟨as,ra⟩:=w6 I t w _ h1 v1 h'.1
   obtain⟨bs,rb⟩:=w5 I ts r' _ h2 v2 h'.2
   exact⟨_,.cons ra rb⟩
end
end
def lL (t u:Tr):Prop:=pln t=true∧pln u=true∧min (dep t) (dep u)≤64
def xck:R2:=fun x y H Q=>∃F G t u,Rep F H t x∧Rep G H u y∧lL t u∧Q (.bl (teq t u)) H
def xcf:R2:=fun x y H Q=>∃F G t u,Rep F H t x∧Rep G H u y∧lL t u∧Q (.bl (!teq t u)) H
section
variable {X:Cx}
theorem vF (hu:X.A.units+64<cLine):OpR X (compareOp .Eq) xck:=by
 intro pins s σ H x y v u Q I rx ry h
 obtain⟨F,G,t,t',r1,r2,⟨p1,p2,p3⟩,q⟩:=h
 obtain⟨as,ra⟩:=w6 I t x v r1 rx p1
 obtain⟨bs,rb⟩:=w6 I t' y u r2 ry p2
 exact SeqAt.rcAt_reads ra rb p1 p2 (xeE (Nat.add_le_add_left p3 _) hu) X.prog X.w _ _ ⟨.bl _,H,I,rfl,q⟩
theorem ql (hu:X.A.units+64<cLine):OpR X (compareOp .NotEq) xcf:=by
 intro pins s σ H x y v u Q I rx ry h
 obtain⟨F,G,t,t',r1,r2,⟨p1,p2,p3⟩,q⟩:=h
 obtain⟨as,ra⟩:=w6 I t x v r1 rx p1
 obtain⟨bs,rb⟩:=w6 I t' y u r2 ry p2
 exact SeqAt.rcNeAt_reads ra rb p1 p2 (xeE (Nat.add_le_add_left p3 _) hu) X.prog X.w _ _ ⟨.bl _,H,I,rfl,q⟩
def xch (neg:Bool):R2:=fun x y H Q=>∃F G t ts,Rep F H t x∧(Rep G H (.lst ts) y∨Rep G H (.tup ts) y)∧pln t=true∧PyData.canLayAll0 (w_ ts)=true∧dep t≤60∧Q (.bl (if neg then !(ts.any fun u=>teq u t) else ts.any fun u=>teq u t)) H
theorem ja {h:Heap}{d0:PyData}(e:Value→Bool)(he:∀y d as,Reads h y d as→d.canLay0=true→e y=PyData.eqv d d0):∀(ts:List Tr) (us:List Value) (as:List Addr),ReadsAll h us (w_ ts) as→PyData.canLayAll0 (w_ ts)=true→us.any e=ts.any fun u=>PyData.eqv (kj u) d0
 | [],us,as,r,_=>by cases r;rfl
 | t::ts,us,as,r,hl=>by
  have h':(kj t).canLay0=true∧PyData.canLayAll0 (w_ ts)=true:=by
   have:((kj t).canLay0&&PyData.canLayAll0 (w_ ts))=true:=hl
   simpa using this
  generalize hg:w_ (t::ts)=ds at r
  cases r with
  | nil=>cases hg
  | cons r1 r2 =>
   have e1:kj t=_:=(List.cons.inj hg).1
   have e2:w_ ts=_:=(List.cons.inj hg).2
   subst e1 e2
   rw[List.any_cons,List.any_cons,he _ _ _ r1 h'.1,ja e he ts _ _ r2 h'.2]
theorem dM {h:Heap}{y:Value}:∀(ds:List PyData) (us:List Value) (as:List Addr),ReadsAll h us ds as→PyData.canLayAll0 ds=true→y∈us→∃d as,Reads h y d as∧d.canLay0=true
 | [],us,as,r,_,hm=>by cases r;exact absurd hm (by simp)
 | d::ds,us,as,r,hl,hm=>by
  have h':d.canLay0=true∧PyData.canLayAll0 ds=true:=by
   have:(d.canLay0&&PyData.canLayAll0 ds)=true:=hl
   simpa using this
  cases r with
  | cons r1 r2 =>
   rcases xec.mp hm with rfl | hm
   ·exact⟨d,_,r1,h'.1⟩
   ·exact dM ds _ _ r2 h'.2 hm
open Classical in
def eBy (h:Heap)(d0:PyData)(y:Value):Bool:=if ∃d as,Reads h y d as∧d.canLay0=true∧PyData.eqv d d0=true then true else false
theorem t7 {h:Heap}{d0:PyData}(y:Value)(d:PyData)(as:List Addr)(r:Reads h y d as)(hl:d.canLay0=true):eBy h d0 y=PyData.eqv d d0:=by
 unfold eBy
 cases hq:PyData.eqv d d0 with
 | true=>rw[if_pos ⟨d,as,r,hl,hq⟩]
 | false =>
  rw[if_neg]
  rintro⟨d',as',r',hl',hq'⟩
  have:=SeqAt.Reads.unique d d' y as as' hl r r'
  subst this
  rw[hq] at hq';cases hq'
theorem mT (hu:X.A.units+64<cLine):OpR X (compareOp .NotIn) (xch true):=by
 intro pins s σ H x y v u Q I rx ry h
 obtain⟨F,G,t,ts,r1,r2,p1,p2,p3,q⟩:=h
 obtain⟨as,ra⟩:=w6 I t x v r1 rx p1
 have room:∀d:PyData,X.A.in1.units+min d.depth (kj t).depth<cLine:=fun d=>by
  have h1:min d.depth (kj t).depth≤60:=xeC (Nat.min_le_right _ _) p3
  show X.A.units+1+_<_
  omega
 have eqa:∀(ds:List PyData) (us:List Value) (bs:List Addr),ReadsAll s.heap us ds bs→PyData.canLayAll0 ds=true→∀z∈us,SeqAt.EqAt X.A.in1 s z v (eBy s.heap (kj t) z):=fun ds us bs rb hl z hz=>by
  obtain⟨d,cs,rd,hd⟩:=dM ds us bs rb hl hz
  rw[t7 z d cs rd hd]
  exact SeqAt.eqAt_reads d (kj t) _ s z v _ _ rd ra hd p1 (room d)
 rcases r2 with r2 | r2
 ·obtain⟨p,ws,rfl,_,hp,rl⟩:=r2
  cases ry
  obtain⟨its,rv,pl,_⟩:=I.list (SqL.of hp)
  obtain⟨bs,rb⟩:=w5 I ts ws its rl rv p2
  refine SeqAt.notIn_listAt (eBy s.heap (kj t)) pl.isList (fun z hz=>eqa _ _ _ rb p2 z (by simpa using hz)) ⟨.bl _,H,I,?_,q⟩
  show Value.bool _=Value.bool _
  rw[if_pos rfl,show(ts.any fun u=>teq u t)=its.toArray.any (eBy s.heap (kj t)) from by
   rw[show(its.toArray.any (eBy s.heap (kj t)))=its.any (eBy s.heap (kj t)) by simp]
   exact(ja (eBy s.heap (kj t)) (fun y d as r hl=>t7 y d as r hl) ts its bs rb p2).symm]
 ·obtain⟨p,ws,rfl,_,hp,rl⟩:=r2
  cases ry
  obtain⟨its,rv,pl,_⟩:=I.tuple (SqT.of hp)
  obtain⟨bs,rb⟩:=w5 I ts ws its rl rv p2
  refine SeqAt.notIn_tupleAt (eBy s.heap (kj t)) pl (fun z hz=>eqa _ _ _ rb p2 z (by simpa using hz)) ⟨.bl _,H,I,?_,q⟩
  show Value.bool _=Value.bool _
  rw[if_pos rfl,show(ts.any fun u=>teq u t)=its.toArray.any (eBy s.heap (kj t)) from by
   rw[show(its.toArray.any (eBy s.heap (kj t)))=its.any (eBy s.heap (kj t)) by simp]
   exact(ja (eBy s.heap (kj t)) (fun y d as r hl=>t7 y d as r hl) ts its bs rb p2).symm]
end
def lP (neg:Bool)(x y:Tr)(KK:Tr→Prop):Prop:=match x,y with
 | .int i,.int j=>KK (.bl (if neg then !decide (i=j) else decide (i=j)))
 | x,y=>lL x y∧KK (.bl (if neg then !teq x y else teq x y))
theorem c6 (i j:Int):lL (.int i) (.int j):=⟨rfl,rfl,by show min 0 0≤64;decide⟩
theorem t9 {neg:Bool}{x y:Tr}{KK:Tr→Prop}(h:lP neg x y KK):lL x y∧KK (.bl (if neg then !teq x y else teq x y)):=by
 unfold lP at h
 split at h
 ·exact⟨c6 _ _,h⟩
 ·exact h
theorem os_eq:OpS xck (lP false):=fun F G H x y t u KK Q r1 r2 hf q=>by
 obtain⟨h1,h2⟩:=t9 hf
 exact⟨F,G,t,u,r1,r2,h1,q _ _ rfl h2⟩
theorem gq:OpS xcf (lP true):=fun F G H x y t u KK Q r1 r2 hf q=>by
 obtain⟨h1,h2⟩:=t9 hf
 exact⟨F,G,t,u,r1,r2,h1,q _ _ rfl h2⟩
def fIn (neg:Bool)(x y:Tr)(KK:Tr→Prop):Prop:=match y with
 | .lst ts=>(pln x=true∧PyData.canLayAll0 (w_ ts)=true∧dep x≤60)∧KK (.bl (if neg then !(ts.any fun u=>teq u x) else ts.any fun u=>teq u x))
 | .tup ts=>(pln x=true∧PyData.canLayAll0 (w_ ts)=true∧dep x≤60)∧KK (.bl (if neg then !(ts.any fun u=>teq u x) else ts.any fun u=>teq u x))
 | _=>False
theorem xav {neg:Bool}:OpS (xch neg) (fIn neg):=fun F G H x y t u KK Q r1 r2 hf q=>by
 unfold fIn at hf
 split at hf
 ·exact⟨F,G,t,_,r1,.inl r2,hf.1.1,hf.1.2.1,hf.1.2.2,q _ _ rfl hf.2⟩
 ·exact⟨F,G,t,_,r1,.inr r2,hf.1.1,hf.1.2.1,hf.1.2.2,q _ _ rfl hf.2⟩
 ·exact hf.elim
end L2
namespace L2
open PySem PySem.Spec PyProof.Rows
def xbq (K:PySem.W.Frag)(tl:TE):TI:=fun σ H R=>tl σ H fun x H1=>∃a,x=.ref a∧(((∃xs,SqL K H1 a xs)∧R (Itl K a) H1)∨((∃xs,SqT K H1 a xs)∧R (Itt K a) H1))
section
variable {X:Cx}
theorem zq (K:PySem.W.Frag){tg l:Expr}{tl:TE}(hl:PE X l tl)(e:X.K=K:=by rfl):PI X tg l (xbq K tl):=by
 subst e
 intro pins s σ H R I h
 refine thn (@hl pins s σ H _ I h) fun v s1 ⟨x,H1,I1,r1,q1⟩=>?_
 obtain⟨a,e,q⟩:=q1
 subst e
 cases r1
 rcases q with ⟨⟨xs,hq⟩,q⟩ | ⟨⟨xs,hq⟩,q⟩
 ·obtain⟨its,rv,p,hz⟩:=I1.list hq
  refine wpAny_pyIter_list p.isList ?_
  refine⟨s1.heap.objs.size,[s1.heap.objs.size],_,_,H1,rfl,I1.kept (t':=s1.toks) fun b o e=>Heap.get?_push_of_some _ e,mh a _,⟨_,Heap.get?_push_size _ rfl,rfl,rfl⟩,fun b hb=>?_,q⟩
  have e:b=s1.heap.objs.size:=by simpa using hb
  subst e
  exact I1.fpOk (xeA _) (I1.hok.fresh (xeA _))
 ·obtain⟨its,rv,p,hz⟩:=I1.tuple hq
  refine wpAny_pyIter_tuple (show s1.heap.IsTuple a its.toArray from p) ?_
  refine⟨s1.heap.objs.size,[s1.heap.objs.size],_,_,H1,rfl,I1.kept (t':=s1.toks) fun b o e=>Heap.get?_push_of_some _ e,r6 a _,⟨_,Heap.get?_push_size _ rfl,rfl,rfl⟩,fun b hb=>?_,q⟩
  have e:b=s1.heap.objs.size:=by simpa using hb
  subst e
  exact I1.fpOk (xeA _) (I1.hok.fresh (xeA _))
end
section
variable {K:PySem.W.Frag}
theorem yJ {b:Bool}{te:TE}{d:DE}(h:OkE K b te d):OkI K b (xbq K te) (xc9 d):=fun B φ σ τ H R KK Rs hd q =>
 h B φ σ τ H _ _ Rs hd fun t v H1 x1 k1 r1=>by
  cases t with
  | lst ts =>
   obtain⟨a,ws,e,n,ha,rl⟩:=id r1
   subst e
   exact⟨a,rfl,.inl ⟨⟨ws,SqL.of ha⟩,q _ ts _ H1 x1 k1 cU fun p hp=>by
    cases xel.mp hp
    exact r1⟩⟩
  | tup ts =>
   obtain⟨a,ws,e,n,ha,rl⟩:=id r1
   subst e
   exact⟨a,rfl,.inr ⟨⟨ws,SqT.of ha⟩,q _ ts _ H1 x1 k1 oV fun p hp=>by
    cases xel.mp hp
    exact r1⟩⟩
  | _=>exact k1.elim
theorem n_ {i:Nat}:xaI K (xbq K (fb i)) (xbU i):=fun B φ σ τ H R KK Rs hd q=>by
 obtain⟨v,e,a,ea,s,r⟩:=c7 (i:=i) B φ σ τ H R KK Rs hd q
 exact⟨v,e,a,ea,.inl ⟨s,r⟩⟩
end
def Ite (K:PySem.W.Frag)(b:Bool)(a:Addr):It :=
 ⟨fun i H=>∃xs x,Sq2 K b H a xs∧xs[i]? = some x,
  fun i H v H'=>∃x q,(∀xs,Sq2 K b H a xs→xs[i]? = some x)∧v=.ref q∧H q=none∧H'=upd H q (.tup [.int i,x]),
  fun i H=>∃xs,Sq2 K b H a xs∧xs.length≤i⟩
theorem Inv.sq2_inj {X:Cx}{pins:List (Addr×Obj)}{σ:St}{H:Hp}{s:Shared}{b:Bool}{a:Addr}{xs ys:List V}(I:Inv X pins σ H s)(h:Sq2 X.K b H a xs)(h':Sq2 X.K b H a ys):xs=ys:=by
 cases b with
 | true=>exact I.tuple_inj (show SqT X.K H a xs from h) h'
 | false=>exact I.list_inj (show SqL X.K H a xs from h) h'
theorem cL {prog:Program}{w:World}{A:Around}{it a:Addr}{vs:List Value}{tn:Nat→Heap→Prop}{src:Heap→Prop}(D:Drw it a vs tn src)(hne:a≠it)(hh:A.handled=none) :
  Draws prog w A it [it,a] vs.length (fun i x=>vs[i]? = some x) (fun i h=>tn i h∧src h) where
 live:=fun i h st=>let ⟨o,e,_⟩:=D.ob i h st.1;⟨o,e⟩
 frame:=fun i h h' st k=>⟨D.mv _ _ _ st.1 (k it (by simp)),D.smv _ _ st.2 (k a (by simp))⟩
 item:=fun i s Q E hi st hQ=>D.item prog w A E i vs[i] s Q st.1 st.2 (xdO hi) fun h' t' sb=>hQ _ h' s.toks (xdO hi) ⟨t',D.smv _ _ st.2 fun o e=>sb.extBut _ o hne e⟩ sb
 done:=fun s Q E st hE=>D.fin prog w A E vs.length s Q hh st.1 st.2 (xdP (xeA _)) hE
section
variable {P:Program} {w:World} {K:PySem.W.Frag} {e it a:Addr} {b:Bool}
def ESt (b:Bool)(e it a:Addr)(i:Nat)(h:Heap):Prop:=(∃old,IsEnum h e it i old)∧Tn2 b it a i h
theorem my {elts:List Expr}{kk:Nat}{pp:Pos}(hei:e≠it)(hea:a≠e)(hia:a≠it):Turn P w K (.Tuple elts kk pp) (Ite K b a) [e,it] e (ESt b e it a) where
 mem:=by simp
 obj:=fun i h st c hc=>by
  obtain⟨⟨old,s1⟩,s2⟩:=st
  simp only[xec,xep,xeV] at hc
  rcases hc with z | z<;>subst z
  ·exact⟨_,s1,fun v=>by simp⟩
  ·exact(gf b _ a []).ob _ _ s2
 keep:=fun i h h' st k=>by
  obtain⟨⟨old,s1⟩,s2⟩:=st
  exact⟨⟨old,k _ (by simp) _ s1⟩,(gf b it a []).mv _ _ _ s2 fun o e=>k _ (by simp) o e⟩
 item:=by
  intro X hP hw hK hc i pins s σ H E I hf st hg
  subst hP hw hK
  obtain⟨⟨old,s1⟩,s2⟩:=st
  obtain⟨xs,x,sq1,hx⟩:=hg
  obtain⟨vs,rv,c1⟩:=I.sq2 sq1
  obtain⟨xv,ex,rx⟩:=rv.get hx
  have hi:i<vs.length:=(xdQ.mp ex).1
  have fr:H s.heap.objs.size=none:=I.hok.fresh (xeA _)
  have D:=cL (prog:=X.prog) (w:=X.w) (A:=X.A.in1) (gf b it a vs) hia (show X.A.in1.handled=none from I.ok.hd hc)
  refine wpAny_pyNext_enum_itemD D s1 ⟨s2,c1⟩ hi hei (by simp[hei,Ne.symm hea]) fun xv' g tk hP ho st' hT hsz kp=>⟨_,rfl,?_⟩
  rw[ex] at hP;cases hP
  refine wpAny_letOwnedTupleGo_enum ho fun g2 he2 S2=>?_
  have lte:e<s.heap.objs.size:=Heap.lt_size s1
  have kp2:∀c o,c∉[e,it]→s.heap.get? c=some o→g2.get? c=some o:=fun c o hc e=>by
   simp only[xec,xep,xeV,not_or] at hc
   exact S2.extBut _ _ hc.1 (kp c o hc.1 hc.2 e)
  have T2:=S2.extBut _ _ (xeI lte) hT
  have st2:ESt b e it a (i+1) g2:=⟨⟨_,by simpa using he2⟩,(gf b it a vs).mv _ _ _ st'.1 fun o q=>S2.extBut _ o (Ne.symm hei) q⟩
  have nfp:∀c u,H c=some u→c∉[e,it]:=fun c u q hm=>by rw[(hf c hm).1] at q;cases q
  have nT:∀c o,s.heap.get? c=some o→c≠s.heap.objs.size:=fun c o e=>xeJ (Heap.lt_size e)
  refine⟨.ref s.heap.objs.size,upd H s.heap.objs.size (.tup [.int i,x]),?_,rfl,⟨x,_,fun xs' h'=>by rw[←I.sq2_inj sq1 h'];exact hx,rfl,fr,rfl⟩,st2,fun c hm=>?_⟩
  ·show Inv X pins σ (upd H s.heap.objs.size (.tup [.int i,x])) { s with heap:=g2,gens:=s.gens,drawn:=s.drawn,toks:=tk+1 }
   refine Inv.step (s:=s) (g':=s.gens) (d':=s.drawn) (t':=tk+1) (ch:=[e,it]) I (fun c hm=>?_) (fun c o _ _ hm e _=>kp2 c o hm e) (fun c o _ _ hm e _=>⟨o.slots,kp2 c o hm e⟩) (fun c o hm e n=>by rw[xC (nT c o e)];exact n) (fun c o hm e=>⟨o,kp2 c o hm e⟩)
    (fun c zs e=>by rw[xC (xn e fr)];exact e) (fun c o u e=>by rw[xC (xn e fr)];exact e) (fun c ps e=>⟨#[],by rw[xC (xn e fr),e];simp⟩) (fun m hm=>?_) (fun c u e=>?_) I.bare
   ·obtain⟨_,f1,_,f3,f4,f5⟩:=hf c hm
    exact⟨f3,f1,f4,f5⟩
   ·obtain⟨o,es,ep,ho,r⟩:=hm
    exact⟨o,es,ep,kp2 _ o (fun z'=>(hf _ z').2.1 rfl) ho,r⟩
   ·by_cases hc':c=s.heap.objs.size
    ·subst hc'
     rw[xM] at e
     cases e
     exact⟨by show 2≤sizeLine;decide,[.int i tk,xv],.cons ⟨_,rfl⟩ (.cons rx .nil),_,T2,rfl,0,rfl⟩
    ·rw[xC hc'] at e
     refine(I.hok c u e).stay (fun c' v hcc q'=>kp2 c' v ?_ q') (fun c' q'=>by rw[xC (xn q' fr)];exact q') (fun c' zs q'=>by rw[xC (xn q' fr)];exact q') fun c' o u q'=>by rw[xC (xn q' fr)];exact q'
     rcases hcc with rfl | hcc
     ·exact nfp _ _ e
     ·exact nfp _ _ hcc
  ·rw[xC]
   ·exact(hf c hm).1
   ·simp only[xec,xep,xeV] at hm
    rcases hm with z | z<;>subst z
    ·exact nT _ _ s1
    ·obtain⟨o,e,_⟩:=(gf b _ a []).ob _ _ s2;exact nT _ _ e
 done:=by
  intro X hP hw hK hc i pins s σ H E I hf st hg
  subst hP hw hK
  obtain⟨⟨old,s1⟩,s2⟩:=st
  obtain⟨xs,sq1,hend⟩:=hg
  obtain⟨vs,rv,c1⟩:=I.sq2 sq1
  have hT:s.TypeIs (.ref e) "enumerate" := ⟨_,s1,rfl⟩
  unfold pyNext
  refine wpAny_bind (wpAny_attempt (wpAny_callSpecial?_slot (name:=Str.ofString "__next__") hT F.slot_enumerate_next (wpAny_call_entry F.slot_enumerate_next hT F.entry_enumerate_next ?_ (F.args_enumerate_next_1 _))))
  show wpAny _ _ (field (.ref e) 2 >>= _) _ _ _
  refine wpAny_bind (wpAny_field s1 rfl (x:=.ref it) rfl ?_)
  refine wpAny_bind ((gf b it a vs).fin _ _ _ _ i s _ (I.ok.hd hc) s2 c1 (xdP (by rw[←rv.length];exact hend)) fun g x kp hx'=>?_)
  obtain⟨o,ho,hcl⟩:=hx'
  refine wpAny_bind (wpAny_isInstance (T := "StopIteration") (b:=true) ⟨o,ho,hcl⟩ isSubtype_stop (wpAny_pure ⟨rfl,?_⟩))
  have kp2:∀c o,c∉[e,it]→s.heap.get? c=some o→g.get? c=some o:=fun c o hc q=>by
   simp only[xec,xep,xeV,not_or] at hc
   exact kp c o hc.2 q
  have nfp:∀c u,H c=some u→c∉[e,it]:=fun c u q hm=>by rw[(hf c hm).1] at q;cases q
  refine Inv.step (s:=s) (g':=s.gens) (d':=s.drawn) (t':=s.toks) (ch:=[e,it]) I (fun c hm=>?_) (fun c o _ _ hm e _=>kp2 c o hm e) (fun c o _ _ hm e _=>⟨o.slots,kp2 c o hm e⟩) (fun c o hm e n=>n) (fun c o hm e=>⟨o,kp2 c o hm e⟩)
   (fun c zs e=>e) (fun c o u e=>e) (fun c ps e=>⟨#[],by rw[e];simp⟩) (fun m hm=>?_) (fun c u e=>?_) I.bare
  ·obtain⟨_,f1,_,f3,f4,f5⟩:=hf c hm
   exact⟨f3,f1,f4,f5⟩
  ·obtain⟨o,es,ep,ho,r⟩:=hm
   exact⟨o,es,ep,kp2 _ o (fun z'=>(hf _ z').2.1 rfl) ho,r⟩
  ·refine(I.hok c u e).stay (fun c' v hcc q'=>kp2 c' v ?_ q') (fun _ q'=>q') (fun _ _ q'=>q') fun _ _ _ q'=>q'
   rcases hcc with rfl | hcc
   ·exact nfp _ _ e
   ·exact nfp _ _ hcc
 self:=fun A i s Q E st h=>by
  obtain⟨⟨old,s1⟩,_⟩:=st
  exact wpAny_pyIter_enum s1 h
end
open AutoSeq1 (wpAny_loadPart') in
theorem vD (l:Addr)(items:Array Value)(n:Nat)(dct:Option Addr)(sl:Array (Option Value)) :
  Meets (Builtin.«enumerate.__new__» ⟨[.type "enumerate", .ref l],[]⟩) (fun _ R s=>s.heap.get? l=some { cls:=.type "tuple", dict:=dct,data:=.seq items n,slots:=sl } ∧
   R (.ok (.ret (.ref (s.heap.push { cls:=.type "tuple_iterator", data:=.fields #[.ref l,.int 0 0] }).objs.size)))
    { s with heap:=(s.heap.push { cls:=.type "tuple_iterator", data:=.fields #[.ref l,.int 0 0] }).push { cls:=.type "enumerate", data:=.fields #[.none,.bool false,.ref s.heap.objs.size,rawInt 0,.none,.none] } }) :=
 .of_wp fun prog w A R s h=>by
  obtain⟨hp,g,d,tk,os⟩:=s;obtain⟨hl,h⟩:=h
  have hsub:=sub_enumerate
  have hL:Heap.IsTuple (Shared.heap ⟨hp,g,d,tk,os⟩) l items:=⟨_,hl,rfl,n,rfl⟩
  wp_walk using wpAny_loadPart' hl
  refine wpAny_stack_any fun st=>wpAny_pure ?_
  split
  ·rename_i c _ _ _ _ _
   cases (c == Value.type "enumerate")
   ·wp_walk using wpAny_loadPart' hl,wpAny_pyIter_tuple hL
    exact⟨_,rfl,h⟩
   ·wp_walk using wpAny_loadPart' hl,wpAny_pyIter_tuple hL
    exact⟨_,rfl,h⟩
  ·wp_walk using wpAny_loadPart' hl,wpAny_pyIter_tuple hL
   exact⟨_,rfl,h⟩
section
variable {prog:Program} {w:World} {A:Around} {E:Value→Shared→Prop} {s:Shared}
theorem vB {l:Addr}{items:Array Value}{Q:Value→Shared→Prop}(hL:s.heap.IsTuple l items)
  (h:∀h',IsEnum h' (s.heap.objs.size+1) s.heap.objs.size 0 .none→h'.IsTupleIter s.heap.objs.size l 0→h'.objs.size=s.heap.objs.size+2 →
   (∀b o,s.heap.get? b=some o→h'.get? b=some o)→Q (.ref (s.heap.objs.size+1)) { s with heap:=h' }) :
  wpAny (model prog w) A (call (.type "enumerate") [.ref l]) Q E s:=by
 obtain⟨⟨c,dct,dt,sl⟩,hl,hc,n,hd⟩:=hL
 replace hc:c=.type "tuple" := hc
 replace hd:dt=.seq items n:=hd
 subst hc hd
 refine callType_new F.called_enumerate (by decide) (F.typeCall_enumerate_1 _) (F.newCall_enumerate_1 _) (fun obj=>F.args_object_init_2 obj _) F.entry_enumerate_new
  (vD l items n dct sl) ⟨hl,?_⟩
 have hz:(s.heap.push { cls:=.type "tuple_iterator", data:=.fields #[.ref l,.int 0 0] }).objs.size=s.heap.objs.size+1:=Heap.size_push ..
 show _∧_
 rw[hz]
 have he:IsEnum ((s.heap.push { cls:=.type "tuple_iterator", data:=.fields #[.ref l,.int 0 0] }).push
   { cls:=.type "enumerate", data:=.fields #[.none,.bool false,.ref s.heap.objs.size,rawInt 0,.none,.none] }) (s.heap.objs.size+1) s.heap.objs.size 0 .none:=by
  have:=Heap.get?_push_size (s.heap.push { cls:=.type "tuple_iterator", data:=.fields #[.ref l,.int 0 0] })
   (o:={ cls:=.type "enumerate", data:=.fields #[.none,.bool false,.ref s.heap.objs.size,rawInt 0,.none,.none] }) rfl
  rw[hz] at this;exact this
 refine⟨⟨_,he,rfl⟩,h _ he ⟨_,Heap.get?_push_of_some _ (Heap.get?_push_size _ rfl),rfl,rfl⟩ (by rw[Heap.size_push,hz]) fun b o x=>Heap.get?_push_of_some _ (Heap.get?_push_of_some _ x)⟩
end
theorem fq:bootBuiltins "enumerate" = some (.type "enumerate"):=by decide +kernel
def xaP (K:PySem.W.Frag)(ta:TA):TI:=fun σ H R=>ta σ H fun vs H1=>∃(b:Bool) (a:Addr) (xs:List V),vs=[.ref a]∧Sq2 K b H1 a xs∧R (Ite K b a) H1
section
variable {X:Cx}
theorem mB (K:PySem.W.Frag){elts:List Expr}{kk:Nat}{pp:Pos}{a:Expr}{ta:TA}{p pos:Pos}(hg:Gl X "enumerate")(hm:X.mg "enumerate" = none)(ha:PA X [a] ta)(hs:starEach [a] X.env=[(false,eval a X.env)]:=by rfl)(eK:X.K=K:=by rfl) :
  PI X (.Tuple elts kk pp) (.Call (.Name "enumerate" p) [a] [] pos) (xaP K ta):=by
 subst eK
 intro pins s σ H R I h
 refine Call_ (jd I hg hm fq (PyProof.Rows.callWith_type1 (thn (@ha pos pins s σ H _ I h) fun us s1 ⟨vs,H1,I1,r1,q1⟩=>?_) (by rw[hs];rfl) (by rfl)))
 obtain⟨bb,a1,xs,e,sq1,q⟩:=q1
 subst e
 obtain⟨u1,rfl,ru⟩:=vals1 r1
 obtain rfl:u1=Value.ref a1:=ru
 obtain⟨vs,rv,c1⟩:=I1.sq2 sq1
 have mk:∀g,ESt bb (s1.heap.objs.size+1) s1.heap.objs.size a1 0 g→a1<s1.heap.objs.size→(∀c o,s1.heap.get? c=some o→g.get? c=some o) →
   wpAny (model X.prog X.w) X.A (pyIter (.ref (s1.heap.objs.size+1))) (PIE X pins σ (.Tuple elts kk pp) R) X.xe { s1 with heap:=g }:=fun g st la kp=>by
  obtain⟨⟨old,he⟩,st2⟩:=st
  refine wpAny_pyIter_enum he ⟨_,[s1.heap.objs.size+1,s1.heap.objs.size],ESt bb (s1.heap.objs.size+1) s1.heap.objs.size a1,_,H1,rfl,I1.kept (t':=s1.toks) kp,
   my (Nat.succ_ne_self _) (xeJ (xeG la)) (xeJ la),⟨⟨old,he⟩,st2⟩,fun b hb=>?_,q⟩
  simp only[xec,xep,xeV] at hb
  rcases hb with rfl | rfl
  ·exact I1.fpOk (xeB _) (I1.hok.fresh (xeB _))
  ·exact I1.fpOk (xeA _) (I1.hok.fresh (xeA _))
 cases bb with
 | true =>
  have c1:s1.heap.IsTuple a1 vs.toArray:=c1
  refine vB c1 ?_
  intro g z1 z2 _ kp
  refine mk g ⟨⟨_,z1⟩,z2⟩ ?_ kp
  obtain⟨o,e,_⟩:=c1;exact Heap.lt_size e
 | false =>
  have c1:s1.heap.IsList a1 vs.toArray:=c1
  refine call_enumerate_list c1 ?_
  intro g z1 z2 _ kp
  refine mk g ⟨⟨_,z1⟩,z2⟩ ?_ kp
  obtain⟨o,e,_⟩:=c1;exact Heap.lt_size e
end
def tK:Nat→List Tr→List Tr
 | _,[]=>[]
 | k,t::ts=>.tup [.int k,t]::tK (k+1) ts
def vQ (ts:List Tr):List Tr:=tK 0 ts
theorem wg:∀(k:Nat) (ts:List Tr),(tK k ts).length=ts.length
 | _,[]=>rfl
 | k,_::ts=>by show(tK (k+1) ts).length+1=_;rw[wg];rfl
theorem qt:∀ {k:Nat} {ts:List Tr} {i:Nat} {t:Tr},ts[i]? = some t→(tK k ts)[i]? = some (.tup [.int ((k+i:Nat):Int),t])
 | _,[],_,_,h=>by simp at h
 | k,x::ts,0,t,h=>by simp at h;subst h;rfl
 | k,x::ts,i+1,t,h=>by
  show(tK (k+1) ts)[i]? = _
  rw[qt (k:=k+1) (ts:=ts) (i:=i) (by simpa using h)]
  rw[show k+1+i=k+(i+1) by omega]
section
variable {K:PySem.W.Frag}
theorem nE {a:Addr}{ts:List Tr}:ItL (Ite K false a) (vQ ts) [(.lst ts,.ref a)] where
 go:=fun F H i s hi=>by
  obtain⟨a',ws,e,n,h,r⟩:=s _ xee
  cases e
  rw[show(vQ ts).length=ts.length from wg 0 ts] at hi
  obtain⟨w,e1,_⟩:=r.getT (xdO hi)
  exact⟨ws,w,SqL.of h,e1⟩
 stop:=fun F H s=>by
  obtain⟨a',ws,e,n,h,r⟩:=s _ xee
  cases e
  exact⟨ws,SqL.of h,by rw[show(vQ ts).length=ts.length from wg 0 ts,←r.len];exact xeA _⟩
 yld:=fun F i H x H' s d hi y=>by
  obtain⟨a',ws,e,n,h,r⟩:=s _ xee
  cases e
  obtain⟨v,q,hv,rfl,hq,rfl⟩:=y
  obtain⟨t,e1,e2⟩:=r.get (hv ws (SqL.of h))
  refine⟨.inr ⟨q,_,hq,rfl⟩,.tup [.int i,t],?_,q,_,rfl,fun z=>d q z hq,xM,⟨_,_,rfl,rfl,_,_,rfl,k7 hq e2,rfl⟩⟩
  have:=qt (k:=0) e1
  rw[Nat.zero_add] at this
  exact this
theorem m8 {a:Addr}{ts:List Tr}:ItL (Ite K true a) (vQ ts) [(.tup ts,.ref a)] where
 go:=fun F H i s hi=>by
  obtain⟨a',ws,e,n,h,r⟩:=s _ xee
  cases e
  rw[show(vQ ts).length=ts.length from wg 0 ts] at hi
  obtain⟨w,e1,_⟩:=r.getT (xdO hi)
  exact⟨ws,w,SqT.of h,e1⟩
 stop:=fun F H s=>by
  obtain⟨a',ws,e,n,h,r⟩:=s _ xee
  cases e
  exact⟨ws,SqT.of h,by rw[show(vQ ts).length=ts.length from wg 0 ts,←r.len];exact xeA _⟩
 yld:=fun F i H x H' s d hi y=>by
  obtain⟨a',ws,e,n,h,r⟩:=s _ xee
  cases e
  obtain⟨v,q,hv,rfl,hq,rfl⟩:=y
  obtain⟨t,e1,e2⟩:=r.get (hv ws (SqT.of h))
  refine⟨.inr ⟨q,_,hq,rfl⟩,.tup [.int i,t],?_,q,_,rfl,fun z=>d q z hq,xM,⟨_,_,rfl,rfl,_,_,rfl,k7 hq e2,rfl⟩⟩
  have:=qt (k:=0) e1
  rw[Nat.zero_add] at this
  exact this
def xaD (d:DA):DI:=fun τ KK=>d τ fun xs=>match xs with | [.tup ts]=>KK (vQ ts) | [.lst ts]=>KK (vQ ts) | _=>False
theorem aE {b:Bool}{n:Nat}{ta:TA}{da:DA}(h:OkA K b n ta da):OkI K b (xaP K ta) (xaD da):=fun B φ σ τ H R KK Rs hd q =>
 h B φ σ τ H _ _ Rs hd fun ts vs H1 x1 k1 l1 r1=>by
  split at k1
  ·rename_i us
   obtain⟨v,rfl,r⟩:=gP r1
   obtain⟨a,ws,e,n,ha,rl⟩:=id r
   subst e
   exact⟨true,a,ws,rfl,SqT.of ha,q _ _ _ H1 x1 k1 m8 fun p hp=>by
    cases xel.mp hp
    exact r⟩
  ·rename_i us
   obtain⟨v,rfl,r⟩:=gP r1
   obtain⟨a,ws,e,n,ha,rl⟩:=id r
   subst e
   exact⟨false,a,ws,rfl,SqL.of ha,q _ _ _ H1 x1 k1 nE fun p hp=>by
    cases xel.mp hp
    exact r⟩
  ·exact k1.elim
end
end L2
namespace L2
open PySem PySem.Spec PyProof.Rows
def xaJ (K:PySem.W.Frag):R2:=fun x y H Q=>∃a b xs ys,x=.ref a∧y=.ref b∧SqT K H a xs∧SqT K H b ys∧xs.length+ys.length≤sizeLine ∧
 (xs=[]→Q (.ref b) H)∧(xs≠[]→ys=[]→Q (.ref a) H)∧(xs≠[]→ys≠[]→∀p,H p=none→Q (.ref p) (upd H p (.tup (xs++ys))))
section
variable {X:Cx}
theorem oI:OpR X (binaryOp .Add) (xaJ X.K):=by
 intro pins s σ H x y v u Q I rx ry h
 obtain⟨a,b,xs,ys,rfl,rfl,ha,hb,hz,q0,q1,q2⟩:=h
 by_cases hx:xs=[]
 ·cases rx
  cases ry
  obtain⟨its,r1,p1,_⟩:=I.tuple ha
  obtain⟨its2,r2,p2,_⟩:=I.tuple hb
  obtain⟨⟨cls,dd,data,sl⟩,ho,hc,n,hd⟩:=id p1
  obtain⟨⟨cls2,dd2,data2,sl2⟩,ho2,hc2,n2,hd2⟩:=id p2
  simp only at hc hd hc2 hd2
  subst hc hd hc2 hd2
  have hv:its=[]:=r1.nil_iff.mpr hx
  exact concat_meets ⟨_,ho,rfl⟩ ⟨_,ho2,rfl⟩ noFill_tuple_add seq_tuple_add PySem.F.slot_tuple_add PySem.F.entry_tuple_add (PySem.F.args_tuple_add_2 _ _)
   (tuple_addW0 a b its.toArray its2.toArray n n2 dd dd2 sl sl2 (by simp[hv])) ⟨ho,ho2,⟨.ref b,H,I,rfl,q0 hx⟩⟩
 ·exact lh pins s σ H _ _ _ _ Q I rx ry ⟨a,b,xs,ys,rfl,rfl,ha,hb,hx,hz,q1 hx,q2 hx⟩
end
section
variable {X:Cx}
def xaU (K:PySem.W.Frag):R2:=fun x y H Q=>(rI0 fun i j=>.int (i+j)) x y H Q∨xbP x y H Q∨xaJ K x y H Q
theorem mK (K:PySem.W.Frag)(e:X.K=K:=by rfl):OpR X (binaryOp .Add) (xaU K):=by subst e;exact ze.or (pF.or oI)
def xcd (K:PySem.W.Frag):R2:=fun x y H Q=>(rI0 fun i j=>.bl (decide (i<j))) x y H Q∨xcx K x y H Q
theorem jU (K:PySem.W.Frag)(hu:X.A.units+64<cLine)(e:X.K=K:=by rfl):OpR X (compareOp .Lt) (xcd K):=by subst e;exact xab.or (xaF (xeE (xey _ _) hu))
end
section
variable {prog:Program} {w:World} {A:Around} {E:Value→Shared→Prop} {s:Shared}
theorem vW {t sl:Addr}{items:Array Value}{vl vu:Value}{lo hi:Option Int}{Q:Value→Shared→Prop}(ht:IsTup s.heap t items)(hs:s.heap.IsSliceOf sl vl vu .none)(pl:IsPart vl lo)(pu:IsPart vu hi)
  (hw:HT.sIx items.size 0 lo=0∧HT.sIx items.size items.size hi=items.size) (h:Q (.ref t) s):wpAny (model prog w) A (getItem (.ref t) (.ref sl)) Q E s:=by
 obtain⟨os,hos,hcs,hds⟩:=id hs
 have hTs:s.TypeIs (.ref sl) "slice" := ⟨os,hos,hcs⟩
 unfold getItem
 try with_reducible refine wpAny_holding ?_
 first | refine wpAny_bind (wpAny_pure ?_) | skip
 refine wpAny_bind (wpAny_sequenceKey ht.typeIs (by decide) ?_)
 refine wpAny_bind (wpAny_callSpecial?_slot (name:=Str.ofString "__getitem__") ht.typeIs PyProof.Rows.slot_tuple_getitem
  (wpAny_call_entry PyProof.Rows.slot_tuple_getitem ht.typeIs entry_tuple_getitem ?_ (args_tuple_getitem _ _)))
 show wpAny _ _ (Builtin.Tuple.tupleItemsOf (.ref t) >>= _) _ _ s
 refine wpAny_bind (tupleItemsOf_ ht ?_)
 refine wpAny_bind (wpAny_typeOf hTs ?_)
 rw[if_pos (by decide)]
 refine wpAny_bind (HT.uC hs pl pu ?_)
 have hyes:(((HT.sIx items.size 0 lo:Nat):Int) == 0&&(1:Int) == 1&&(HT.sIx items.size items.size hi-HT.sIx items.size 0 lo) == items.size)=true:=by
  rw[hw.1,hw.2];simp
 show wpAny _ _ (if (((HT.sIx items.size 0 lo:Nat):Int) == 0&&(1:Int) == 1&&(HT.sIx items.size items.size hi-HT.sIx items.size 0 lo) == items.size)=true then _ else _) _ _ s
 rw[if_pos hyes]
 have hex:∀ {Q':Bool→Shared→Prop} {E':Value→Shared→Prop} {A':Around},Q' true s→wpAny (model prog w) A' (Builtin.Tuple.tupleIsExact (.ref t)) Q' E' s:=fun {Q' E' A'} hq=>by
  unfold Builtin.Tuple.tupleIsExact
  refine wpAny_bind (wpAny_typeOf ht.typeIs (wpAny_pure ?_))
  have e:(Value.type "tuple" == Value.type "tuple")=true:=by decide
  rw[e];exact hq
 refine wpAny_bind (hex ?_)
 rw[if_pos rfl]
 exact wpAny_bind (wpAny_rule (wpAny_pure ⟨_,rfl,wpAny_pure h⟩))
end
section
variable {X:Cx}
def xa3 (K:PySem.W.Frag):V→Option Int→Option Int→Hp→VK→Prop:=fun x lo hi H Q=>∃a xs,x=.ref a∧SqT K H a xs ∧
 (tE xs lo hi=xs→Q (.ref a) H)∧∀p,H p=none→Q (.ref p) (upd H p (.tup (tE xs lo hi)))
theorem oZ:SlR X (xa3 X.K):=by
 intro pins s σ H x v vl vu lo hi sl Q I rx hs pl pu h
 obtain⟨a,xs,rfl,hx,q0,q⟩:=h
 by_cases hw:HT.sIx xs.length 0 lo=0∧HT.sIx xs.length xs.length hi=xs.length
 ·cases rx
  obtain⟨its,r,ht,hz⟩:=I.tuple hx
  have hlen:its.toArray.size=xs.length:=by rw[xet];exact r.length.symm
  refine⟨"tuple", _,PyProof.Rows.slot_tuple_getitem.lookup,ht.typeIs,?_⟩
  refine vW ht hs pl pu (by rw[hlen];exact hw) ⟨.ref a,H,I,rfl,q0 ?_⟩
  unfold tE
  rw[hw.1,hw.2,xdD,xeK,List.take_length]
 ·exact l6 pins s σ H _ v vl vu lo hi sl Q I rx hs pl pu ⟨a,xs,rfl,hx,hw,q⟩
def xcb (K:PySem.W.Frag):V→Option Int→Option Int→Hp→VK→Prop:=fun x lo hi H Q=>lV K x lo hi H Q∨xa3 K x lo hi H Q
theorem og (K:PySem.W.Frag)(e:X.K=K:=by rfl):SlR X (xcb K):=by
 subst e
 intro pins s σ H x v vl vu lo hi sl Q I rx hs pl pu h
 rcases h with h | h
 ·exact tQ pins s σ H x v vl vu lo hi sl Q I rx hs pl pu h
 ·exact oZ pins s σ H x v vl vu lo hi sl Q I rx hs pl pu h
def nU:V→List V→Hp→VK→Prop:=fun x vs H Q=>∃(l:Addr) (xs:List V) (y:V) (k:Nat),x=.ref l∧vs=[.int k,y]∧H l=some (.lst xs)∧xs.length<sizeLine∧k≤xs.length∧Q .non (upd H l (.lst (xs.take k++[y]++xs.drop k)))
theorem xaL {pins:List (Addr×Obj)}{s:Shared}{σ:St}{H:Hp}{l:Addr}{xs:List V}{y:V}{u2:Value}{Q:VK}(I:Inv X pins σ H s)(hH:H l=some (.lst xs))(hz:xs.length<sizeLine)(ki:Int)(k:Nat)(t1:Tok)(hk1:0≤ki)(hk3:ki≤(xs.length:Int))(hkt:ki.toNat=k)
  (ru:RelV y u2) (q:Q .non (upd H l (.lst (xs.take k++[y]++xs.drop k)))):wpAny (model X.prog X.w) X.A (call (.builtin "list.insert") [.ref l,.int ki t1,u2]) (EP X pins σ Q) X.xe s:=by
 obtain⟨z,its,n,r,hl,e⟩:=I.lstM hH
 have hk2:ki<2 ^ 63:=by
  have:xs.length≤16777216:=z
  omega
 have hfit:¬(!Builtin.List.listFitsIndex ki)=true:=by
  rw[fitsIndex_both (by omega) hk2]
  exact xdd
 have hsz:its.toArray.size≤sizeLine:=by rw[xet];omega
 have hk':k≤its.length:=by omega
 refine call_meets F.slot_list_insert ⟨_,e,rfl⟩ F.entry_list_insert (F.args_list_insert_3 _ _ _) (AutoSeq1.list_insert_list_int_val_1 l its.toArray n ki t1 u2 hfit hsz) ⟨e,?_⟩
 refine⟨.non,_,I.lset (its':=its.take k++[u2]++its.drop k) hH e ?_ ((yy.append (r.take k) (.cons ru .nil)).append (r.drop k)) ?_,rfl,q⟩
 ·have e1:(if ki<0 then(ki+(its.toArray.size:Int)).toNat else min ki.toNat its.toArray.size)=k:=by
   rw[if_neg (by omega),hkt,xet,Nat.min_eq_left hk']
  show((its.toArray.extract 0 (if ki<0 then(ki+(its.toArray.size:Int)).toNat else min ki.toNat its.toArray.size)).push u2++its.toArray.extract (if ki<0 then(ki+(its.toArray.size:Int)).toNat else min ki.toNat its.toArray.size))=_
  rw[e1]
  apply Array.toList_inj.mp
  simp
  exact xew (by rw[xdW];exact xeA _)
 ·simp only[xdU,xd4,xdW,xd3]
  omega
theorem dN:MtM X "list.insert" nU:=by
 intro pins s σ H x vs v us Q I rx rv h
 obtain⟨l,xs,y,k,rfl,rfl,hH,hz,hk,q⟩:=h
 cases rx
 obtain⟨u1,u2,rfl,⟨t1,rfl⟩,ru⟩:=vals2 rv
 have hk1:(0:Int)≤(k:Int):=Int.natCast_nonneg k
 have hk3:(k:Int)≤(xs.length:Int):=Int.ofNat_le.mpr hk
 have hkt:(k:Int).toNat=k:=xdt k
 generalize (k:Int)=ki at hk1 hk3 hkt ⊢
 exact xaL I hH hz ki k t1 hk1 hk3 hkt ru q
end
section
variable {K:PySem.W.Frag} {fr:Bool}
def bS (x y:Tr)(KK:Tr→Prop):Prop:=match x,y with
 | .int i,.int j=>KK (.int (i+j))
 | .lst ts,.lst us=>ts.length+us.length≤sizeLine∧KK (.lst (ts++us))
 | .tup ts,.tup us=>ts.length+us.length≤sizeLine∧KK (.tup (ts++us))
 | _,_=>False
theorem bh {b:Bool}{ta tb:TE}{da db:DE}(ha:OkE K b ta da)(hb:OkE K b tb db):OkE K b (tOp (xaU K) ta tb) (d2 bS da db):=fun B φ σ τ H Q KK R hd q =>
 ha B φ σ τ H _ _ R hd fun t v H1 x1 k1 r1=>hb B φ σ τ H1 _ _ (R.hx x1) k1 fun u w H2 x2 k2 r2=>by
  have r1':=x2.rep (fun a s=>R.sB s) r1
  have x:=x1.trans x2
  replace k2:bS t u KK:=k2
  unfold bS at k2
  split at k2
  ·rename_i i j
   cases (show v=.int i from r1');cases (show w=.int j from r2)
   exact .inl ⟨i,j,rfl,rfl,q _ _ H2 x k2 rfl⟩
  ·rename_i ts us
   obtain⟨a,ws,e,n,ha',rl⟩:=r1'
   obtain⟨a2,ws2,e2,n2,ha2,rl2⟩:=r2
   exact .inr (.inl ⟨a,a2,ws,ws2,e,e2,ha',ha2,by rw[←rl.len,←rl2.len];exact k2.1,fun p hp=>q _ _ _ (x.trans (HX.new (R.hx x) hp _)) k2.2 ⟨p,_,rfl,fun z=>(R.hx x).domB z hp,xM,wu hp (rl.app rl2)⟩⟩)
  ·rename_i ts us
   obtain⟨a,ws,e,n,ha',rl⟩:=id r1'
   obtain⟨a2,ws2,e2,n2,ha2,rl2⟩:=id r2
   refine .inr (.inr ⟨a,a2,ws,ws2,e,e2,SqT.of ha',SqT.of ha2,by rw[←rl.len,←rl2.len];exact k2.1,fun z=>?_,fun _ z=>?_,fun _ _ p hp=>q _ _ _ (x.trans (HX.new (R.hx x) hp _)) k2.2 ⟨p,_,rfl,fun z=>(R.hx x).domB z hp,xM,wu hp (rl.app rl2)⟩⟩)
   ·have e0:ts=[]:=by
     have:=rl.len;rw[z] at this;exact xdX.mp this
    subst e0
    rw[←e2];exact q _ _ H2 x k2.2 (by rw[xem];exact r2)
   ·have e0:us=[]:=by
     have:=rl2.len;rw[z] at this;exact xdX.mp this
    subst e0
    rw[←e];exact q _ _ H2 x k2.2 (by rw[xdz];exact r1')
  ·exact k2.elim
def xcI (x y:Tr)(KK:Tr→Prop):Prop:=match x,y with
 | .int i,.int j=>KK (.bl (decide (i<j)))
 | x,y=>∃ns ms:List Int,x=.tup (ns.map Tr.int)∧y=.tup (ms.map Tr.int)∧KK (.bl (HT.lexLt ns ms))
theorem j4:OpS (xcd K) xcI:=fun F G H x y t u KK Q r1 r2 hf q=>by
 unfold xcI at hf
 split at hf
 ·rename_i i j
  cases (show x=.int i from r1);cases (show y=.int j from r2)
  exact .inl ⟨i,j,rfl,rfl,q _ _ rfl hf⟩
 ·obtain⟨ns,ms,rfl,rfl,k⟩:=hf
  obtain⟨a,ws,e,n,ha,rl⟩:=r1
  obtain⟨a2,ws2,e2,n2,ha2,rl2⟩:=r2
  rw[jF rl] at ha
  rw[jF rl2] at ha2
  exact .inr ⟨a,a2,ns,ms,e,e2,SqT.of ha,SqT.of ha2,q _ _ rfl k⟩
theorem rO {F:Addr→Prop}{H:Hp}{ts:List Tr}{ws:List V}{lo hi:Option Int}(r:yQ F H ts ws)(h:tE ws lo hi=ws):jK ts lo hi=ts:=by
 unfold jK
 unfold tE at h
 rw[←r.len] at h
 have h1:((ts.drop (HT.sIx ts.length 0 lo)).take (HT.sIx ts.length ts.length hi-HT.sIx ts.length 0 lo)).length=ts.length:=by
  have:=xeO List.length h
  rw[xd4,xdW] at this ⊢
  rw[←r.len] at this
  exact this
 have h2:HT.sIx ts.length 0 lo=0∨ts.length=0:=by
  rw[xd4,xdW] at h1
  omega
 rcases h2 with h2 | h2
 ·rw[h2,xdD,xeK]
  rw[h2,xd4,xdD,xeK] at h1
  exact xew (by omega)
 ·have:ts=[]:=xdX.mp h2
  subst this
  simp
theorem pA {b:Bool}{te:TE}{tl th:TO}{d:DE}{dl dh:DO}(h:OkE K b te d)(hl:OkO K tl dl)(hh:OkO K th dh):OkE K b (tSl (xcb K) te tl th) (dSl d dl dh):=fun B φ σ τ H Q KK R hd q =>
 h B φ σ τ H _ _ R hd fun t v H1 x1 k1 r1=>hl B φ σ τ H1 _ _ (R.hx x1) k1 fun lo H2 x2 k2=>hh B φ σ τ H2 _ _ (R.hx (x1.trans x2)) k2 fun hi H3 x3 k3=>by
  have r3:=(x2.trans x3).rep (fun a s=>R.sB s) r1
  have x:=(x1.trans x2).trans x3
  cases t with
  | lst ts =>
   obtain⟨a,ws,e,n,ha,rl⟩:=r3
   exact .inl ⟨a,ws,e,SqL.of ha,fun p hp=>q _ _ _ (x.trans (HX.new (R.hx x) hp _)) k3 ⟨p,_,rfl,fun z=>(R.hx x).domB z hp,xM,wu hp (rl.cut lo hi)⟩⟩
  | tup ts =>
   obtain⟨a,ws,e,n,ha,rl⟩:=id r3
   refine .inr ⟨a,ws,e,SqT.of ha,fun z=>?_,fun p hp=>q _ _ _ (x.trans (HX.new (R.hx x) hp _)) k3 ⟨p,_,rfl,fun z=>(R.hx x).domB z hp,xM,wu hp (rl.cut lo hi)⟩⟩
   rw[←e]
   exact q _ _ H3 x k3 (by rw[rO rl z];exact r3)
  | _=>exact k3.elim
def xcy (i:Nat)(dk d:DE):DS:=fun G τ=>match nth τ i with
 | .ow ts=>dk τ fun k=>d τ fun t=>∃n:Nat,k=.int n∧n≤ts.length∧ts.length<sizeLine∧G.nx (τ.set i (.ow (ts.take n++[t]++ts.drop n)))
 | _=>False
theorem nv {F:Addr→Prop}{H:Hp}{ts:List Tr}{ws:List V}(n:Nat)(r:yQ F H ts ws):yQ F H (ts.take n) (ws.take n):=yo.mpr (uo n (yo.mp r))
theorem mR {F:Addr→Prop}{H:Hp}{ts:List Tr}{ws:List V}(n:Nat)(r:yQ F H ts ws):yQ F H (ts.drop n) (ws.drop n):=yo.mpr (vJ n (yo.mp r))
theorem nQ {b:Bool}{i:Nat}{tk te:TE}{dk d:DE}(hk:OkE K b tk dk)(h:OkE K true te d):OkS K fr (t5 (tBM K "list" nU (fb i) (zL tk (zL te dY)))) (xcy i dk d):=fun B φ σ τ H E G R hd e=>by
 have en:=R.ent i
 unfold xcy at hd
 revert en hd
 cases hi:nth τ i with
 | ow ts =>
  intro hd ⟨a,ws,e1,e2,e3,e4,r⟩
  refine⟨_,e1,.inl ⟨rfl,_,SqL.of e4⟩,hk B φ σ τ H _ _ R hd fun t0 v0 H0 x0 k0 r0=>h B φ σ τ H0 _ _ (R.hx x0) k0 fun t v H1 x1 k1 r1=>?_⟩
  obtain⟨n,rfl,hn,hz,k1⟩:=k1
  cases (show v0=.int n from r0)
  obtain⟨ws',f4,f5,_⟩:=kR R (x0.trans x1) hi e1
  exact⟨a,ws',v,n,rfl,rfl,f4,by rw[←f5.len];exact hz,by rw[←f5.len];exact hn,e.nx φ σ _ _ ((R.hx (x0.trans x1)).wrOw hi e1 (((nv n f5).app (show yQ _ _ [t] [v] from⟨v,[],rfl,r1,rfl⟩)).app (mR n f5))) k1⟩
 | _=>exact fun z _=>z.elim
end
end L2
namespace L2
open PySem PySem.Spec PyProof.Rows
def om (b:Bool):String:=if b then "tuple_iterator" else "list_iterator"
abbrev za1 (b:Bool)(h:Heap)(a:Addr):Heap:=h.push { cls:=.type (om b),data:=.fields #[.ref a,.int 0 0] }
abbrev za2 (b c:Bool)(h:Heap)(a d:Addr):Heap:=(za1 b h a).push { cls:=.type (om c),data:=.fields #[.ref d,.int 0 0] }
abbrev za3 (b c:Bool)(h:Heap)(a d:Addr):Heap:=(za2 b c h a d).push { cls:=.type "tuple", data:=.seq #[.ref h.objs.size,.ref (za1 b h a).objs.size] }
abbrev za4 (b c:Bool)(h:Heap)(a d:Addr):Heap:=(za3 b c h a d).push { cls:=.type "tuple", data:=.seq #[.none,.none] }
abbrev za5 (b c:Bool)(h:Heap)(a d:Addr):Heap:=(za4 b c h a d).push { cls:=.type "zip", data:=.fields #[.none,.bool false,.bool false,.ref (za2 b c h a d).objs.size,.ref (za3 b c h a d).objs.size] }
theorem jt {prog:Program}{w:World}{A:Around}{E:Value→Shared→Prop}{s:Shared}{b:Bool}{a:Addr}{vs:List Value}{Q:Value→Shared→Prop}(h:tM b a vs s.heap)(q:Q (.ref s.heap.objs.size) { s with heap:=za1 b s.heap a }):wpAny (model prog w) A (pyIter (.ref a)) Q E s:=by
 cases b with
 | true=>exact wpAny_pyIter_tuple (show s.heap.IsTuple a vs.toArray from h) q
 | false=>exact wpAny_pyIter_list (show s.heap.IsList a vs.toArray from h) q
theorem mV {b:Bool}{a:Addr}{vs:List Value}{h:Heap}(s:tM b a vs h)(o:Obj):tM b a vs (h.push o):=(gf b 0 a vs).smv _ _ s fun o' e=>Heap.get?_push_of_some _ e
theorem m_ (b c:Bool)(a d:Addr)(xs ys:List Value):Meets (Builtin.«zip.__new__» ⟨[.type "zip", .ref a,.ref d],[]⟩) (fun _ R s=>tM b a xs s.heap∧tM c d ys s.heap∧R (.ok (.ret (.ref (za4 b c s.heap a d).objs.size))) { s with heap:=za5 b c s.heap a d }) :=
 .of_wp fun prog w A R s h=>by
  obtain⟨hp,g,dd,tk,os⟩:=s
  obtain⟨ha,hb,h⟩:=h
  have hsub:=sub_zip
  have A1:tM b a xs (Shared.heap ⟨hp,g,dd,tk,os⟩):=ha
  have B1:tM c d ys (Shared.heap ⟨hp.push { cls:=.type (om b),data:=.fields #[.ref a,.int 0 0] },g,dd,tk,os⟩):=mV hb _
  wp_walk using jt A1,jt B1
  exact⟨_,rfl,h⟩
section
variable {prog:Program} {w:World} {A:Around} {E:Value→Shared→Prop} {s:Shared}
theorem m9 {b c:Bool}{a d:Addr}{xs ys:List Value}{Q:Value→Shared→Prop}(ha:tM b a xs s.heap)(hb:tM c d ys s.heap)
  (h:∀g,IsZip g (s.heap.objs.size+4) (s.heap.objs.size+2) (s.heap.objs.size+3) .none→IsPair g (s.heap.objs.size+2) (.ref s.heap.objs.size) (.ref (s.heap.objs.size+1))→IsPair g (s.heap.objs.size+3) .none .none →
   Tn2 b s.heap.objs.size a 0 g→Tn2 c (s.heap.objs.size+1) d 0 g→(∀c o,s.heap.get? c=some o→g.get? c=some o)→Q (.ref (s.heap.objs.size+4)) { s with heap:=g }) :
  wpAny (model prog w) A (call (.type "zip") [.ref a,.ref d]) Q E s:=by
 refine callType_new F.called_zip (by decide) (F.typeCall_zip_2 _ _) (F.newCall_zip_2 _ _) (fun obj=>F.args_object_init_3 obj _ _) F.entry_zip_new (m_ b c a d xs ys) ⟨ha,hb,?_⟩
 have n1:(za1 b s.heap a).objs.size=s.heap.objs.size+1:=Heap.size_push ..
 have n2:(za2 b c s.heap a d).objs.size=s.heap.objs.size+2:=by rw[Heap.size_push,n1]
 have n3:(za3 b c s.heap a d).objs.size=s.heap.objs.size+3:=by rw[Heap.size_push,n2]
 have n4:(za4 b c s.heap a d).objs.size=s.heap.objs.size+4:=by rw[Heap.size_push,n3]
 have o5:(za5 b c s.heap a d).get? (za4 b c s.heap a d).objs.size=some _:=Heap.get?_push_size _ rfl
 have o4:(za5 b c s.heap a d).get? (za3 b c s.heap a d).objs.size=some _:=Heap.get?_push_of_some _ (Heap.get?_push_size _ rfl)
 have o3:(za5 b c s.heap a d).get? (za2 b c s.heap a d).objs.size=some _:=Heap.get?_push_of_some _ (Heap.get?_push_of_some _ (Heap.get?_push_size _ rfl))
 have o2:(za5 b c s.heap a d).get? (za1 b s.heap a).objs.size=some _:=Heap.get?_push_of_some _ (Heap.get?_push_of_some _ (Heap.get?_push_of_some _ (Heap.get?_push_size _ rfl)))
 have o1:(za5 b c s.heap a d).get? s.heap.objs.size=some _:=Heap.get?_push_of_some _ (Heap.get?_push_of_some _ (Heap.get?_push_of_some _ (Heap.get?_push_of_some _ (Heap.get?_push_size _ rfl))))
 show _∧_
 rw[n2,n3,n4] at o5
 rw[n1,n2] at o3
 rw[n3] at o4
 rw[n1] at o2
 rw[n4]
 refine⟨⟨_,o5,rfl⟩,h _ o5 o3 o4 ?_ ?_ fun c o g=>Heap.get?_push_of_some _ (Heap.get?_push_of_some _ (Heap.get?_push_of_some _ (Heap.get?_push_of_some _ (Heap.get?_push_of_some _ g))))⟩
 ·cases b with
  | true=>exact⟨_,o1,rfl,rfl⟩
  | false=>exact⟨_,o1,rfl,rfl⟩
 ·cases c with
  | true=>exact⟨_,o2,rfl,rfl⟩
  | false=>exact⟨_,o2,rfl,rfl⟩
end
def xbB (K:PySem.W.Frag)(b c:Bool)(a1 a2:Addr):It :=
 ⟨fun i H=>∃xs ys x y,Sq2 K b H a1 xs∧Sq2 K c H a2 ys∧xs[i]? = some x∧ys[i]? = some y,
  fun i H v H'=>∃x y q,(∀xs,Sq2 K b H a1 xs→xs[i]? = some x)∧(∀ys,Sq2 K c H a2 ys→ys[i]? = some y)∧v=.ref q∧H q=none∧H'=upd H q (.tup [x,y]),
  fun i H=>∃xs ys,Sq2 K b H a1 xs∧Sq2 K c H a2 ys∧(xs.length≤i∨ys.length≤i)⟩
section
variable {P:Program} {w:World} {K:PySem.W.Frag} {z ti to i1 i2 a1 a2:Addr} {b c':Bool}
def ZS2 (b c:Bool)(z ti to i1 i2 a1 a2:Addr)(i:Nat)(h:Heap):Prop:=IsZip h z ti to .none∧IsPair h ti (.ref i1) (.ref i2)∧(∃p q,IsPair h to p q)∧Tn2 b i1 a1 i h∧Tn2 c i2 a2 i h
theorem bf {elts:List Expr}{kk:Nat}{pp:Pos}(D:ZA z ti to i1 i2 a1 a2):Turn P w K (.Tuple elts kk pp) (xbB K b c' a1 a2) [z,ti,to,i1,i2] z (ZS2 b c' z ti to i1 i2 a1 a2) where
 mem:=by simp
 obj:=fun i h st c hc=>by
  obtain⟨s1,s2,⟨p,q,s3⟩,s4,s5⟩:=st
  simp only[xec,xep,xeV] at hc
  rcases hc with e | e | e | e | e<;>subst e
  ·exact⟨_,s1,fun v=>by simp⟩
  ·exact⟨_,s2,fun v=>by simp⟩
  ·exact⟨_,s3,fun v=>by simp⟩
  ·exact(gf b _ a1 []).ob _ _ s4
  ·exact(gf c' _ a2 []).ob _ _ s5
 keep:=fun i h h' st k=>by
  obtain⟨s1,s2,⟨p,q,s3⟩,s4,s5⟩:=st
  exact⟨k _ (by simp) _ s1,k _ (by simp) _ s2,⟨p,q,k _ (by simp) _ s3⟩,(gf b i1 a1 []).mv _ _ _ s4 fun o e=>k _ (by simp) o e,(gf c' i2 a2 []).mv _ _ _ s5 fun o e=>k _ (by simp) o e⟩
 item:=by
  intro X hP hw hK hc i pins s σ H E I hf st hg
  subst hP hw hK
  obtain⟨Z,TI,⟨p,q,TO⟩,b1,b2⟩:=st
  obtain⟨xs,ys,x,y,sq1,sq2,hx,hy⟩:=hg
  obtain⟨vs,rv,c1⟩:=I.sq2 sq1
  obtain⟨us,ru,c2⟩:=I.sq2 sq2
  obtain⟨xv,ex,rx⟩:=rv.get hx
  obtain⟨yv,ey,ry⟩:=ru.get hy
  have hT:s.TypeIs (.ref z) "zip" := ⟨_,Z,rfl⟩
  have fr:H s.heap.objs.size=none:=I.hok.fresh (xeA _)
  unfold pyNext
  refine wpAny_bind (wpAny_attempt (wpAny_callSpecial?_slot (name:=Str.ofString "__next__") hT F.slot_zip_next (wpAny_call_entry F.slot_zip_next hT F.entry_zip_next (tU D (gf b i1 a1 vs) (gf c' i2 a2 us) Z TI TO b1 b2 c1 c2 ex ey fun g Z' TO' b1' b2' T' kp=>?_) (F.args_zip_next_1 _))))
  refine wpAny_pure ⟨_,rfl,wpAny_letOwnedTupleGo_zip Z' fun g2 Z2 S2=>?_⟩
  obtain⟨⟨d1,d2,d3,d4,d5,d6,d7,d8,d9,d10⟩,_⟩:=D
  have ltz:z<s.heap.objs.size:=Heap.lt_size Z
  have kp2:∀c o,c∉[z,ti,to,i1,i2]→s.heap.get? c=some o→g2.get? c=some o:=fun c o hc e=>by
   simp only[xec,xep,xeV,not_or] at hc
   exact S2.extBut _ _ hc.1 (kp c o hc.1 hc.2.2.1 hc.2.2.2.1 hc.2.2.2.2 e)
  have TI2:IsPair g2 ti (.ref i1) (.ref i2):=S2.extBut _ _ d1 (kp _ _ d1 d5 d6 d7 TI)
  have T2:IsPair g2 s.heap.objs.size xv yv:=S2.extBut _ _ (xeI ltz) T'
  have st2:ZS2 b c' z ti to i1 i2 a1 a2 (i+1) g2:=⟨Z2,TI2,⟨_,_,S2.extBut _ _ d2 TO'⟩,(gf b i1 a1 vs).mv _ _ _ b1' fun o=>S2.extBut _ o d3,(gf c' i2 a2 us).mv _ _ _ b2' fun o=>S2.extBut _ o d4⟩
  have nfp:∀c u,H c=some u→c∉[z,ti,to,i1,i2]:=fun c u e hm=>by rw[(hf c hm).1] at e;cases e
  have nT:∀c o,s.heap.get? c=some o→c≠s.heap.objs.size:=fun c o e=>xeJ (Heap.lt_size e)
  refine⟨.ref s.heap.objs.size,upd H s.heap.objs.size (.tup [x,y]),?_,rfl,⟨x,y,_,fun xs' h'=>by rw[←I.sq2_inj sq1 h'];exact hx,fun ys' h'=>by rw[←I.sq2_inj sq2 h'];exact hy,rfl,fr,rfl⟩,st2,fun c hm=>?_⟩
  ·show Inv X pins σ (upd H s.heap.objs.size (.tup [x,y])) { s with heap:=g2,gens:=s.gens,drawn:=s.drawn,toks:=s.toks }
   refine Inv.step (s:=s) (g':=s.gens) (d':=s.drawn) (t':=s.toks) (ch:=[z,ti,to,i1,i2]) I (fun c hm=>?_) (fun c o _ _ hm e _=>kp2 c o hm e) (fun c o _ _ hm e _=>⟨o.slots,kp2 c o hm e⟩) (fun c o hm e n=>by rw[xC (nT c o e)];exact n) (fun c o hm e=>⟨o,kp2 c o hm e⟩)
    (fun c zs e=>by rw[xC (xn e fr)];exact e) (fun c o u e=>by rw[xC (xn e fr)];exact e) (fun c ps e=>⟨#[],by rw[xC (xn e fr),e];simp⟩) (fun m hm=>?_) (fun c u e=>?_) I.bare
   ·obtain⟨_,f1,_,f3,f4,f5⟩:=hf c hm
    exact⟨f3,f1,f4,f5⟩
   ·obtain⟨o,es,ep,ho,r⟩:=hm
    exact⟨o,es,ep,kp2 _ o (fun z'=>(hf _ z').2.1 rfl) ho,r⟩
   ·by_cases hc':c=s.heap.objs.size
    ·subst hc'
     rw[xM] at e
     cases e
     exact⟨by show 2≤sizeLine;decide,[xv,yv],.cons rx (.cons ry .nil),_,T2,rfl,0,rfl⟩
    ·rw[xC hc'] at e
     refine(I.hok c u e).stay (fun c' v hcc q'=>kp2 c' v ?_ q') (fun c' q'=>by rw[xC (xn q' fr)];exact q') (fun c' zs q'=>by rw[xC (xn q' fr)];exact q') fun c' o u q'=>by rw[xC (xn q' fr)];exact q'
     rcases hcc with rfl | hcc
     ·exact nfp _ _ e
     ·exact nfp _ _ hcc
  ·rw[xC]
   ·exact(hf c hm).1
   ·simp only[xec,xep,xeV] at hm
    rcases hm with e | e | e | e | e<;>subst e
    ·exact nT _ _ Z
    ·exact nT _ _ TI
    ·exact nT _ _ TO
    ·obtain⟨o,e,_⟩:=(gf b _ a1 []).ob _ _ b1;exact nT _ _ e
    ·obtain⟨o,e,_⟩:=(gf c' _ a2 []).ob _ _ b2;exact nT _ _ e
 done:=by
  intro X hP hw hK hc i pins s σ H E I hf st hg
  subst hP hw hK
  obtain⟨Z,TI,⟨p,q,TO⟩,b1,b2⟩:=st
  obtain⟨xs,ys,sq1,sq2,hend⟩:=hg
  obtain⟨vs,rv,c1⟩:=I.sq2 sq1
  obtain⟨us,ru,c2⟩:=I.sq2 sq2
  have hT:s.TypeIs (.ref z) "zip" := ⟨_,Z,rfl⟩
  have he:vs[i]? = none∨us[i]? = none:=hend.imp (fun h=>List.getElem?_eq_none_iff.mpr (by rw[←rv.length];exact h)) (fun h=>List.getElem?_eq_none_iff.mpr (by rw[←ru.length];exact h))
  unfold pyNext
  refine wpAny_bind (wpAny_attempt (wpAny_callSpecial?_slot (name:=Str.ofString "__next__") hT F.slot_zip_next (wpAny_call_entry F.slot_zip_next hT F.entry_zip_next (cW (I.ok.hd hc) D (gf b i1 a1 vs) (gf c' i2 a2 us) Z TI TO b1 b2 c1 c2 he fun g e kp ho=>?_) (F.args_zip_next_1 _))))
  obtain⟨o,ho,hcl⟩:=ho
  refine wpAny_bind (wpAny_isInstance (T := "StopIteration") (b:=true) ⟨o,ho,hcl⟩ isSubtype_stop (wpAny_pure ⟨rfl,?_⟩))
  have kp2:∀c o,c∉[z,ti,to,i1,i2]→s.heap.get? c=some o→g.get? c=some o:=fun c o hc e=>by
   simp only[xec,xep,xeV,not_or] at hc
   exact kp c o hc.1 hc.2.2.1 hc.2.2.2.1 hc.2.2.2.2 e
  have nfp:∀c u,H c=some u→c∉[z,ti,to,i1,i2]:=fun c u e hm=>by rw[(hf c hm).1] at e;cases e
  refine Inv.step (s:=s) (g':=s.gens) (d':=s.drawn) (t':=s.toks) (ch:=[z,ti,to,i1,i2]) I (fun c hm=>?_) (fun c o _ _ hm e _=>kp2 c o hm e) (fun c o _ _ hm e _=>⟨o.slots,kp2 c o hm e⟩) (fun c o hm e n=>n) (fun c o hm e=>⟨o,kp2 c o hm e⟩)
   (fun c zs e=>e) (fun c o u e=>e) (fun c ps e=>⟨#[],by rw[e];simp⟩) (fun m hm=>?_) (fun c u e=>?_) I.bare
  ·obtain⟨_,f1,_,f3,f4,f5⟩:=hf c hm
   exact⟨f3,f1,f4,f5⟩
  ·obtain⟨o,es,ep,ho,r⟩:=hm
   exact⟨o,es,ep,kp2 _ o (fun z'=>(hf _ z').2.1 rfl) ho,r⟩
  ·refine(I.hok c u e).stay (fun c' v hcc q'=>kp2 c' v ?_ q') (fun _ q'=>q') (fun _ _ q'=>q') fun _ _ _ q'=>q'
   rcases hcc with rfl | hcc
   ·exact nfp _ _ e
   ·exact nfp _ _ hcc
 self:=fun A i s Q E st h=>wpAny_pyIter_zip st.1 h
end
def lS (K:PySem.W.Frag)(ta:TA):TI:=fun σ H R=>ta σ H fun vs H1=>∃(b c:Bool) (a1 a2:Addr) (xs ys:List V),vs=[.ref a1,.ref a2]∧Sq2 K b H1 a1 xs∧Sq2 K c H1 a2 ys∧R (xbB K b c a1 a2) H1
section
variable {X:Cx}
theorem mq (K:PySem.W.Frag){elts:List Expr}{kk:Nat}{pp:Pos}{a b:Expr}{ta:TA}{p pos:Pos}(hg:Gl X "zip")(hm:X.mg "zip" = none)(ha:PA X [a,b] ta)(hs:starEach [a,b] X.env=[(false,eval a X.env),(false,eval b X.env)]:=by rfl)(hs2:starEach [b] X.env=[(false,eval b X.env)]:=by rfl)(eK:X.K=K:=by rfl) :
  PI X (.Tuple elts kk pp) (.Call (.Name "zip" p) [a,b] [] pos) (lS K ta):=by
 subst eK
 intro pins s σ H R I h
 refine Call_ (jd I hg hm xaT (PyProof.Rows.callWith_type1 (thn (@ha pos pins s σ H _ I h) fun us s1 ⟨vs,H1,I1,r1,q1⟩=>?_) (by rw[hs,hs2]) (by rw[hs2];rfl)))
 obtain⟨bb,cc,a1,a2,xs,ys,e,sq1,sq2,q⟩:=q1
 subst e
 obtain⟨u1,u2,rfl,e1,e2⟩:=vals2 r1
 obtain rfl:u1=Value.ref a1:=e1
 obtain rfl:u2=Value.ref a2:=e2
 obtain⟨vs,rv,c1⟩:=I1.sq2 sq1
 obtain⟨us,ru,c2⟩:=I1.sq2 sq2
 have fp:∀k:Nat,jQ X pins H1 (s1.heap.objs.size+k):=fun k=>I1.fpOk (xey _ _) (I1.hok.fresh (xey _ _))
 have lt:∀(b:Bool) (a:Addr) (vs:List Value),tM b a vs s1.heap→a<s1.heap.objs.size:=fun b a vs h=>by
  cases b with
  | true=>obtain⟨o,e,_⟩:=(show s1.heap.IsTuple a vs.toArray from h);exact Heap.lt_size e
  | false=>obtain⟨o,e,_⟩:=(show s1.heap.IsList a vs.toArray from h);exact Heap.lt_size e
 refine m9 c1 c2 ?_
 intro g z1 z2 z3 z4 z5 kp
 have st:ZS2 bb cc (s1.heap.objs.size+4) (s1.heap.objs.size+2) (s1.heap.objs.size+3) s1.heap.objs.size (s1.heap.objs.size+1) a1 a2 0 g:=⟨z1,z2,⟨_,_,z3⟩,z4,z5⟩
 refine wpAny_pyIter_zip st.1 ⟨_,_,_,_,H1,rfl,I1.kept (t':=s1.toks) kp,bf (xat (lt _ _ _ c1) (lt _ _ _ c2)),st,fun c hc=>?_,q⟩
 simp only[xec,xep,xeV] at hc
 rcases hc with e | e | e | e | e<;>subst e
 ·exact fp 4
 ·exact fp 2
 ·exact fp 3
 ·exact fp 0
 ·exact fp 1
end
def tI:List Tr→List Tr→List Tr
 | t::ts,u::us=>.tup [t,u]::tI ts us
 | _,_=>[]
theorem hU:∀(ts us:List Tr),(tI ts us).length=min ts.length us.length
 | [],_=>by simp[tI]
 | _::_,[]=>by simp[tI]
 | _::ts,_::us=>by simp only[tI,xdV,hU ts us];omega
theorem aL:∀ {ts us:List Tr} {i:Nat} {t u:Tr},ts[i]? = some t→us[i]? = some u→(tI ts us)[i]? = some (.tup [t,u])
 | [],_,_,_,_,h,_=>by simp at h
 | _::_,[],_,_,_,_,h=>by simp at h
 | _::_,_::_,0,_,_,h,h'=>by simp at h h';subst h h';rfl
 | _::ts,_::us,i+1,t,u,h,h'=>by
  show(tI ts us)[i]? = _
  exact aL (by simpa using h) (by simpa using h')
def sqT (b:Bool)(ts:List Tr):Tr:=if b then .tup ts else .lst ts
section
variable {K:PySem.W.Frag}
theorem uK {F:Addr→Prop}{H:Hp}{b:Bool}{ts:List Tr}{a:Addr}(h:Rep F H (sqT b ts) (.ref a)):∃ws,Sq2 K b H a ws∧yQ F H ts ws:=by
 cases b with
 | true =>
  obtain⟨a',ws,e,n,h,r⟩:=(show Rep F H (.tup ts) (.ref a) from h)
  cases e
  exact⟨ws,SqT.of h,r⟩
 | false =>
  obtain⟨a',ws,e,n,h,r⟩:=(show Rep F H (.lst ts) (.ref a) from h)
  cases e
  exact⟨ws,SqL.of h,r⟩
theorem b_ {b c:Bool}{a1 a2:Addr}{ts us:List Tr}:ItL (xbB K b c a1 a2) (tI ts us) [(sqT b ts,.ref a1),(sqT c us,.ref a2)] where
 go:=fun F H i s hi=>by
  obtain⟨ws,h1,r1⟩:=uK (K:=K) (s _ xee)
  obtain⟨ws2,h2,r2⟩:=uK (K:=K) (s _ (xed _ xee))
  rw[hU] at hi
  obtain⟨w,e1,_⟩:=r1.getT (xdO (i:=i) (by omega))
  obtain⟨w2,e2,_⟩:=r2.getT (xdO (i:=i) (by omega))
  exact⟨ws,ws2,w,w2,h1,h2,e1,e2⟩
 stop:=fun F H s=>by
  obtain⟨ws,h1,r1⟩:=uK (K:=K) (s _ xee)
  obtain⟨ws2,h2,r2⟩:=uK (K:=K) (s _ (xed _ xee))
  refine⟨ws,ws2,h1,h2,?_⟩
  rw[hU,←r1.len,←r2.len];omega
 yld:=fun F i H x H' s d hi y=>by
  obtain⟨ws,h1,r1⟩:=uK (K:=K) (s _ xee)
  obtain⟨ws2,h2,r2⟩:=uK (K:=K) (s _ (xed _ xee))
  obtain⟨v,v2,q,hv,hv2,rfl,hq,rfl⟩:=y
  obtain⟨t,e1,g1⟩:=r1.get (hv ws h1)
  obtain⟨u,e2,g2⟩:=r2.get (hv2 ws2 h2)
  exact⟨.inr ⟨q,_,hq,rfl⟩,.tup [t,u],aL e1 e2,q,_,rfl,fun z=>d q z hq,xM,⟨_,_,rfl,k7 hq g1,_,_,rfl,k7 hq g2,rfl⟩⟩
def xbn:Tr→Option (Bool×List Tr)
 | .tup ts=>some (true,ts)
 | .lst ts=>some (false,ts)
 | _=>none
def xby (d:DA):DI:=fun τ KK=>d τ fun xs=>match xs with
 | [x,y]=>(match xbn x,xbn y with | some p,some q=>KK (tI p.2 q.2) | _,_=>False)
 | _=>False
theorem ft {x:Tr}{p:Bool×List Tr}(h:xbn x=some p):x=sqT p.1 p.2:=by
 cases x with
 | tup ts=>cases h;rfl
 | lst ts=>cases h;rfl
 | _=>cases h
theorem mC {F:Addr→Prop}{H:Hp}{b:Bool}{ts:List Tr}{v:V}(h:Rep F H (sqT b ts) v):∃a,v=.ref a:=by
 cases b with
 | true=>obtain⟨a,ws,e,_⟩:=(show Rep F H (.tup ts) v from h);exact⟨a,e⟩
 | false=>obtain⟨a,ws,e,_⟩:=(show Rep F H (.lst ts) v from h);exact⟨a,e⟩
theorem aV {b:Bool}{n:Nat}{ta:TA}{da:DA}(h:OkA K b n ta da):OkI K b (lS K ta) (xby da):=fun B φ σ τ H R KK Rs hd q =>
 h B φ σ τ H _ _ Rs hd fun ts vs H1 x1 k1 l1 r1=>by
  split at k1
  ·rename_i x y
   split at k1
   ·rename_i p p' e1 e2
    obtain⟨v,w,rfl,g1,g2⟩:=mO r1
    rw[ft e1] at g1
    rw[ft e2] at g2
    obtain⟨a1,rfl⟩:=mC g1
    obtain⟨a2,rfl⟩:=mC g2
    obtain⟨ws,s1,_⟩:=uK (K:=K) g1
    obtain⟨ws2,s2,_⟩:=uK (K:=K) g2
    refine⟨p.1,p'.1,a1,a2,ws,ws2,rfl,s1,s2,q _ _ _ H1 x1 k1 b_ fun z hz=>?_⟩
    simp only[xec,xep,xeV] at hz
    rcases hz with rfl | rfl
    ·exact g1
    ·exact g2
   ·exact k1.elim
  ·exact k1.elim
end
end L2
namespace L2
open PySem PySem.Spec PyProof.Rows
theorem wF {X:Cx}(K:PySem.W.Frag)(e:X.K=K:=by rfl):IxR X (rIx K):=e▸xaY
end L2
namespace L2
open PySem PySem.Spec PyProof.Rows
theorem aQ {dg:DG}{body:DS}{G:jn}(W:List Tr→TSt→Prop)(h0:∀ τ,W [] τ→G.nx τ)
  (h1:∀x xs τ (N:TSt→Prop),W (x::xs) τ→(∀ τ',W xs τ'→N τ')→dg x τ fun τ'=>body { G with nx:=N,ct:=N,bk:=G.nx } τ'):∀xs τ,W xs τ→pS dg body G xs τ
 | [],τ,w=>h0 τ w
 | x::xs,τ,w=>h1 x xs τ (pS dg body G xs) w (aQ W h0 h1 xs)
theorem zP {dg:DG}{body:DS}{G:jn}{all:List Tr}{τ:TSt}(W:Nat→TSt→Prop)(w0:W 0 τ)
  (h1:∀i x τ (N:TSt→Prop),all[i]? = some x→W i τ→(∀ τ',W (i+1) τ'→N τ')→dg x τ fun τ'=>body { G with nx:=N,ct:=N,bk:=G.nx } τ')
  (h0:∀ τ,W all.length τ→G.nx τ):pS dg body G all τ:=by
 refine aQ (fun xs τ=>∃i,xs=all.drop i∧i≤all.length∧W i τ) (fun τ ⟨i,e,hi,w⟩=>h0 τ ?_) (fun x xs τ N ⟨i,e,hi,w⟩ hN=>?_) all τ ⟨0,rfl,xeL _,w0⟩
 ·have:all.length≤i:=by
   have:=xeO List.length e
   rw[xdW] at this
   simp at this
   omega
  have:i=all.length:=by omega
  rw[←this];exact w
 ·have hlt:i<all.length:=by
   have:=xeO List.length e
   rw[xdW] at this
   simp at this
   omega
  rw[xdB hlt] at e
  injection e with e1 e2
  exact h1 i x τ N (by rw[e1];exact xdO hlt) w fun τ' w'=>hN τ' ⟨i+1,e2,hlt,w'⟩
theorem ay {c:DT}{body:DS}{G:jn}(W:Nat→TSt→Prop)
  (h:∀n τ (N:TSt→Prop),W n τ→(∀m τ',m<n→W m τ'→N τ')→c τ fun b=>if b=true then body { G with nx:=N,ct:=N,bk:=G.nx } τ else G.nx τ):∀k n τ,n<k→W n τ→lr c body G k τ
 | 0,_,_,hk,_=>absurd hk (by omega)
 | k+1,n,τ,hk,w=>h n τ (lr c body G k) w fun m τ' hm w'=>ay W h k m τ' (by omega) w'
theorem qr {c:DT}{body:DS}{G:jn}{τ:TSt}(W:Nat→TSt→Prop)(n:Nat)(w0:W n τ)
  (h:∀n τ (N:TSt→Prop),W n τ→(∀m τ',m<n→W m τ'→N τ')→c τ fun b=>if b=true then body { G with nx:=N,ct:=N,bk:=G.nx } τ else G.nx τ):pq c body G τ :=
 ⟨n+1,ay W h (n+1) n τ (xeH n) w0⟩
theorem kM {dg:DG}{dc:DT}{de:DE}{τi:TSt}{KK:List Tr→Prop}(W:List Tr→List Tr→Prop)(h0:∀acc,W [] acc→KK acc)
  (h1:∀x xs acc (N:List Tr→Prop),W (x::xs) acc→(∀acc',W xs acc'→N acc')→dg x τi fun τ2=>dc τ2 fun b=>if b=true then de τ2 fun y=>N (acc++[y]) else N acc):∀xs acc,W xs acc→sY dg dc de τi KK xs acc
 | [],acc,w=>h0 acc w
 | x::xs,acc,w=>h1 x xs acc (sY dg dc de τi KK xs) w (kM W h0 h1 xs)
theorem vq {dg:DG}{de:DE}{τi:TSt}{KK:List Tr→Prop}{xs:List Tr}(g:Tr→Tr)(h1:∀x∈xs,∀N:Tr→Prop,N (g x)→dg x τi fun τ2=>de τ2 N)(h0:KK (xs.map g)):sY dg mG de τi KK xs []:=by
 refine kM (fun ys acc=>∃zs,xs=zs++ys∧acc=zs.map g) (fun acc ⟨zs,e,e2⟩=>?_) (fun x ys acc N ⟨zs,e,e2⟩ hN=>?_) xs [] ⟨[],rfl,rfl⟩
 ·rw[xdz] at e
  subst e e2
  exact h0
 ·subst e2
  have hx:x∈xs:=by rw[e];simp
  exact h1 x hx (fun y=>N (zs.map g++[y])) (hN _ ⟨zs++[x],by rw[e];simp,by simp⟩)
theorem u_ {α:Type}{f:α→Tr}{l:List α}{i:Nat}{t:Tr}(h:(l.map f)[i]? = some t):∃x,l[i]? = some x∧t=f x:=by
 rw[xdR] at h
 cases e:l[i]? with
 | none=>rw[e] at h;cases h
 | some x=>rw[e] at h;cases h;exact⟨x,rfl,rfl⟩
theorem mW {α:Type}(ts:List α)(n:Nat):atT ts (n:Int)=ts[n]?:=jo ts n
theorem g6 {α:Type}(ts:List α)(t:α):atT (ts++[t]) (-1)=some t:=by
 rw[pj];exact cF ts t
theorem sqz {n:Nat}(h:n≤1000000):n<sizeLine:=xeE h (by decide)
theorem xbx {n:Nat}(h:n≤1000000):n≤sizeLine:=xez (sqz h)
theorem wt {a b:Int}(h:0≤b):a.fdiv b=a / b:=Int.fdiv_eq_ediv_of_nonneg a h
theorem cY {a b:Int}(h:0≤b):a.fmod b=a % b:=Int.fmod_eq_emod_of_nonneg a h
end L2
namespace L2
open PySem PySem.Spec PyProof.Rows
section
variable {prog:Program} {w:World} {A:Around} {E:Value→Shared→Prop} {s:Shared}
theorem dI {it t:Addr}{items:Array Value}(hne:t≠it):∀(n i:Nat) (s:Shared) (Q:List Value→Shared→Prop),s.heap.IsListIter it t i→s.heap.IsList t items→i+n≤items.size →
  (∀h',h'.IsListIter it t (i+n)→Heap.SameBut it s.heap h'→Q ((items.toList.drop i).take n) { s with heap:=h' })→wpAny (model prog w) A (draw (.ref it) n) Q E s
 | 0,i,s,Q,hit,_,_,hQ=>by
  show wpAny _ _ (pure []) Q E s
  exact wpAny_pure (by simpa using hQ s.heap hit (Heap.SameBut.refl ..))
 | n+1,i,s,Q,hit,ht,hle,hQ=>by
  have hlt:i<items.size:=by omega
  show wpAny _ _ (pyNext (.ref it) >>= _) Q E s
  refine wpAny_bind (wpAny_pyNext_list_item hit ht (x:=items[i]) (by simp[hlt]) fun h₁ hit₁ hs₁=>?_)
  refine wpAny_bind (wpAny_holding (dI hne n (i+1) _ _ hit₁ (ht.extBut hs₁.extBut hne) (by omega) fun h₂ hit₂ hs₂=>wpAny_pure ?_))
  have hd:items.toList.drop i=items[i]::items.toList.drop (i+1):=by simp[xdB,hlt]
  have:=hQ h₂ (by rw[show i+(n+1)=i+1+n by omega];exact hit₂) (hs₁.trans hs₂)
  rw[hd,List.take_succ_cons] at this
  exact this
theorem kB {t:Addr}{items:Array Value}{Q:List Value→Shared→Prop}(hh:A.handled=none)(ht:s.heap.IsList t items)
  (hQ:∀h',Heap.ExtBut s.heap.objs.size s.heap h'→Q items.toList { s with heap:=h' }):wpAny (model prog w) A (unpackItems (.ref t) items.size none) Q E s:=by
 have hlt:t≠s.heap.objs.size:=by obtain⟨o,ho,_⟩:=ht;exact xeJ (Heap.lt_size ho)
 unfold unpackItems
 refine wpAny_bind ?_
 ·unfold notIterableAtAll
  refine wpAny_bind (wpAny_specialOf ht.typeIs slot_list_iter.lookup ?_)
  refine wpAny_pure ?_
  simp only[Bool.false_eq_true,xeS]
  refine wpAny_bind (wpAny_holding (wpAny_pyIter_list ht ?_))
  refine wpAny_bind (wpAny_holding (dI hlt items.size 0 _ _ ⟨_,Heap.get?_push_size _ rfl,rfl,rfl⟩ (ht.push _) (by omega) fun h₁ hit₁ hs₁=>?_))
  have hall:List.take items.size (List.drop 0 items.toList)=items.toList:=by
   rw[xdD];exact xew (by simp)
  rw[hall]
  rw[if_neg (by simp)]
  have ht₁:h₁.IsList t items:=(ht.push _).extBut hs₁.extBut hlt
  refine wpAny_bind (wpAny_holding (wpAny_pyNext_list_end hh hit₁ ht₁ (by simp) fun h₂ he₂=>?_))
  simp only[Option.isSome_none,Bool.false_eq_true,xeS]
  refine wpAny_pure (hQ h₂ fun b o hb e=>he₂ b o hb (hs₁.extBut b o hb (Heap.get?_push_of_some _ e)))
theorem sP {t:Addr}{items:Array Value}{targets:List (Bool×(Value→Sem Unit))}{Q:Unit→Shared→Prop}(hh:A.handled=none)(ht:s.heap.IsList t items)
  (hn:targets.length=items.size) (hstar:targets.findIdx? (·.1)=none)
  (h:∀h',Heap.ExtBut s.heap.objs.size s.heap h'→wpAny (model prog w) A (assignInOrder (targets.map (·.2)) items.toList) Q E { s with heap:=h' }) :
  wpAny (model prog w) A (unpack (.ref t) targets) Q E s:=by
 unfold unpack
 rw[hn,hstar]
 exact wpAny_bind (wpAny_holding (kB hh ht h))
theorem qU {env:Env}{elts:List Expr}{x1}{pos:Pos}{t:Addr}{items:Array Value}{Q:Unit→Shared→Prop}(hh:A.handled=none)(ht:s.heap.IsList t items)
  (hn:(assignEach elts env).length=items.size) (hstar:(assignEach elts env).findIdx? (·.1)=none)
  (h:∀h',Heap.ExtBut s.heap.objs.size s.heap h'→wpAny (model prog w) A (assignInOrder ((assignEach elts env).map (·.2)) items.toList) Q E { s with heap:=h' }) :
  wpAny (model prog w) A (assign (.Tuple elts x1 pos) env (.ref t)) Q E s:=by
 rw[assign_Tuple]
 exact wpAny_bind (wpAny_standAt (sP hh ht hn hstar h))
end
def xcE (K:PySem.W.Frag)(n:Nat)(t:TGs):TG:=fun v σ H Q=>∃a xs,v=.ref a∧SqL K H a xs∧xs.length=n∧t xs σ H Q
section
variable {X:Cx}
theorem oK (K:PySem.W.Frag){pos:Pos}{es:List Expr}{k:Nat}{t:TGs}{n:Nat}(hc:X.calm=true)(h:PGs X es t)
  (hn:(assignEach es X.env).length=n:=by rfl) (hst:(assignEach es X.env).findIdx? (·.1)=none:=by rfl) (e:X.K=K:=by rfl):PG X (.Tuple es k pos) (xcE K n t):=by
 subst e
 intro pins s σ H v u Q I r hw
 obtain⟨a,xs,e1,hq,hl,hw⟩:=hw
 subst e1
 cases r
 obtain⟨its,rv,⟨o,m,ho,hcl,hd,hs⟩,hz⟩:=I.list hq
 refine qU (I.ok.hd hc) (items:=its.toArray) ⟨o,ho,hcl,m,hs⟩ (by simp[hn,←hl,rv.length]) hst fun h' hx=>?_
 have I1:Inv X pins σ H { s with heap:=h' }:=I.kept (t':=s.toks) fun b o e=>hx b o (xeJ (Heap.lt_size e)) e
 exact @h pins _ σ H xs _ Q I1 (by simpa using rv) hw
end
section
variable {K:PySem.W.Frag}
def xc3 (n:Nat)(d:DGs):DG:=fun t τ KK=>match t with | .lst ts=>ts.length=n∧d ts τ KK | _=>False
theorem oo {n:Nat}{gs:TGs}{ds:DGs}(h:lO K gs ds):OkN K (xcE K n gs) (xc3 n ds):=fun B φ σ τ H F t v Q KK R hF r hd q=>by
 cases t with
 | lst ts =>
  obtain⟨a,ws,e,n,ha,rl⟩:=r
  exact⟨a,ws,e,SqL.of ha,by rw[←rl.len];exact hd.1,h B φ σ τ H F ts ws Q KK R hF rl hd.2 q⟩
 | _=>exact hd.elim
end
theorem xY {b:Bool}{A B:Prop}(h1:b=true→A)(h0:b=false→B):if b=true then A else B:=by
 cases b with
 | true=>exact tO (h1 rfl)
 | false=>exact sR (h0 rfl)
end L2
namespace Pol
abbrev R3:=Int×Int×Int
def val (r p:R3):Int:=r.1*p.1+r.2.1*p.2.1-r.2.2*p.2.2
def det (u v w:R3):Int:=u.1*(v.2.1*w.2.2-v.2.2*w.2.1)-u.2.1*(v.1*w.2.2-v.2.2*w.1)+u.2.2*(v.1*w.2.1-v.2.1*w.1)
def add (u v:R3):R3:=(u.1+v.1,u.2.1+v.2.1,u.2.2+v.2.2)
def mul (k:Int)(u:R3):R3:=(k*u.1,k*u.2.1,k*u.2.2)
theorem ext3 {u v:R3}(h1:u.1=v.1)(h2:u.2.1=v.2.1)(h3:u.2.2=v.2.2):u=v:=Prod.ext h1 (Prod.ext h2 h3)
theorem val_add (r p q:R3):val r (add p q)=val r p+val r q:=by simp only[val,add];grind
theorem val_mul (r p:R3)(k:Int):val r (mul k p)=k*val r p:=by simp only[val,mul];grind
theorem zy (u v w:R3):det u v w=det v w u:=by simp only[det];grind
theorem rB (u v w:R3):det u w v = - det u v w:=by simp only[det];grind
theorem uw (u v:R3):det u v v=0:=by simp only[det];grind
theorem uW (u v:R3):det u u v=0:=by simp only[det];grind
theorem uR (u v:R3):det u v u=0:=by simp only[det];grind
theorem gu (u v p q:R3):det u v (add p q)=det u v p+det u v q:=by simp only[det,add];grind
theorem uk (u v p:R3)(k:Int):det u v (mul k p)=k*det u v p:=by simp only[det,mul];grind
theorem four (r a b c d:R3):det b c d*val r a+det a b d*val r c=det a c d*val r b+det a b c*val r d:=by simp only[det,val];grind
theorem p6 (u v w p:R3):mul (det u v w) p=add (mul (det p v w) u) (add (mul (det u p w) v) (mul (det u v p) w)):=by
 apply ext3<;>simp only[det,mul,add]<;>grind
theorem cK (r u w z p:R3)(hu:val r u=0)(hw:val r w=0):val r p*det u w z=val r z*det u w p:=by
 have h:=xeO (val r) (p6 u w z p)
 rw[val_mul,val_add,val_add,val_mul,val_mul,val_mul,hu,hw] at h
 rw[Int.mul_comm (val r p)]
 rw[h];grind
theorem pp {a b:Int}(h:0<a)(k:0<b):0<a*b:=xdr h k
theorem pz {a b:Int}(h:0≤a)(k:0≤b):0≤a*b:=Int.mul_nonneg h k
theorem pn {a b:Int}(h:0≤a)(k:b≤0):a*b≤0:=Int.mul_nonpos_of_nonneg_of_nonpos h k
theorem nn {a b:Int}(h:a≤0)(k:b≤0):0≤a*b:=Int.mul_nonneg_of_nonpos_of_nonpos h k
theorem zo {a b:Int}(h:0<a)(k:0<a*b):0<b:=by
 rcases xdk 0 b with z | z
 ·exact z
 ·have:=pn (xdi h) z;omega
theorem yN {a b:Int}(h:0<a)(k:0≤a*b):0≤b:=by
 rcases xdk b 0 with z | z
 ·have:=xdq h z;omega
 ·exact z
theorem fu {a b:Int}(h:0<a)(k:a*b≤0):b≤0:=by
 rcases xdk 0 b with z | z
 ·have:=pp h z;omega
 ·exact z
theorem j3 {a b:Int}(h:0<a)(k:a*b=0):b=0:=(Int.mul_eq_zero.mp k).resolve_left (by omega)
inductive Cn (l:List R3):R3→Prop
 | zero:Cn l (0,0,0)
 | mem {v}:v∈l→Cn l v
 | add {p q}:Cn l p→Cn l q→Cn l (add p q)
theorem Cn.nsmul {l:List R3}{p:R3}(h:Cn l p):∀k:Nat,Cn l (mul k p)
 | 0=>by
  have:mul ((0:Nat):Int) p=(0,0,0):=by apply ext3<;>simp[mul]
  rw[this];exact .zero
 | k+1=>by
  have:mul ((k+1:Nat):Int) p=Pol.add (mul k p) p:=by apply ext3<;>simp only[mul,Pol.add]<;>grind
  rw[this];exact(h.nsmul k).add h
theorem Cn.smul {l:List R3}{p:R3}(h:Cn l p){k:Int}(hk:0≤k):Cn l (mul k p):=by
 have:=h.nsmul k.toNat
 rwa [Int.toNat_of_nonneg hk] at this
theorem Cn.mono {l l':List R3}{p:R3}(h:Cn l p)(hl:∀v∈l,Cn l' v):Cn l' p:=by
 induction h with
 | zero=>exact .zero
 | mem m=>exact hl _ m
 | add _ _ h1 h2=>exact h1.add h2
theorem Cn.lin {l:List R3}{p:R3}(h:Cn l p)(g:R3→Int)(g0:g (0,0,0)=0)(ga:∀p q,g (Pol.add p q)=g p+g q)(hl:∀v∈l,0≤g v):0≤g p:=by
 induction h with
 | zero=>omega
 | mem m=>exact hl _ m
 | add _ _ h1 h2=>rw[ga];omega
theorem Cn.valGe {l:List R3}{p:R3}(h:Cn l p)(r:R3)(hl:∀v∈l,0≤Pol.val r v):0≤Pol.val r p :=
 h.lin (Pol.val r) (by simp[Pol.val]) (val_add r) hl
theorem Cn.det {l:List R3}{p:R3}(h:Cn l p)(u v:R3)(hl:∀w∈l,0≤Pol.det u v w):0≤Pol.det u v p :=
 h.lin (Pol.det u v) (by simp[Pol.det]) (gu u v) hl
theorem Cn.zeros {l:List R3}{p:R3}(h:Cn l p)(r:R3)(hl:∀v∈l,0≤Pol.val r v)(h0:Pol.val r p≤0):Cn (l.filter fun v=>Pol.val r v=0) p:=by
 induction h with
 | zero=>exact .zero
 | @mem v m=>exact .mem (xef.mpr ⟨m,by have:=hl v m;simp;omega⟩)
 | @add p q hp hq h1 h2 =>
  rw[val_add] at h0
  have a:=hp.valGe r hl
  have b:=hq.valGe r hl
  exact(h1 (by omega)).add (h2 (by omega))
theorem Cn.pair {u v p:R3}(h:Cn [u,v] p):∃a b:Int,0≤a∧0≤b∧p=Pol.add (mul a u) (mul b v):=by
 induction h with
 | zero=>exact⟨0,0,by omega,by omega,by apply ext3<;>simp[Pol.add,mul]⟩
 | mem m =>
  simp only[xec,xep,xeV] at m
  rcases m with rfl | rfl
  ·exact⟨1,0,by omega,by omega,by apply ext3<;>simp[Pol.add,mul]⟩
  ·exact⟨0,1,by omega,by omega,by apply ext3<;>simp[Pol.add,mul]⟩
 | add _ _ h1 h2 =>
  obtain⟨a,b,a0,b0,rfl⟩:=h1
  obtain⟨c,d,c0,d0,rfl⟩:=h2
  exact⟨a+c,b+d,by omega,by omega,by apply ext3<;>simp only[Pol.add,mul]<;>grind⟩
def InC (l:List R3)(p:R3):Prop:=∃m:Int,0<m∧Cn l (mul m p)
structure Ccw (l:List R3):Prop where
 tri:∀u v w:R3,List.Sublist [u,v,w] l→0<det u v w
 nd:l.Nodup
theorem pO {u v w:R3}{l1 l2:List R3}(h:[u,v,w]=l1++l2):(l1=[]∧l2=[u,v,w])∨(l1=[u]∧l2=[v,w])∨(l1=[u,v]∧l2=[w])∨(l1=[u,v,w]∧l2=[]):=by
 cases l1 with
 | nil=>exact .inl ⟨rfl,h.symm⟩
 | cons a t =>
  injection h with h1 h2
  subst h1
  cases t with
  | nil=>exact .inr (.inl ⟨rfl,h2.symm⟩)
  | cons b t =>
   injection h2 with h1 h2
   subst h1
   cases t with
   | nil=>exact .inr (.inr (.inl ⟨rfl,h2.symm⟩))
   | cons c t =>
    injection h2 with h1 h2
    subst h1
    have:=List.append_eq_nil_iff.mp h2.symm
    rw[this.1,this.2]
    exact .inr (.inr (.inr ⟨rfl,rfl⟩))
theorem Ccw.rot {a b:List R3}(h:Ccw (a++b)):Ccw (b++a):=by
 refine⟨fun u v w s=>?_,?_⟩
 ·obtain⟨l1,l2,e,s1,s2⟩:=xeu.mp s
  have s3:=List.Sublist.append s2 s1
  rcases pO e with ⟨rfl,rfl⟩ | ⟨rfl,rfl⟩ | ⟨rfl,rfl⟩ | ⟨rfl,rfl⟩
  ·exact h.tri _ _ _ (by simpa using s3)
  ·have:=h.tri _ _ _ (show List.Sublist [v,w,u] (a++b) by simpa using s3)
   rw[zy];exact this
  ·have:=h.tri _ _ _ (show List.Sublist [w,u,v] (a++b) by simpa using s3)
   rw[←zy];exact this
  ·exact h.tri _ _ _ (by simpa using s3)
 ·have:=h.nd
  rw[xen] at this ⊢
  exact⟨this.2.1,this.1,fun x hx y hy e=>this.2.2 y hy x hx e.symm⟩
theorem Ccw.alt {l:List R3}(h:Ccw l)(r:R3){a b c d:R3}(s:List.Sublist [a,b,c,d] l):¬(0<val r a∧val r b≤0∧0<val r c∧val r d≤0)∧¬(val r a≤0∧0<val r b∧val r c≤0∧0<val r d):=by
 have h1:=h.tri b c d (xdv (List.Sublist.cons _ (xdu _)) s)
 have h2:=h.tri a b d (xdv (by simp) s)
 have h3:=h.tri a c d (xdv (by simp) s)
 have h4:=h.tri a b c (xdv (by simp) s)
 have e:=four r a b c d
 constructor
 ·rintro⟨x1,x2,x3,x4⟩
  have:=pp h1 x1
  have:=pp h2 x3
  have:=pn (xdi h3) x2
  have:=pn (xdi h4) x4
  omega
 ·rintro⟨x1,x2,x3,x4⟩
  have:=pn (xdi h1) x1
  have:=pn (xdi h2) x3
  have:=pp h3 x2
  have:=pp h4 x4
  omega
theorem ai (f:R3→Bool):∀l:List R3,l=l.takeWhile f++l.dropWhile f:=fun l=>(List.takeWhile_append_dropWhile (p:=f) (l:=l)).symm
theorem n6 {f:R3→Bool}{x:R3}:∀ {l:List R3},x∈l.takeWhile f→f x=true:=fun {l} h=>by
 induction l with
 | nil=>simp at h
 | cons a t ih =>
  rw[List.takeWhile_cons] at h
  split at h
  ·rcases xec.mp h with rfl | h
   ·assumption
   ·exact ih h
  ·simp at h
theorem sy {f:R3→Bool}{x:R3}{t:List R3}:∀ {l:List R3},l.dropWhile f=x::t→f x=false:=fun {l} h=>by
 induction l with
 | nil=>simp at h
 | cons a l ih =>
  rw[List.dropWhile_cons] at h
  split at h
  ·exact ih h
  ·rename_i hn
   injection h with h1 h2
   subst h1
   simpa using hn
theorem Ccw.parts {l:List R3}(h:Ccw l)(r:R3):∃a b P Q,l=a++b∧b++a=P++Q∧(∀v∈P,0<val r v)∧∀v∈Q,val r v≤0:=by
 have e1:=ai (fun v=>decide (val r v≤0)) l
 have m1:∀v∈l.takeWhile fun v=>decide (val r v≤0),val r v≤0:=fun v hv=>xeU (n6 hv)
 revert e1 m1
 generalize l.takeWhile (fun v=>decide (val r v≤0))=N1
 cases hd:l.dropWhile (fun v=>decide (val r v≤0)) with
 | nil =>
  intro e1 m1
  rw[xdz] at e1
  exact⟨[],l,[],l,rfl,by simp,fun v hv=>absurd hv (by simp),fun v hv=>m1 v (e1▸hv)⟩
 | cons p R =>
  intro e1 m1
  have hp:0<val r p:=by
   have:=sy hd
   have:=xeT this
   omega
  have e2:=ai (fun v=>decide (0<val r v)) R
  have m2:∀v∈R.takeWhile fun v=>decide (0<val r v),0<val r v:=fun v hv=>xeU (n6 hv)
  revert e2 m2
  generalize R.takeWhile (fun v=>decide (0<val r v))=P1
  cases hd2:R.dropWhile (fun v=>decide (0<val r v)) with
  | nil =>
   intro e2 m2
   rw[xdz] at e2
   subst e2
   refine⟨N1,p::R,p::R,N1,e1,rfl,fun v hv=>?_,m1⟩
   rcases xec.mp hv with rfl | hv
   ·exact hp
   ·exact m2 v hv
  | cons q S =>
   intro e2 m2
   have hq:val r q≤0:=by
    have:=sy hd2
    have:=xeT this
    omega
   have mp:∀v∈p::P1,0<val r v:=fun v hv=>by
    rcases xec.mp hv with rfl | hv
    ·exact hp
    ·exact m2 v hv
   cases N1 with
   | cons n0 N =>
    refine⟨n0::N,p::R,p::P1,q::S++(n0::N),e1,by rw[e2];simp,mp,fun v hv=>?_⟩
    rcases xd_.mp hv with hv | hv
    ·rcases xec.mp hv with rfl | hv
     ·exact hq
     ·rcases xdk 0 (val r v) with z | z
      ·exfalso
       have s:List.Sublist [n0,p,q,v] l:=by
        rw[e1,e2]
        have s1:List.Sublist [v] S:=xes.mpr hv
        have s2:List.Sublist [q,v] (q::S):=s1.cons_cons q
        have s3:List.Sublist [q,v] (P1++q::S):=s2.trans (xev _ _)
        have s4:List.Sublist [p,q,v] (p::(P1++q::S)):=s3.cons_cons p
        have s5:List.Sublist [n0] (n0::N):=xes.mpr xee
        exact s5.append s4
       exact(h.alt r s).2 ⟨m1 n0 xee,hp,hq,z⟩
      ·exact z
    ·exact m1 v hv
   | nil =>
    have e3:=ai (fun v=>decide (val r v≤0)) S
    have m3:∀v∈S.takeWhile fun v=>decide (val r v≤0),val r v≤0:=fun v hv=>xeU (n6 hv)
    have hd3:∀v∈S.dropWhile (fun v=>decide (val r v≤0)),0<val r v:=fun v hv=>by
     cases hc:S.dropWhile (fun v=>decide (val r v≤0)) with
     | nil=>rw[hc] at hv;simp at hv
     | cons p2 S2 =>
      have hp2:0<val r p2:=by
       have:=sy hc
       have:=xeT this
       omega
      rw[hc] at hv
      rcases xec.mp hv with rfl | hv
      ·exact hp2
      ·rcases xdk 0 (val r v) with z | z
       ·exact z
       ·exfalso
        have s:List.Sublist [p,q,p2,v] l:=by
         rw[e1,xem,e2,e3,hc]
         have s1:List.Sublist [v] S2:=xes.mpr hv
         have s2:List.Sublist [p2,v] (p2::S2):=s1.cons_cons p2
         have s3:=s2.trans (xev (S.takeWhile fun v=>decide (val r v≤0)) _)
         have s4:=s3.cons_cons q
         have s5:=s4.trans (xev P1 _)
         exact s5.cons_cons p
        exact(h.alt r s).1 ⟨hp,hq,hp2,z⟩
    refine⟨p::P1++q::S.takeWhile (fun v=>decide (val r v≤0)),S.dropWhile (fun v=>decide (val r v≤0)),S.dropWhile (fun v=>decide (val r v≤0))++p::P1,q::S.takeWhile (fun v=>decide (val r v≤0)),?_,?_,fun v hv=>?_,fun v hv=>?_⟩
    ·rw[e1,xem,e2]
     conv=>lhs;rw[e3]
     simp
    ·simp
    ·rcases xd_.mp hv with hv | hv
     ·exact hd3 v hv
     ·exact mp v hv
    ·rcases xec.mp hv with rfl | hv
     ·exact hq
     ·exact m3 v hv
end Pol
namespace Pol
def xj:R3→List R3→R3
 | p,[]=>p
 | _,x::xs=>xj x xs
theorem wH (u v w:R3):det u v w=det w u v:=by simp only[det];grind
theorem cg (u v w:R3):det u v w = - det v u w:=by simp only[det];grind
theorem jD (p q:R3):∀(xs ys:List R3),xj p (xs++q::ys)=xj q ys
 | [],_=>rfl
 | x::xs,ys=>jD x q xs ys
theorem j9 (p q:R3)(xs:List R3):xj p (xs++[q])=q:=jD p q xs []
theorem yd (p:R3):∀(xs:List R3),xj p xs∈p::xs
 | []=>by simp[xj]
 | x::xs=>xed _ (yd x xs)
theorem jm (p:R3):∀(xs:List R3),∃ys,p::xs=ys++[xj p xs]
 | []=>⟨[],rfl⟩
 | x::xs=>by
  obtain⟨ys,e⟩:=jm x xs
  exact⟨p::ys,xeO (p::·) e⟩
def chain:R3→List R3→List (R3×R3)
 | _,[]=>[]
 | p,x::xs=>(p,x)::chain x xs
theorem qA (p:R3):∀(xs ys:List R3),chain p (xs++ys)=chain p xs++chain (xj p xs) ys
 | [],_=>rfl
 | x::xs,ys=>by
  show(p,x)::chain x (xs++ys)=(p,x)::(chain x xs++chain (xj x xs) ys)
  rw[qA x xs ys]
def cyc:List R3→List (R3×R3)
 | []=>[]
 | x::xs=>chain (xj x xs) (x::xs)
theorem qP {x y:R3}{xs ys:List R3}:cyc ((x::xs)++(y::ys))=chain (xj y ys) (x::xs)++chain (xj x xs) (y::ys):=by
 show chain (xj x (xs++y::ys)) ((x::xs)++(y::ys))=_
 rw[jD,qA];rfl
theorem mM (a b:List R3):∃c d,cyc (a++b)=c++d∧cyc (b++a)=d++c:=by
 cases a with
 | nil=>exact⟨[],cyc b,by simp,by simp⟩
 | cons x xs =>
  cases b with
  | nil=>exact⟨[],cyc (x::xs),by simp,by simp⟩
  | cons y ys=>exact⟨_,_,qP,qP⟩
theorem si {a b:List R3}{p:R3×R3}(h:p∈cyc (b++a)):p∈cyc (a++b):=by
 obtain⟨c,d,e1,e2⟩:=mM a b
 rw[e2] at h
 rw[e1]
 exact xd_.mpr ((xd_.mp h).symm)
theorem qj {x y:R3}:∀ {p:R3} {l:List R3},(x,y)∈chain p l→∃s t,p::l=s++x::y::t
 | _,[],h=>by simp[chain] at h
 | p,z::l,h=>by
  rcases xec.mp h with e | h
  ·injection e with e1 e2
   subst e1 e2
   exact⟨[],l,rfl⟩
  ·obtain⟨s,t,e⟩:=qj h
   exact⟨p::s,t,by rw[e];rfl⟩
theorem Ccw.edge {l:List R3}(h:Ccw l){u v w:R3}(he:(u,v)∈cyc l)(hw:w∈l):0≤det u v w:=by
 cases l with
 | nil=>simp at hw
 | cons x xs =>
  have he:(u,v)∈(xj x xs,x)::chain x xs:=he
  rcases xec.mp he with e | he
  ·injection e with e1 e2
   subst e1 e2
   obtain⟨ys,e⟩:=jm v xs
   generalize xj v xs=L at e ⊢
   cases ys with
   | nil =>
    injection e with e1 e2
    rw[←e1,uW];exact xdj _
   | cons y ys =>
    injection e with e1 e2
    subst e1
    have e2:xs=ys++[L]:=e2
    rw[e2] at hw
    rcases xec.mp hw with rfl | hw
    ·rw[uw];exact xdj _
    ·rcases xd_.mp hw with hw | hw
     ·have:=h.tri v w L (by
       rw[e2]
       exact((xes.mpr hw).append (xdu [L])).cons_cons v)
      rw[wH] at this;exact xdi this
     ·have:w=L:=by simpa using hw
      rw[this,uR];exact xdj _
  ·obtain⟨s,t,e⟩:=qj he
   rw[e] at hw
   rcases xd_.mp hw with hw | hw
   ·have:=h.tri w u v (by
     rw[e]
     exact(xes.mpr hw).append ((xdu [u,v]).trans (by simp)))
    rw[zy] at this;omega
   ·rcases xec.mp hw with rfl | hw
    ·rw[uR];exact xdj _
    ·rcases xec.mp hw with rfl | hw
     ·rw[uw];exact xdj _
     ·have:=h.tri u v w (by
       rw[e]
       exact((((xes.mpr hw).cons_cons v).cons_cons u)).trans (xev s _))
      omega
theorem fan (x:R3)(p:R3):∀(y:R3) (ys:List R3),(∀u v,(u,v)∈chain y ys→0<det x u v∧0≤det u v p)→0≤det x y p→det x (xj y ys) p≤0→ys≠[]→∃u v,(u,v)∈chain y ys∧0≤det x u p∧det x v p≤0
 | y,[],_,_,_,h=>absurd rfl h
 | y,z::ys,hc,h0,h1,_=>by
  rcases xdk 0 (det x z p) with c | c
  ·cases ys with
   | nil=>exact absurd h1 (by show ¬det x z p≤0;omega)
   | cons a ys =>
    obtain⟨u,v,m,h2,h3⟩:=fan x p z (a::ys) (fun u v m=>hc u v (xed _ m)) (xdi c) h1 (by simp)
    exact⟨u,v,xed _ m,h2,h3⟩
  ·exact⟨y,z,xee,h0,c⟩
theorem Ccw.incone {l:List R3}(h:Ccw l)(h3:3≤l.length){p:R3}(hp:∀u v,(u,v)∈cyc l→0≤det u v p):InC l p:=by
 match l,h,h3,hp with
 | x::y::z::t,h,_,hp =>
  have he:∀u v,(u,v)∈chain y (z::t)→0<det x u v∧0≤det u v p:=fun u v m=>by
   obtain⟨s,s2,e⟩:=qj m
   refine⟨h.tri x u v ?_,hp u v (xed _ (xed _ m))⟩
   rw[e]
   exact(((xdu [u,v]).trans (show List.Sublist [u,v] (u::v::s2) by simp)).trans (xev s _)).cons_cons x
  have h0:0≤det x y p:=hp x y (xed _ xee)
  have h1:0≤det (xj x (y::z::t)) x p:=hp _ _ xee
  have h1':det x (xj y (z::t)) p≤0:=by
   have e:det x (xj y (z::t)) p = - det (xj x (y::z::t)) x p:=cg _ _ _
   omega
  obtain⟨u,v,m,h2,h3⟩:=fan x p y (z::t) he h0 h1' (by simp)
  obtain⟨d1,d2⟩:=he u v m
  have mem:∀w,w=u∨w=v→w∈x::y::z::t:=fun w hw=>by
   obtain⟨s,s2,e⟩:=qj m
   have:w∈y::z::t:=by
    rw[e]
    rcases hw with rfl | rfl<;>simp
   exact xed _ this
  refine⟨det x u v,d1,?_⟩
  rw[p6 x u v p]
  have c1:0≤det p u v:=by rw[zy];exact d2
  have c2:0≤det x p v:=by rw[rB];omega
  exact((Cn.mem xee).smul c1).add (((Cn.mem (mem u (.inl rfl))).smul c2).add ((Cn.mem (mem v (.inr rfl))).smul h2))
end Pol
namespace Pol
def turn (r s:R3):Int:=r.1*s.2.1-r.2.1*s.1
def ud (w:R3):Nat:=Int.gcd (Int.gcd w.1 w.2.1:Int) w.2.2
def red (w:R3):R3:=(w.1 / ud w,w.2.1 / ud w,w.2.2 / ud w)
theorem aW (w:R3):(ud w:Int) ∣ w.1∧(ud w:Int) ∣ w.2.1∧(ud w:Int) ∣ w.2.2:=by
 have h1:(ud w:Int) ∣ (Int.gcd w.1 w.2.1:Int):=Int.gcd_dvd_left ..
 exact⟨Int.dvd_trans h1 (Int.gcd_dvd_left ..),Int.dvd_trans h1 (Int.gcd_dvd_right ..),Int.gcd_dvd_right ..⟩
theorem cV {d:Int}{w:R3}(h1:d ∣ w.1)(h2:d ∣ w.2.1)(h3:d ∣ w.2.2):d ∣ (ud w:Int):=xde (xde h1 h2) h3
theorem vx {w:R3}(h:0<w.2.2):0<(ud w:Int):=by
 have:=xdh (Int.gcd w.1 w.2.1:Int) (show w.2.2≠0 by omega)
 unfold ud;omega
theorem gO {w:R3}:mul (ud w) (red w)=w:=by
 obtain⟨h1,h2,h3⟩:=aW w
 exact ext3 (xdn h1) (xdn h2) (xdn h3)
theorem nF {w:R3}(h:0<w.2.2):0<(red w).2.2:=by
 have e:(ud w:Int)*(red w).2.2=w.2.2:=xeO (·.2.2) (gO (w:=w))
 exact zo (vx h) (by rw[e];exact h)
theorem cM {w:R3}(h:0<w.2.2):ud (red w)=1:=by
 obtain⟨h1,h2,h3⟩:=aW (red w)
 have g:=vx h
 have d:(ud w:Int)*(ud (red w):Int) ∣ (ud w:Int):=by
  have e:=gO (w:=w)
  refine cV ?_ ?_ ?_
  ·conv=>rhs;rw[←e]
   exact xdm _ h1
  ·conv=>rhs;rw[←e]
   exact xdm _ h2
  ·conv=>rhs;rw[←e]
   exact xdm _ h3
 have d2:(ud (red w):Int) ∣ 1:=by
  have:(ud w:Int)*(ud (red w):Int) ∣ (ud w:Int)*1:=by rw[Int.mul_one];exact d
  exact Int.dvd_of_mul_dvd_mul_left (by omega) this
 have:=Int.le_of_dvd (by decide) d2
 have p:=vx (nF h)
 omega
theorem dJ {v s t:R3}(hg:ud v=1)(hz:0<v.2.2)(hs:val s v=0)(ht:val t v=0)(hn:turn s t≠0) :
  v.2.2≤(turn s t).natAbs∧v.1.natAbs≤(s.2.2*t.2.1-t.2.2*s.2.1).natAbs∧v.2.1.natAbs≤(t.2.2*s.1-s.2.2*t.1).natAbs:=by
 have e1:turn s t*v.1=v.2.2*(s.2.2*t.2.1-t.2.2*s.2.1):=by
  have:turn s t*v.1=v.2.2*(s.2.2*t.2.1-t.2.2*s.2.1)+t.2.1*val s v-s.2.1*val t v:=by simp only[turn,val];grind
  rw[hs,ht] at this;rw[this];grind
 have e2:turn s t*v.2.1=v.2.2*(t.2.2*s.1-s.2.2*t.1):=by
  have:turn s t*v.2.1=v.2.2*(t.2.2*s.1-s.2.2*t.1)+s.1*val t v-t.1*val s v:=by simp only[turn,val];grind
  rw[hs,ht] at this;rw[this];grind
 have dv:v.2.2 ∣ turn s t:=by
  have h1:v.2.2 ∣ turn s t*v.1:=⟨_,e1⟩
  have h2:v.2.2 ∣ turn s t*v.2.1:=⟨_,e2⟩
  have h3:v.2.2 ∣ turn s t*v.2.2:=Int.dvd_mul_left ..
  have g12:v.2.2 ∣ turn s t*(Int.gcd v.1 v.2.1:Int):=by
   have:=xde h1 h2
   rw[Int.gcd_mul_left] at this
   have h4:((turn s t).natAbs*Int.gcd v.1 v.2.1:Nat)=((turn s t*(Int.gcd v.1 v.2.1:Int)).natAbs:Nat):=by rw[xds];rfl
   rw[h4] at this
   exact Int.dvd_natAbs.mp this
  have g3:=xde g12 h3
  rw[Int.gcd_mul_left] at g3
  have hg':Int.gcd (Int.gcd v.1 v.2.1:Int) v.2.2=1:=hg
  rw[hg',Nat.mul_one] at g3
  exact Int.dvd_natAbs.mp g3
 have zl:v.2.2≤(turn s t).natAbs:=by
  have h:=Int.le_of_dvd (show(0:Int)<((turn s t).natAbs:Int) by omega) (Int.dvd_natAbs.mpr dv)
  exact h
 refine⟨zl,?_,?_⟩
 ·have h:=xeO Int.natAbs e1
  rw[xds,xds] at h
  rcases Nat.lt_or_ge (s.2.2*t.2.1-t.2.2*s.2.1).natAbs v.1.natAbs with c | c
  ·exfalso
   have h1:v.2.2.natAbs≤(turn s t).natAbs:=by omega
   have h2:0<v.2.2.natAbs:=by omega
   have h3:v.2.2.natAbs*(s.2.2*t.2.1-t.2.2*s.2.1).natAbs<v.2.2.natAbs*v.1.natAbs:=Nat.mul_lt_mul_of_pos_left c h2
   have h4:v.2.2.natAbs*v.1.natAbs≤(turn s t).natAbs*v.1.natAbs:=Nat.mul_le_mul_right _ h1
   omega
  ·exact c
 ·have h:=xeO Int.natAbs e2
  rw[xds,xds] at h
  rcases Nat.lt_or_ge (t.2.2*s.1-s.2.2*t.1).natAbs v.2.1.natAbs with c | c
  ·exfalso
   have h1:v.2.2.natAbs≤(turn s t).natAbs:=by omega
   have h2:0<v.2.2.natAbs:=by omega
   have h3:v.2.2.natAbs*(t.2.2*s.1-s.2.2*t.1).natAbs<v.2.2.natAbs*v.2.1.natAbs:=Nat.mul_lt_mul_of_pos_left c h2
   have h4:v.2.2.natAbs*v.2.1.natAbs≤(turn s t).natAbs*v.2.1.natAbs:=Nat.mul_le_mul_right _ h1
   omega
  ·exact c
def abs (i:Int):Int:=if i<0 then -i else i
def cw (r u v:R3):R3:=add (mul (abs (val r v)) u) (mul (abs (val r u)) v)
def xm (r u v:R3):R3:=red (cw r u v)
theorem nI (r u v:R3):cw r u v=cw r v u:=by apply ext3<;>simp only[cw,add]<;>omega
structure Bt (u v x:R3)(a b g:Int):Prop where
 pa:0<a
 pb:0<b
 pg:0<g
 e:mul g x=add (mul a u) (mul b v)
theorem vi {r u v:R3}(hu:0<u.2.2)(hv:0<v.2.2)(h:val r u*val r v<0):Bt u v (xm r u v) (abs (val r v)) (abs (val r u)) (ud (cw r u v))∧val r (xm r u v)=0∧0<(xm r u v).2.2∧ud (xm r u v)=1:=by
 have sg:(val r u<0∧0<val r v)∨(0<val r u∧val r v<0):=by
  rcases xdl (val r u) 0 with c | c | c
  ·rcases xdk 0 (val r v) with d | d
   ·exact .inl ⟨c,d⟩
   ·have:=nn (xdi c) d;omega
  ·rw[c] at h;simp at h
  ·rcases xdk (val r v) 0 with d | d
   ·exact .inr ⟨c,d⟩
   ·have:=pz (xdi c) d;omega
 have p1:0<abs (val r v):=by unfold abs;split<;>omega
 have p2:0<abs (val r u):=by unfold abs;split<;>omega
 have hz:0<(cw r u v).2.2:=by
  show 0<abs (val r v)*u.2.2+abs (val r u)*v.2.2
  have:=pp p1 hu
  have:=pp p2 hv
  omega
 have v0:val r (cw r u v)=0:=by
  unfold cw
  rw[val_add,val_mul,val_mul]
  rcases sg with ⟨c,d⟩ | ⟨c,d⟩
  ·have e1:abs (val r v)=val r v:=by unfold abs;rw[if_neg (by omega)]
   have e2:abs (val r u) = - val r u:=by unfold abs;rw[if_pos c]
   rw[e1,e2];grind
  ·have e1:abs (val r v) = - val r v:=by unfold abs;rw[if_pos d]
   have e2:abs (val r u)=val r u:=by unfold abs;rw[if_neg (by omega)]
   rw[e1,e2];grind
 refine⟨⟨p1,p2,vx hz,gO⟩,?_,nF hz,cM hz⟩
 have:=xeO (val r) (gO (w:=cw r u v))
 rw[val_mul,v0] at this
 exact j3 (vx hz) this
theorem Bt.val {u v x:R3}{a b g:Int}(h:Bt u v x a b g)(r:R3):g*Pol.val r x=a*Pol.val r u+b*Pol.val r v:=by
 have:=xeO (Pol.val r) h.e
 rwa [val_mul,val_add,val_mul,val_mul] at this
theorem Bt.det {u v x:R3}{a b g:Int}(h:Bt u v x a b g)(p q:R3):g*Pol.det p q x=a*Pol.det p q u+b*Pol.det p q v:=by
 have:=xeO (Pol.det p q) h.e
 rwa [uk,gu,uk,uk] at this
theorem Bt.kept {u v x:R3}{a b g:Int}(h:Bt u v x a b g){r:R3}(hu:Pol.val r u≤0)(hv:Pol.val r v≤0):Pol.val r x≤0:=by
 have:=h.val r
 have:=pn (xdi h.pa) hu
 have:=pn (xdi h.pb) hv
 exact fu h.pg (by omega)
theorem Bt.tight {u v x:R3}{a b g:Int}(h:Bt u v x a b g){r:R3}(hu:Pol.val r u=0)(hv:Pol.val r v=0):Pol.val r x=0:=by
 have:=h.val r
 rw[hu,hv] at this
 exact j3 h.pg (by omega)
theorem unlike {r s u v:R3}(hs:s.1≠0∨s.2.1≠0)(hu:0<u.2.2)(hv:0<v.2.2)(su:val s u=0)(sv:val s v=0)(h:val r u*val r v<0):turn s r≠0:=by
 intro z
 have e:s.1*(val r u*v.2.2-val r v*u.2.2)=r.1*(val s u*v.2.2-val s v*u.2.2)+turn s r*(u.2.1*v.2.2-v.2.1*u.2.2):=by simp only[val,turn];grind
 have e':s.2.1*(val r u*v.2.2-val r v*u.2.2)=r.2.1*(val s u*v.2.2-val s v*u.2.2)-turn s r*(u.1*v.2.2-v.1*u.2.2):=by simp only[val,turn];grind
 rw[z,su,sv] at e e'
 have k:val r u*v.2.2-val r v*u.2.2=0:=by
  rcases hs with c | c
  ·have e:s.1*(val r u*v.2.2-val r v*u.2.2)=0:=by rw[e];grind
   exact(Int.mul_eq_zero.mp e).resolve_left c
  ·have e':s.2.1*(val r u*v.2.2-val r v*u.2.2)=0:=by rw[e'];grind
   exact(Int.mul_eq_zero.mp e').resolve_left c
 rcases xdl (val r u) 0 with c | c | c
 ·have d:0<val r v:=by
   rcases xdk 0 (val r v) with d | d
   ·exact d
   ·have:=nn (xdi c) d;omega
  have:=xdp c hv
  have:=pp d hu
  omega
 ·rw[c] at h;simp at h
 ·have d:val r v<0:=by
   rcases xdk (val r v) 0 with d | d
   ·exact d
   ·have:=pz (xdi c) d;omega
  have:=xdp d hu
  have:=pp c hv
  omega
end Pol
namespace Pol
def seg (r:R3)(p:R3×R3):List R3:=(if val r p.1*val r p.2<0 then[xm r p.1 p.2] else[])++(if val r p.2≤0 then[p.2] else[])
def ao (r:R3)(l:List R3):List R3:=(cyc l).flatMap (seg r)
theorem rC (r:R3)(a b:List R3):∃c d,ao r (a++b)=c++d∧ao r (b++a)=d++c:=by
 obtain⟨c,d,e1,e2⟩:=mM a b
 exact⟨c.flatMap (seg r),d.flatMap (seg r),by unfold ao;rw[e1,xdI],by unfold ao;rw[e2,xdI]⟩
theorem jE {r:R3}:∀ {p:R3} {P:List R3},0<val r p→(∀v∈P,0<val r v)→(chain p P).flatMap (seg r)=[]
 | p,[],_,_=>rfl
 | p,x::P,hp,h=>by
  have hx:=h x xee
  show seg r (p,x)++(chain x P).flatMap (seg r)=[]
  rw[jE hx fun v hv=>h v (xed _ hv),xdz]
  unfold seg
  rw[if_neg (show ¬val r p*val r x<0 by have:=pp hp hx;omega),if_neg (show ¬val r x≤0 by omega)];rfl
theorem kX {r:R3}:∀ {p:R3} {Q:List R3},val r p≤0→(∀v∈Q,val r v≤0)→(chain p Q).flatMap (seg r)=Q
 | p,[],_,_=>rfl
 | p,x::Q,hp,h=>by
  have hx:=h x xee
  show seg r (p,x)++(chain x Q).flatMap (seg r)=x::Q
  rw[kX hx fun v hv=>h v (xed _ hv)]
  unfold seg
  rw[if_neg (show ¬val r p*val r x<0 by have:=nn hp hx;omega),if_pos (show val r (p,x).2≤0 from hx)];rfl
def bef (r p q:R3):List R3:=if val r q<0 then[xm r p q] else[]
theorem xaZ {r p q:R3}(hp:0<val r p)(hq:val r q≤0):seg r (p,q)=bef r p q++[q]:=by
 unfold seg bef
 rw[if_pos (show val r (p,q).2≤0 from hq)]
 by_cases c:val r q<0
 ·rw[if_pos c,if_pos (show val r (p,q).1*val r (p,q).2<0 from xdq hp c)]
 ·rw[if_neg c,if_neg (show ¬val r (p,q).1*val r (p,q).2<0 from by
   have e:val r q=0:=by omega
   show ¬val r p*val r q<0
   rw[e];simp)]
theorem ox {r p q:R3}(hp:0<val r p)(hq:val r q≤0):seg r (q,p)=bef r p q:=by
 unfold seg bef
 rw[if_neg (show ¬val r (q,p).2≤0 from by show ¬val r p≤0;omega),xdz]
 by_cases c:val r q<0
 ·rw[if_pos c,if_pos (show val r (q,p).1*val r (q,p).2<0 from xdp c hp)]
  unfold xm;rw[nI]
 ·rw[if_neg c,if_neg (show ¬val r (q,p).1*val r (q,p).2<0 from by
   have e:val r q=0:=by omega
   show ¬val r q*val r p<0
   rw[e];simp)]
theorem jX {r p1 q1:R3}{P Q:List R3}(hP:∀v∈p1::P,0<val r v)(hQ:∀v∈q1::Q,val r v≤0) :
  ao r ((p1::P)++(q1::Q))=bef r p1 (xj q1 Q)++(bef r (xj p1 P) q1++q1::Q):=by
 unfold ao
 rw[qP,xdI]
 have h1:=hP p1 xee
 have h2:=hQ q1 xee
 have h3:=hQ _ (yd q1 Q)
 have h4:=hP _ (yd p1 P)
 have e1:(chain (xj q1 Q) (p1::P)).flatMap (seg r)=bef r p1 (xj q1 Q):=by
  show seg r (xj q1 Q,p1)++(chain p1 P).flatMap (seg r)=_
  rw[jE h1 fun v hv=>hP v (xed _ hv),xdz,ox h1 h3]
 have e2:(chain (xj p1 P) (q1::Q)).flatMap (seg r)=bef r (xj p1 P) q1++q1::Q:=by
  show seg r (xj p1 P,q1)++(chain q1 Q).flatMap (seg r)=_
  rw[kX h2 fun v hv=>hQ v (xed _ hv),xaZ h4 h2,xdy];rfl
 rw[e1,e2]
structure Good (Ls l:List R3):Prop where
 ccw:Ccw l
 bot:∀v∈l,0<v.2.2
 prim:∀v∈l,ud v=1
 kept:∀v∈l,∀s∈Ls,val s v≤0
 edge:∀u v,(u,v)∈cyc l→u≠v→∃s∈Ls,val s u=0∧val s v=0
 two:∀v∈l,∃s∈Ls,∃t∈Ls,val s v=0∧val t v=0∧turn s t≠0
 all:∀p:R3,0<p.2.2→(∀s∈Ls,val s p≤0)→InC l p
theorem Good.rot {Ls a b:List R3}(h:Good Ls (a++b)):Good Ls (b++a) where
 ccw:=h.ccw.rot
 bot:=fun v hv=>h.bot v (by simpa [or_comm] using hv)
 prim:=fun v hv=>h.prim v (by simpa [or_comm] using hv)
 kept:=fun v hv=>h.kept v (by simpa [or_comm] using hv)
 edge:=fun u v e=>h.edge u v (si e)
 two:=fun v hv=>h.two v (by simpa [or_comm] using hv)
 all:=fun p h0 h1=>by
  obtain⟨m,hm,c⟩:=h.all p h0 h1
  exact⟨m,hm,c.mono fun v hv=>.mem (by simpa [or_comm] using hv)⟩
theorem bL {a b:R3}:∀ {l:List R3},List.Sublist [a,b] l→3≤l.length→∃c,List.Sublist [c,a,b] l∨List.Sublist [a,c,b] l∨List.Sublist [a,b,c] l
 | [],_,h=>absurd h (by simp)
 | x::l,s,h=>by
  cases s with
  | cons _ s =>
   exact⟨x,.inl (s.cons_cons x)⟩
  | cons_cons _ s =>
   have hl:2≤l.length:=by simpa using h
   have hb:b∈l:=xes.mp s
   obtain⟨s1,s2,e⟩:=List.append_of_mem hb
   cases s1 with
   | cons c s1 =>
    refine⟨c,.inr (.inl ?_)⟩
    rw[e]
    have:List.Sublist [c,b] (c::s1++b::s2):=(xes.mpr xee).append (xes.mpr xee)
    exact this.cons_cons a
   | nil =>
    cases s2 with
    | nil=>rw[e] at hl;simp at hl
    | cons c s2 =>
     refine⟨c,.inr (.inr ?_)⟩
     rw[e]
     simp
theorem ko {l:List R3}(h:∀u v w:R3,List.Sublist [u,v,w] l→0<det u v w)(h3:3≤l.length):l.Nodup:=by
 refine List.pairwise_iff_forall_sublist.mpr fun {a b} s e=>?_
 subst e
 obtain⟨c,s | s | s⟩:=bL s h3
 ·have:=h _ _ _ s;rw[uw] at this;omega
 ·have:=h _ _ _ s;rw[uR] at this;omega
 ·have:=h _ _ _ s;rw[uW] at this;omega
end Pol
namespace Pol
theorem fK {p:R3}{P:List R3}(h:P≠[]):List.Sublist [p,xj p P] (p::P):=by
 cases P with
 | nil=>exact absurd rfl h
 | cons y ys=>exact(xes.mpr (show xj p (y::ys)∈y::ys from yd y ys)).cons_cons p
structure Bw (u v x:R3)(a b g:Int):Prop where
 pa:0≤a
 pb:0<b
 pg:0<g
 e:mul g x=add (mul a u) (mul b v)
theorem Bt.w {u v x:R3}{a b g:Int}(h:Bt u v x a b g):Bw u v x a b g:=⟨xdi h.pa,h.pb,h.pg,h.e⟩
theorem Bw.self (u v:R3):Bw u v v 0 1 1:=⟨by omega,by omega,by omega,by apply ext3<;>simp[mul,add]⟩
theorem Bw.det {u v x:R3}{a b g:Int}(h:Bw u v x a b g)(p q:R3):g*Pol.det p q x=a*Pol.det p q u+b*Pol.det p q v:=by
 have:=xeO (Pol.det p q) h.e
 rwa [uk,gu,uk,uk] at this
section
variable {Ls P Q:List R3} {r p1 q1:R3}
structure p0 (Ls:List R3)(r p1 q1:R3)(P Q:List R3):Prop where
 good:Good Ls ((p1::P)++(q1::Q))
 hP:∀v∈p1::P,0<val r v
 hQ:∀v∈q1::Q,val r v≤0
 three:P≠[]∨Q≠[]
 dir:∀s∈Ls,s.1≠0∨s.2.1≠0
namespace p0
variable (S:p0 Ls r p1 q1 P Q)
include S
theorem q1le:val r q1≤0:=S.hQ q1 xee
theorem qmle:val r (xj q1 Q)≤0:=S.hQ _ (yd q1 Q)
theorem p1gt:0<val r p1:=S.hP p1 xee
theorem pkgt:0<val r (xj p1 P):=S.hP _ (yd p1 P)
theorem botQ {v:R3}(h:v∈q1::Q):0<v.2.2:=S.good.bot v (xeb _ h)
theorem botP {v:R3}(h:v∈p1::P):0<v.2.2:=S.good.bot v (xea _ h)
theorem pqq {p x y:R3}(hp:p∈p1::P)(s:List.Sublist [x,y] (q1::Q)):0<det p x y:=S.good.ccw.tri p x y ((xes.mpr hp).append s)
theorem ppq {p p' x:R3}(hp:List.Sublist [p,p'] (p1::P))(hx:x∈q1::Q):0<det p p' x:=S.good.ccw.tri p p' x (hp.append (xes.mpr hx))
theorem qqq {x y z:R3}(s:List.Sublist [x,y,z] (q1::Q)):0<det x y z:=S.good.ccw.tri x y z (s.trans (xev _ _))
theorem q1xy {x y:R3}(s:List.Sublist [x,y] (q1::Q)):0≤det q1 x y:=by
 cases s with
 | cons _ s=>exact xdi (S.qqq (s.cons_cons q1))
 | cons_cons _ s=>rw[uW];exact xdj _
theorem xyqm {x y:R3}(s:List.Sublist [x,y] (q1::Q)):0≤det x y (xj q1 Q):=by
 obtain⟨ys,e⟩:=jm q1 Q
 have s':=s
 rw[e] at s'
 obtain⟨l1,l2,e2,s1,s2⟩:=xeu.mp s'
 cases l2 with
 | nil =>
  rw[xdz] at e2
  subst e2
  have:=S.qqq (x:=x) (y:=y) (z:=xj q1 Q) (by rw[e];exact s1.append (xdu [xj q1 Q]))
  omega
 | cons b l2 =>
  have hb:b=xj q1 Q∧l2=[]:=by
   cases s2 with
   | cons _ s2=>cases s2
   | cons_cons _ s2=>cases s2;exact⟨rfl,rfl⟩
  obtain⟨hb,rfl⟩:=hb
  have:y=b:=by
   cases l1 with
   | nil=>cases e2
   | cons c l1 =>
    cases l1 with
    | nil=>injection e2 with _ e2;injection e2
    | cons d l1 =>
     injection e2 with _ e2
     injection e2 with _ e2
     simp at e2
  rw[this,hb,uw];exact xdj _
theorem nd:((p1::P)++(q1::Q)).Nodup:=S.good.ccw.nd
theorem p1pkx {x:R3}(hx:x∈q1::Q):0≤det p1 (xj p1 P) x∧(P≠[]→0<det p1 (xj p1 P) x):=by
 by_cases h:P=[]
 ·subst h
  exact⟨by show 0≤det p1 p1 x;rw[uW];exact xdj _,fun z=>absurd rfl z⟩
 ·have:=S.ppq (fK h) hx
  exact⟨by omega,fun _=>this⟩
theorem pq1x {p x:R3}(hp:p∈p1::P)(hx:x∈q1::Q):0≤det p q1 x∧(x≠q1→0<det p q1 x):=by
 rcases xec.mp hx with rfl | hx
 ·exact⟨by rw[uw];exact xdj _,fun z=>absurd rfl z⟩
 ·have:=S.pqq hp ((xes.mpr hx).cons_cons q1)
  exact⟨by omega,fun _=>this⟩
theorem pxqm {p x:R3}(hp:p∈p1::P)(hx:x∈q1::Q):0≤det p x (xj q1 Q)∧(x≠xj q1 Q→0<det p x (xj q1 Q)):=by
 obtain⟨ys,e⟩:=jm q1 Q
 rw[e] at hx
 rcases xd_.mp hx with hx | hx
 ·have:=S.pqq (x:=x) (y:=xj q1 Q) hp (by rw[e];exact(xes.mpr hx).append (xdu [xj q1 Q]))
  exact⟨by omega,fun _=>this⟩
 ·have:x=xj q1 Q:=by simpa using hx
  rw[this]
  exact⟨by rw[uw];exact xdj _,fun z=>absurd rfl z⟩
theorem q1xqm {x:R3}(hx:x∈q1::Q):0≤det q1 x (xj q1 Q):=by
 rcases xec.mp hx with rfl | hx
 ·rw[uW];exact xdj _
 ·exact S.xyqm ((xes.mpr hx).cons_cons q1)
theorem q1ne (h:Q≠[]):q1≠xj q1 Q:=by
 have s:=fK (p:=q1) h
 have nd:=(xen.mp S.nd).2.1
 exact List.pairwise_iff_forall_sublist.mp nd s
def w1 (r p1 q1:R3)(P:List R3):R3:=if val r q1<0 then xm r (xj p1 P) q1 else q1
def u1 (r p1 q1:R3)(Q:List R3):R3:=if val r (xj q1 Q)<0 then xm r p1 (xj q1 Q) else xj q1 Q
theorem X1 (h:val r q1<0):Bt (xj p1 P) q1 (xm r (xj p1 P) q1) (abs (val r q1)) (abs (val r (xj p1 P))) (ud (cw r (xj p1 P) q1))∧val r (xm r (xj p1 P) q1)=0∧0<(xm r (xj p1 P) q1).2.2∧ud (xm r (xj p1 P) q1)=1 :=
 vi (S.botP (yd p1 P)) (S.botQ xee) (xdq S.pkgt h)
theorem X2 (h:val r (xj q1 Q)<0):Bt p1 (xj q1 Q) (xm r p1 (xj q1 Q)) (abs (val r (xj q1 Q))) (abs (val r p1)) (ud (cw r p1 (xj q1 Q)))∧val r (xm r p1 (xj q1 Q))=0∧0<(xm r p1 (xj q1 Q)).2.2∧ud (xm r p1 (xj q1 Q))=1 :=
 vi (S.botP xee) (S.botQ (yd q1 Q)) (xdq S.p1gt h)
theorem w1b:∃a b g,Bw (xj p1 P) q1 (w1 r p1 q1 P) a b g∧(val r q1<0→0<a)∧val r (w1 r p1 q1 P)=0:=by
 unfold w1
 by_cases h:val r q1<0
 ·rw[if_pos h]
  obtain⟨b,z,_⟩:=S.X1 h
  exact⟨_,_,_,b.w,fun _=>b.pa,z⟩
 ·rw[if_neg h]
  exact⟨_,_,_,Bw.self _ _,fun z=>absurd z h,by have:=S.q1le;omega⟩
theorem u1b:∃a b g,Bw p1 (xj q1 Q) (u1 r p1 q1 Q) a b g∧(val r (xj q1 Q)<0→0<a)∧val r (u1 r p1 q1 Q)=0:=by
 unfold u1
 by_cases h:val r (xj q1 Q)<0
 ·rw[if_pos h]
  obtain⟨b,z,_⟩:=S.X2 h
  exact⟨_,_,_,b.w,fun _=>b.pa,z⟩
 ·rw[if_neg h]
  exact⟨_,_,_,Bw.self _ _,fun z=>absurd z h,by have:=S.qmle;omega⟩
theorem close {p:R3}(hc:val r q1<0∨Q≠[])(hp:val r p≤0):0≤det (u1 r p1 q1 Q) (w1 r p1 q1 P) p:=by
 obtain⟨a,b,g,bw,ha,hw⟩:=S.w1b
 obtain⟨c,d,g',bu,hcc,hu⟩:=S.u1b
 have e1:=bu.det p1 (w1 r p1 q1 P)
 rw[uR,Int.mul_zero,Int.zero_add] at e1
 have e2:=bw.det (xj q1 Q) p1
 have d1:det (xj q1 Q) p1 (xj p1 P)=det p1 (xj p1 P) (xj q1 Q):=zy _ _ _
 have d2:det (xj q1 Q) p1 q1=det p1 q1 (xj q1 Q):=zy _ _ _
 rw[d1,d2] at e2
 obtain⟨f1,f2⟩:=S.p1pkx (yd q1 Q)
 obtain⟨f3,f4⟩:=S.pq1x (p:=p1) xee (yd q1 Q)
 have k1:0<det (xj q1 Q) p1 (w1 r p1 q1 P):=by
  refine zo bw.pg ?_
  rw[e2]
  have n1:=pz bw.pa f1
  have n2:=pz (xdi bw.pb) f3
  by_cases hq:Q=[]
  ·have hp':P≠[]:=S.three.resolve_right (fun z=>z hq)
   have h0:val r q1<0:=hc.resolve_right (fun z=>z hq)
   have:=pp (ha h0) (f2 hp')
   omega
  ·have:=pp bw.pb (f4 (Ne.symm (S.q1ne hq)))
   omega
 have d3:det p1 (w1 r p1 q1 P) (xj q1 Q)=det (xj q1 Q) p1 (w1 r p1 q1 P):=wH _ _ _
 rw[d3] at e1
 have k2:0<det p1 (w1 r p1 q1 P) (u1 r p1 q1 Q):=by
  refine zo bu.pg ?_
  rw[e1];exact pp bu.pb k1
 have e3:=cK r (u1 r p1 q1 Q) (w1 r p1 q1 P) p1 p hu hw
 have d4:det (u1 r p1 q1 Q) (w1 r p1 q1 P) p1 = - det p1 (w1 r p1 q1 P) (u1 r p1 q1 Q):=by
  rw[wH,rB]
 rw[d4] at e3
 refine yN S.p1gt ?_
 rw[←e3]
 exact nn hp (by omega)
def left (r p1 q1:R3)(P Q:List R3):List R3:=bef r (xj p1 P) q1++(q1::Q)++bef r p1 (xj q1 Q)
theorem mem_left {v:R3}(h:v∈left r p1 q1 P Q):(v∈q1::Q)∨(val r q1<0∧v=xm r (xj p1 P) q1)∨(val r (xj q1 Q)<0∧v=xm r p1 (xj q1 Q)):=by
 unfold left bef at h
 rcases xd_.mp h with h | h
 ·rcases xd_.mp h with h | h
  ·split at h
   ·exact .inr (.inl ⟨by assumption,by simpa using h⟩)
   ·simp at h
  ·exact .inl h
 ·split at h
  ·exact .inr (.inr ⟨by assumption,by simpa using h⟩)
  ·simp at h
theorem sub_bef {p q:R3}{l:List R3}(h:List.Sublist l (bef r p q)):l=[]∨(val r q<0∧l=[xm r p q]):=by
 unfold bef at h
 split at h
 ·cases h with
  | cons _ h=>cases h;exact .inl rfl
  | cons_cons _ h=>cases h;exact .inr ⟨by assumption,rfl⟩
 ·cases h;exact .inl rfl
theorem tri {u v w:R3}(s:List.Sublist [u,v,w] (left r p1 q1 P Q)):0<det u v w:=by
 unfold left at s
 rw[xdy] at s
 obtain⟨l1,l2,e,s1,s2⟩:=xeu.mp s
 obtain⟨l3,l4,e2,s3,s4⟩:=xeu.mp s2
 have b1:=S.sub_bef s1
 have b4:=S.sub_bef s4
 subst e2
 rcases b1 with rfl | ⟨h1,rfl⟩
 ·rcases b4 with rfl | ⟨h4,rfl⟩
  ·have:[u,v,w]=l3:=by simpa using e
   subst this
   exact S.qqq s3
  ·-- q q X2
   obtain⟨bt,_⟩:=S.X2 h4
   have:l3=[u,v]∧w=xm r p1 (xj q1 Q):=by
    rcases pO (show[u,v,w]=l3++[xm r p1 (xj q1 Q)] from e) with ⟨_,z⟩ | ⟨_,z⟩ | ⟨z1,z⟩ | ⟨_,z⟩
    ·cases z
    ·cases z
    ·cases z;exact⟨z1,rfl⟩
    ·cases z
   obtain⟨rfl,rfl⟩:=this
   have e3:=bt.det u v
   have k1:0<det u v p1:=by rw[wH];exact S.pqq xee s3
   have k2:=S.xyqm s3
   have:=pp bt.pa k1
   have:=pz (xdi bt.pb) k2
   exact zo bt.pg (by omega)
 ·obtain⟨bt,_⟩:=S.X1 h1
  rcases b4 with rfl | ⟨h4,rfl⟩
  ·have:u=xm r (xj p1 P) q1∧l3=[v,w]:=by
    injection e with e1 e2
    exact⟨e1,by simpa using e2.symm⟩
   obtain⟨rfl,rfl⟩:=this
   have e3:=bt.det v w
   have k1:0<det v w (xj p1 P):=by rw[wH];exact S.pqq (yd p1 P) s3
   have k2:0≤det v w q1:=by rw[wH];exact S.q1xy s3
   have:=pp bt.pa k1
   have:=pz (xdi bt.pb) k2
   rw[zy]
   exact zo bt.pg (by omega)
  ·obtain⟨bu,_⟩:=S.X2 h4
   have:u=xm r (xj p1 P) q1∧l3=[v]∧w=xm r p1 (xj q1 Q):=by
    injection e with e1 e
    have e:[v,w]=l3++[xm r p1 (xj q1 Q)]:=e
    cases l3 with
    | nil=>cases e
    | cons a l3 =>
     injection e with e2 e
     cases l3 with
     | nil=>injection e with e3 _;exact⟨e1,by rw[e2],e3⟩
     | cons b l3=>injection e with _ e;simp at e
   obtain⟨rfl,rfl,rfl⟩:=this
   have hv:v∈q1::Q:=xes.mp s3
   have e3:=bu.det (xm r (xj p1 P) q1) v
   have e4:=bt.det v p1
   have e5:=bt.det v (xj q1 Q)
   have r1:det v p1 (xj p1 P)=det p1 (xj p1 P) v:=zy _ _ _
   have r2:det v p1 q1=det p1 q1 v:=zy _ _ _
   have r3:det v (xj q1 Q) (xj p1 P)=det (xj p1 P) v (xj q1 Q):=wH _ _ _
   have r4:det v (xj q1 Q) q1=det q1 v (xj q1 Q):=wH _ _ _
   rw[r1,r2] at e4
   rw[r3,r4] at e5
   obtain⟨f1,f2⟩:=S.p1pkx hv
   obtain⟨f3,f4⟩:=S.pq1x (p:=p1) xee hv
   obtain⟨f5,f6⟩:=S.pxqm (p:=xj p1 P) (yd p1 P) hv
   have f7:=S.q1xqm hv
   have n1:=pz (xdi bt.pa) f1
   have n2:=pz (xdi bt.pb) f3
   have n3:=pz (xdi bt.pa) f5
   have n4:=pz (xdi bt.pb) f7
   have g1:0≤det v p1 (xm r (xj p1 P) q1):=yN bt.pg (by omega)
   have g2:0≤det v (xj q1 Q) (xm r (xj p1 P) q1):=yN bt.pg (by omega)
   have some:0<det v p1 (xm r (xj p1 P) q1)∨0<det v (xj q1 Q) (xm r (xj p1 P) q1):=by
    by_cases hq:Q=[]
    ·have hp':P≠[]:=S.three.resolve_right (fun z=>z hq)
     left
     have:=pp bt.pa (f2 hp')
     exact zo bt.pg (by omega)
    ·by_cases hv1:v=q1
     ·right
      have:=pp bt.pa (f6 (by rw[hv1];exact S.q1ne hq))
      exact zo bt.pg (by omega)
     ·left
      have:=pp bt.pb (f4 hv1)
      exact zo bt.pg (by omega)
   have m1:det (xm r (xj p1 P) q1) v p1=det v p1 (xm r (xj p1 P) q1):=zy _ _ _
   have m2:det (xm r (xj p1 P) q1) v (xj q1 Q)=det v (xj q1 Q) (xm r (xj p1 P) q1):=zy _ _ _
   rw[m1,m2] at e3
   refine zo bu.pg ?_
   rw[e3]
   have t1:=pz (xdi bu.pa) g1
   have t2:=pz (xdi bu.pb) g2
   rcases some with z | z
   ·have:=pp bu.pa z;omega
   ·have:=pp bu.pb z;omega
end p0
end
end Pol
namespace Pol
section
variable {Ls P Q:List R3} {r p1 q1:R3}
namespace p0
variable (S:p0 Ls r p1 q1 P Q)
include S
theorem pairs {u v:R3}(h:(u,v)∈cyc (left r p1 q1 P Q)):(u=u1 r p1 q1 Q∧v=w1 r p1 q1 P)∨(val r q1<0∧u=xm r (xj p1 P) q1∧v=q1)∨(val r (xj q1 Q)<0∧u=xj q1 Q∧v=xm r p1 (xj q1 Q))∨(u,v)∈chain q1 Q:=by
 unfold left bef at h
 unfold u1 w1
 by_cases h1:val r q1<0
 ·by_cases h2:val r (xj q1 Q)<0
  ·simp only[if_pos h1,if_pos h2,xdA,xem] at h ⊢
   have e:cyc (xm r (xj p1 P) q1::q1::(Q++[xm r p1 (xj q1 Q)]))=(xm r p1 (xj q1 Q),xm r (xj p1 P) q1)::(xm r (xj p1 P) q1,q1)::(chain q1 Q++[(xj q1 Q,xm r p1 (xj q1 Q))]):=by
    show(xj q1 (Q++[_]),_)::(_,q1)::chain q1 (Q++[_])=_
    rw[j9,qA];rfl
   rw[e] at h
   rcases xec.mp h with h | h
   ·injection h with a b;exact .inl ⟨a,b⟩
   ·rcases xec.mp h with h | h
    ·injection h with a b;exact .inr (.inl ⟨h1,a,b⟩)
    ·rcases xd_.mp h with h | h
     ·exact .inr (.inr (.inr h))
     ·have h:=xel.mp h
      injection h with a b;exact .inr (.inr (.inl ⟨h2,a,b⟩))
  ·simp only[if_pos h1,if_neg h2,xdA,xem,xdz] at h ⊢
   have e:cyc (xm r (xj p1 P) q1::q1::Q)=(xj q1 Q,xm r (xj p1 P) q1)::(xm r (xj p1 P) q1,q1)::chain q1 Q:=rfl
   rw[e] at h
   rcases xec.mp h with h | h
   ·injection h with a b;exact .inl ⟨a,b⟩
   ·rcases xec.mp h with h | h
    ·injection h with a b;exact .inr (.inl ⟨h1,a,b⟩)
    ·exact .inr (.inr (.inr h))
 ·by_cases h2:val r (xj q1 Q)<0
  ·simp only[if_neg h1,if_pos h2,xdA,xem] at h ⊢
   have e:cyc (q1::(Q++[xm r p1 (xj q1 Q)]))=(xm r p1 (xj q1 Q),q1)::(chain q1 Q++[(xj q1 Q,xm r p1 (xj q1 Q))]):=by
    show(xj q1 (Q++[_]),_)::chain q1 (Q++[_])=_
    rw[j9,qA];rfl
   rw[e] at h
   rcases xec.mp h with h | h
   ·injection h with a b;exact .inl ⟨a,b⟩
   ·rcases xd_.mp h with h | h
    ·exact .inr (.inr (.inr h))
    ·have h:=xel.mp h
     injection h with a b;exact .inr (.inr (.inl ⟨h2,a,b⟩))
  ·simp only[if_neg h1,if_neg h2,xdA,xem,xdz] at h ⊢
   have e:cyc (q1::Q)=(xj q1 Q,q1)::chain q1 Q:=rfl
   rw[e] at h
   rcases xec.mp h with h | h
   ·injection h with a b;exact .inl ⟨a,b⟩
   ·exact .inr (.inr (.inr h))
theorem old1:(xj p1 P,q1)∈cyc ((p1::P)++(q1::Q)):=by
 rw[qP];exact xeb _ xee
theorem old2:(xj q1 Q,p1)∈cyc ((p1::P)++(q1::Q)):=by
 rw[qP];exact xea _ xee
theorem old3 {u v:R3}(h:(u,v)∈chain q1 Q):(u,v)∈cyc ((p1::P)++(q1::Q)):=by
 rw[qP];exact xeb _ (xed _ h)
theorem pk_ne:xj p1 P≠q1:=fun e=>by have:=S.pkgt;have:=S.q1le;rw[e] at *;omega
theorem p1_ne:xj q1 Q≠p1:=fun e=>by have:=S.p1gt;have:=S.qmle;rw[e] at *;omega
theorem len_left:(val r q1<0∨val r (xj q1 Q)<0∨2≤Q.length)→3≤(left r p1 q1 P Q).length:=by
 intro h
 unfold left bef
 by_cases hq:Q=[]
 ·subst hq
  have h':val r q1<0:=by
   rcases h with h | h | h
   ·exact h
   ·exact h
   ·simp at h
  rw[if_pos h',if_pos (show val r (xj q1 [])<0 from h')];simp
 ·have l1:1≤Q.length:=by
   cases Q with
   | nil=>exact absurd rfl hq
   | cons _ _=>simp
  rcases h with h | h | h
  ·rw[if_pos h];simp;omega
  ·rw[if_pos h];simp;omega
  ·simp;omega
theorem small (h:¬(val r q1<0∨val r (xj q1 Q)<0∨2≤Q.length)):left r p1 q1 P Q=q1::Q∧∀v∈q1::Q,val r v=0:=by
 have h1:¬val r q1<0:=fun z=>h (.inl z)
 have h2:¬val r (xj q1 Q)<0:=fun z=>h (.inr (.inl z))
 have h3:¬2≤Q.length:=fun z=>h (.inr (.inr z))
 refine⟨by unfold left bef;rw[if_neg h1,if_neg h2];simp,fun v hv=>?_⟩
 have a:=S.q1le
 have b:=S.qmle
 rcases xec.mp hv with rfl | hv
 ·omega
 ·match Q,hv,h3,b,h2 with
  | [x],hv,_,b,h2 =>
   have:v=x:=by simpa using hv
   subst this
   have b:val r v≤0:=b
   have h2:¬val r v<0:=h2
   omega
  | _::_::_,_,h3,_,_=>exact absurd (by simp) h3
theorem good_left:Good (Ls++[r]) (left r p1 q1 P Q):=by
 have keptOld:∀s∈Ls,∀v∈(p1::P)++(q1::Q),val s v≤0:=fun s hs v hv=>S.good.kept v hv s hs
 have mP:∀ {v},v∈p1::P→v∈(p1::P)++(q1::Q):=fun h=>xea _ h
 have mQ:∀ {v},v∈q1::Q→v∈(p1::P)++(q1::Q):=fun h=>xeb _ h
 refine⟨⟨fun u v w s=>S.tri s,?_⟩,fun v hv=>?_,fun v hv=>?_,fun v hv s hs=>?_,fun u v he hne=>?_,fun v hv=>?_,fun p h0 hp=>?_⟩
 ·by_cases c:val r q1<0∨val r (xj q1 Q)<0∨2≤Q.length
  ·exact ko (fun u v w s=>S.tri s) (S.len_left c)
  ·rw[(S.small c).1];exact(xen.mp S.nd).2.1
 ·rcases S.mem_left hv with hv | ⟨h,rfl⟩ | ⟨h,rfl⟩
  ·exact S.botQ hv
  ·exact(S.X1 h).2.2.1
  ·exact(S.X2 h).2.2.1
 ·rcases S.mem_left hv with hv | ⟨h,rfl⟩ | ⟨h,rfl⟩
  ·exact S.good.prim v (mQ hv)
  ·exact(S.X1 h).2.2.2
  ·exact(S.X2 h).2.2.2
 ·rcases xd_.mp hs with hs | hs
  ·rcases S.mem_left hv with hv | ⟨h,rfl⟩ | ⟨h,rfl⟩
   ·exact keptOld s hs v (mQ hv)
   ·exact(S.X1 h).1.kept (keptOld s hs _ (mP (yd p1 P))) (keptOld s hs _ (mQ xee))
   ·exact(S.X2 h).1.kept (keptOld s hs _ (mP xee)) (keptOld s hs _ (mQ (yd q1 Q)))
  ·have:s=r:=by simpa using hs
   subst this
   rcases S.mem_left hv with hv | ⟨h,rfl⟩ | ⟨h,rfl⟩
   ·exact S.hQ v hv
   ·rw[(S.X1 h).2.1];exact xdj _
   ·rw[(S.X2 h).2.1];exact xdj _
 ·rcases S.pairs he with ⟨rfl,rfl⟩ | ⟨h,rfl,rfl⟩ | ⟨h,rfl,rfl⟩ | h
  ·obtain⟨_,_,_,_,_,e1⟩:=S.w1b
   obtain⟨_,_,_,_,_,e2⟩:=S.u1b
   exact⟨r,by simp,e2,e1⟩
  ·obtain⟨s,hs,a,b⟩:=S.good.edge _ _ S.old1 S.pk_ne
   exact⟨s,xea _ hs,(S.X1 h).1.tight a b,b⟩
  ·obtain⟨s,hs,a,b⟩:=S.good.edge _ _ S.old2 S.p1_ne
   exact⟨s,xea _ hs,a,(S.X2 h).1.tight b a⟩
  ·obtain⟨s,hs,a,b⟩:=S.good.edge _ _ (S.old3 h) hne
   exact⟨s,xea _ hs,a,b⟩
 ·rcases S.mem_left hv with hv | ⟨h,rfl⟩ | ⟨h,rfl⟩
  ·obtain⟨s,hs,t,ht,a,b,c⟩:=S.good.two v (mQ hv)
   exact⟨s,xea _ hs,t,xea _ ht,a,b,c⟩
  ·obtain⟨s,hs,a,b⟩:=S.good.edge _ _ S.old1 S.pk_ne
   exact⟨s,xea _ hs,r,by simp,(S.X1 h).1.tight a b,(S.X1 h).2.1,unlike (S.dir s hs) (S.botP (yd p1 P)) (S.botQ xee) a b (xdq S.pkgt h)⟩
  ·obtain⟨s,hs,a,b⟩:=S.good.edge _ _ S.old2 S.p1_ne
   exact⟨s,xea _ hs,r,by simp,(S.X2 h).1.tight b a,(S.X2 h).2.1,unlike (S.dir s hs) (S.botP xee) (S.botQ (yd q1 Q)) b a (xdq S.p1gt h)⟩
 ·have hpL:∀s∈Ls,val s p≤0:=fun s hs=>hp s (xea _ hs)
  have hpr:val r p≤0:=hp r (by simp)
  obtain⟨m,hm,cn⟩:=S.good.all p h0 hpL
  by_cases c:val r q1<0∨val r (xj q1 Q)<0∨2≤Q.length
  ·have he:∀u v,(u,v)∈cyc ((p1::P)++(q1::Q))→0≤det u v p:=fun u v h=>by
    have:=cn.det u v fun w hw=>S.good.ccw.edge h hw
    rw[uk] at this
    exact yN hm this
   refine Ccw.incone ⟨fun u v w s=>S.tri s,ko (fun u v w s=>S.tri s) (S.len_left c)⟩ (S.len_left c) fun u v hm'=>?_
   rcases S.pairs hm' with ⟨e1,e2⟩ | ⟨h,e1,e2⟩ | ⟨h,e1,e2⟩ | h
   ·rw[e1,e2]
    refine S.close ?_ hpr
    rcases c with c | c | c
    ·exact .inl c
    ·by_cases hq:Q=[]
     ·subst hq;exact .inl c
     ·exact .inr hq
    ·right;intro z;subst z;simp at c
   ·rw[e1,e2]
    have bt:=(S.X1 h).1
    have e:=bt.det q1 p
    have r1:det q1 p (xj p1 P)=det (xj p1 P) q1 p:=wH _ _ _
    rw[r1,uR,Int.mul_zero,Int.add_zero] at e
    have k:=pz (xdi bt.pa) (he _ _ S.old1)
    rw[zy]
    exact yN bt.pg (by omega)
   ·rw[e1,e2]
    have bt:=(S.X2 h).1
    have e:=bt.det p (xj q1 Q)
    have r1:det p (xj q1 Q) p1=det (xj q1 Q) p1 p:=zy _ _ _
    rw[r1,uw,Int.mul_zero,Int.add_zero] at e
    have k:=pz (xdi bt.pa) (he _ _ S.old2)
    rw[wH]
    exact yN bt.pg (by omega)
   ·exact he u v (S.old3 h)
  ·obtain⟨e,z⟩:=S.small c
   refine⟨m,hm,?_⟩
   have ge:∀v∈(p1::P)++(q1::Q),0≤val r v:=fun v hv=>by
    rcases xd_.mp hv with hv | hv
    ·have:=S.hP v hv;omega
    ·have:=z v hv;omega
   have:=cn.zeros r ge (by rw[val_mul];exact pn (xdi hm) hpr)
   rw[e]
   refine this.mono fun v hv=>?_
   obtain⟨hv,hv0⟩:=xef.mp hv
   have hv0:val r v=0:=by simpa using hv0
   rcases xd_.mp hv with hv | hv
   ·have:=S.hP v hv;omega
   ·exact .mem hv
end p0
end
end Pol
namespace Pol
def xX (r:R3)(left:List R3)(p:R3×R3):List R3 :=
 let l1:=if val r p.1*val r p.2<0 then(if xm r p.1 p.2∈left then left else left++[xm r p.1 p.2]) else left
 if val r p.2≤0 then l1++[p.2] else l1
def yk (l:List R3)(r:R3):List R3:=(cyc l).foldl (xX r) []
theorem bU {r:R3}{acc:List R3}{p:R3×R3}(h:(acc++seg r p).Nodup):xX r acc p=acc++seg r p:=by
 unfold xX seg at *
 by_cases c:val r p.1*val r p.2<0
 ·rw[if_pos c] at h ⊢
  have hn:xm r p.1 p.2∉acc:=fun z=>by
   have:=(xen.mp h).2.2 _ z _ (xea _ (xel.mpr rfl))
   exact this rfl
  simp only[if_neg hn]
  split<;>simp
 ·rw[if_neg c] at h ⊢
  simp only
  split<;>simp
theorem aC {r:R3}:∀ {ps:List (R3×R3)} {acc:List R3},(acc++ps.flatMap (seg r)).Nodup→ps.foldl (xX r) acc=acc++ps.flatMap (seg r)
 | [],acc,_=>by simp
 | p::ps,acc,h=>by
  have h':(acc++(seg r p++ps.flatMap (seg r))).Nodup:=h
  rw[←xdy] at h'
  rw[xdL,bU (xen.mp h').1,aC h',xdy];rfl
theorem fg {r:R3}{l:List R3}(h:(ao r l).Nodup):yk l r=ao r l:=by
 unfold yk
 rw[aC (by simpa [ao] using h)];rfl
theorem uH {r:R3}{l:List R3}(h:∀v∈l,val r v≤0):ao r l=l:=by
 cases l with
 | nil=>rfl
 | cons x xs=>exact kX (h _ (yd x xs)) h
theorem uX {r:R3}{l:List R3}(h:∀v∈l,0<val r v):ao r l=[]:=by
 cases l with
 | nil=>rfl
 | cons x xs=>exact jE (h _ (yd x xs)) h
theorem qa {Ls l:List R3}{r:R3}(g:Good Ls l)(h:∀v∈l,val r v≤0):Good (Ls++[r]) l where
 ccw:=g.ccw
 bot:=g.bot
 prim:=g.prim
 kept:=fun v hv s hs=>by
  rcases xd_.mp hs with hs | hs
  ·exact g.kept v hv s hs
  ·have:s=r:=by simpa using hs
   subst this
   exact h v hv
 edge:=fun u v he hn=>by
  obtain⟨s,hs,a⟩:=g.edge u v he hn
  exact⟨s,xea _ hs,a⟩
 two:=fun v hv=>by
  obtain⟨s,hs,t,ht,a⟩:=g.two v hv
  exact⟨s,xea _ hs,t,xea _ ht,a⟩
 all:=fun p h0 hp=>g.all p h0 fun s hs=>hp s (xea _ hs)
theorem w4 {Ls l l':List R3}{r:R3}(g:Good Ls l)(h:∀v∈l,0≤val r v)(hs:List.Sublist l' l)(hl:l'.length≤1)(h0:∀v∈l',val r v=0)(h1:∀v∈l,val r v=0→v∈l'):Good (Ls++[r]) l' where
 ccw:=⟨fun u v w s=>by
  have:=s.length_le
  simp at this
  omega,g.ccw.nd.sublist hs⟩
 bot:=fun v hv=>g.bot v (hs.subset hv)
 prim:=fun v hv=>g.prim v (hs.subset hv)
 kept:=fun v hv s hs'=>by
  rcases xd_.mp hs' with h' | h'
  ·exact g.kept v (hs.subset hv) s h'
  ·have:s=r:=by simpa using h'
   subst this
   rw[h0 v hv];exact xdj _
 edge:=fun u v he hn=>by
  exfalso
  match l',hl,he with
  | [x],_,he =>
   have:(u,v)=(x,x):=by simpa [cyc,chain,xj] using he
   injection this with a b
   exact hn (by rw[a,b])
  | [],_,he=>simp[cyc] at he
  | _::_::_,hl,_=>simp at hl
 two:=fun v hv=>by
  obtain⟨s,hs',t,ht,a⟩:=g.two v (hs.subset hv)
  exact⟨s,xea _ hs',t,xea _ ht,a⟩
 all:=fun p hz hp=>by
  obtain⟨m,hm,c⟩:=g.all p hz fun s hs=>hp s (xea _ hs)
  refine⟨m,hm,(c.zeros r h ?_).mono fun v hv=>?_⟩
  ·rw[val_mul];exact pn (xdi hm) (hp r (by simp))
  ·obtain⟨a,b⟩:=xef.mp hv
   exact .mem (h1 v a (by simpa using b))
theorem kA {Ls:List R3}{r u v x:R3}(g:Good Ls [u,v])(dir:∀s∈Ls,s.1≠0∨s.2.1≠0)(hu:0<val r u)(hv:val r v<0)(hx:x=xm r u v):Good (Ls++[r]) [x,v]:=by
 subst hx
 have bu:=g.bot u (by simp)
 have bv:=g.bot v (by simp)
 obtain⟨bt,x0,xb,xp⟩:=vi (r:=r) bu bv (xdq hu hv)
 have ne:u≠v:=fun e=>by rw[e] at hu;omega
 obtain⟨s,hs,su,sv⟩:=g.edge u v (by simp[cyc,chain,xj]) ne
 have nx:xm r u v≠v:=fun e=>by rw[e] at x0;omega
 have sx:=bt.tight su sv
 refine⟨⟨fun a b c h=>by have:=h.length_le;simp at this,by simp[nx]⟩,fun w hw=>?_,fun w hw=>?_,fun w hw t ht=>?_,fun a b he hn=>?_,fun w hw=>?_,fun p hz hp=>?_⟩
 ·simp only[xec,xep,xeV] at hw
  rcases hw with rfl | rfl
  ·exact xb
  ·exact bv
 ·simp only[xec,xep,xeV] at hw
  rcases hw with rfl | rfl
  ·exact xp
  ·exact g.prim w (by simp)
 ·simp only[xec,xep,xeV] at hw
  rcases xd_.mp ht with ht | ht
  ·rcases hw with rfl | rfl
   ·exact bt.kept (g.kept u (by simp) t ht) (g.kept v (by simp) t ht)
   ·exact g.kept w (by simp) t ht
  ·have:t=r:=by simpa using ht
   subst this
   rcases hw with rfl | rfl
   ·rw[x0];exact xdj _
   ·exact xdi hv
 ·have he:(a,b)=(v,xm r u v)∨(a,b)=(xm r u v,v):=by simpa [cyc,chain,xj] using he
  rcases he with e | e<;>injection e with e1 e2<;>subst e1 e2
  ·exact⟨s,xea _ hs,sv,sx⟩
  ·exact⟨s,xea _ hs,sx,sv⟩
 ·simp only[xec,xep,xeV] at hw
  rcases hw with rfl | rfl
  ·exact⟨s,xea _ hs,r,by simp,sx,x0,unlike (dir s hs) bu bv su sv (xdq hu hv)⟩
  ·obtain⟨s,hs',t,ht,a⟩:=g.two w (by simp)
   exact⟨s,xea _ hs',t,xea _ ht,a⟩
 ·obtain⟨m,hm,c⟩:=g.all p hz fun s hs=>hp s (xea _ hs)
  obtain⟨a,b,a0,b0,e⟩:=c.pair
  have hr:val r (mul m p)≤0:=by rw[val_mul];exact pn (xdi hm) (hp r (by simp))
  rw[e,val_add,val_mul,val_mul] at hr
  have av:abs (val r v) = - val r v:=by unfold abs;rw[if_pos hv]
  have au:abs (val r u)=val r u:=by unfold abs;rw[if_neg (by omega)]
  refine⟨(- val r v)*m,pp (by omega) hm,?_⟩
  have e2:mul ((- val r v)*m) p=add (mul (a*(ud (cw r u v):Int)) (xm r u v)) (mul (b*(- val r v)-a*val r u) v):=by
   have e3:mul ((- val r v)*m) p=mul (- val r v) (mul m p):=by apply ext3<;>simp only[mul]<;>grind
   have e4:mul (a*(ud (cw r u v):Int)) (xm r u v)=mul a (mul (ud (cw r u v)) (xm r u v)):=by apply ext3<;>simp only[mul]<;>grind
   rw[e3,e,e4,bt.e,av,au]
   apply ext3<;>simp only[mul,add]<;>grind
  rw[e2]
  have k:0≤b*(- val r v)-a*val r u:=by
   have:b*(- val r v)-a*val r u = - (a*val r u+b*val r v):=by grind
   omega
  exact((Cn.mem (by simp)).smul (pz a0 (xdi bt.pg))).add ((Cn.mem (by simp)).smul k)
theorem Good.sw {Ls:List R3}{u v:R3}(g:Good Ls [u,v]):Good Ls [v,u]:=Good.rot (a:=[u]) (b:=[v]) g
theorem aG {Ls l:List R3}{r:R3}(g:Good Ls l)(dir:∀s∈Ls,s.1≠0∨s.2.1≠0):Good (Ls++[r]) (yk l r):=by
 match l,g with
 | [],g =>
  show Good (Ls++[r]) []
  exact qa g fun v hv=>by simp at hv
 | [v],g =>
  by_cases h:val r v≤0
  ·have hk:∀w∈[v],val r w≤0:=fun w hw=>by rw[xel.mp hw];exact h
   rw[fg (by rw[uH hk];simp),uH hk]
   exact qa g hk
  ·have hk:∀w∈[v],0<val r w:=fun w hw=>by rw[xel.mp hw];omega
   rw[fg (by rw[uX hk];simp),uX hk]
   exact w4 g (fun w hw=>xdi (hk w hw)) (List.nil_sublist _) (by simp) (fun w hw=>by simp at hw) fun w hw h0=>by have:=hk w hw;omega
 | [u,v],g =>
  have ne:u≠v:=by
   have:=g.ccw.nd
   simp at this
   exact this
  have cy:cyc [u,v]=[(v,u),(u,v)]:=rfl
  unfold yk
  rw[cy]
  simp only[xdL,List.foldl_nil]
  by_cases c:val r u*val r v<0
  ·have c':val r v*val r u<0:=by rw[Int.mul_comm];exact c
   have ex:xm r v u=xm r u v:=by unfold xm;rw[nI]
   have hu0:val r u≠0:=fun z=>by rw[z] at c;simp at c
   have hv0:val r v≠0:=fun z=>by rw[z] at c;simp at c
   by_cases hu:val r u≤0
   ·have hv:0<val r v:=by
     rcases xdk 0 (val r v) with z | z
     ·exact z
     ·have:=nn hu z;omega
    have e1:xX r [] (v,u)=[xm r v u,u]:=by
     unfold xX
     simp only[if_pos c',if_pos hu]
     simp
    have e2:xX r [xm r v u,u] (u,v)=[xm r v u,u]:=by
     unfold xX
     simp only[if_pos c,if_neg (show ¬val r v≤0 by omega)]
     rw[if_pos (by rw[←ex];simp)]
    rw[e1,e2]
    exact kA g.sw dir hv (by omega) rfl
   ·have hv:val r v<0:=by
     rcases xdk (val r v) 0 with z | z
     ·exact z
     ·have:=pz (by omega:0≤val r u) z;omega
    have e1:xX r [] (v,u)=[xm r v u]:=by
     unfold xX
     simp only[if_pos c',if_neg hu]
     simp
    have e2:xX r [xm r v u] (u,v)=[xm r v u,v]:=by
     unfold xX
     simp only[if_pos c,if_pos (show val r v≤0 by omega)]
     rw[if_pos (by rw[←ex];simp)];rfl
    rw[e1,e2]
    exact kA g dir (by omega) hv ex
  ·have c':¬val r v*val r u<0:=by rw[Int.mul_comm];exact c
   have e1:xX r [] (v,u)=if val r u≤0 then[u] else[]:=by
    unfold xX
    simp only[if_neg c']
    split<;>simp
   have e2:∀l,xX r l (u,v)=if val r v≤0 then l++[v] else l:=fun l=>by
    unfold xX
    simp only[if_neg c]
   rw[e1,e2]
   by_cases hu:val r u≤0
   ·rw[if_pos hu]
    by_cases hv:val r v≤0
    ·rw[if_pos hv]
     show Good (Ls++[r]) [u,v]
     exact qa g fun w hw=>by
      simp only[xec,xep,xeV] at hw
      rcases hw with rfl | rfl<;>assumption
    ·rw[if_neg hv]
     have hu0:val r u=0:=by
      rcases xdk (val r u) 0 with z | z
      ·have:=xdp z (show 0<val r v by omega);omega
      ·omega
     exact w4 g (fun w hw=>by
      simp only[xec,xep,xeV] at hw
      rcases hw with rfl | rfl<;>omega) (by simp) (by simp) (fun w hw=>by rw[xel.mp hw];exact hu0) fun w hw h0=>by
       simp only[xec,xep,xeV] at hw
       rcases hw with rfl | rfl
       ·simp
       ·omega
   ·rw[if_neg hu]
    by_cases hv:val r v≤0
    ·rw[if_pos hv]
     have hv0:val r v=0:=by
      rcases xdk (val r v) 0 with z | z
      ·have:=xdq (show 0<val r u by omega) z;omega
      ·omega
     exact w4 g (fun w hw=>by
      simp only[xec,xep,xeV] at hw
      rcases hw with rfl | rfl<;>omega) (by simp) (by simp) (fun w hw=>by
       have:w=v:=by simpa using hw
       rw[this];exact hv0) fun w hw h0=>by
       simp only[xec,xep,xeV] at hw
       rcases hw with rfl | rfl
       ·omega
       ·simp
    ·rw[if_neg hv]
     exact w4 g (fun w hw=>by
      simp only[xec,xep,xeV] at hw
      rcases hw with rfl | rfl<;>omega) (by simp) (by simp) (fun w hw=>by simp at hw) fun w hw h0=>by
       simp only[xec,xep,xeV] at hw
       rcases hw with rfl | rfl<;>omega
 | x::y::z::t,g =>
  obtain⟨a,b,P,Q,e1,e2,hP,hQ⟩:=g.ccw.parts r
  have e0:x::y::z::t=a++b:=e1
  rw[e0] at g ⊢
  have gr:Good Ls (b++a):=g.rot
  have mem:∀v,v∈a++b→v∈P++Q:=fun v hv=>by rw[←e2];simpa [or_comm] using hv
  have hlen:(P++Q).length=t.length+3:=by
   rw[←e2,xdU,Nat.add_comm,←xdU,←e0];simp
  cases P with
  | nil =>
   have hk:∀v∈a++b,val r v≤0:=fun v hv=>hQ v (by simpa using mem v hv)
   rw[fg (by rw[uH hk];exact g.ccw.nd),uH hk]
   exact qa g hk
  | cons p1 P =>
   cases Q with
   | nil =>
    have hk:∀v∈a++b,0<val r v:=fun v hv=>hP v (by simpa using mem v hv)
    rw[fg (by rw[uX hk];simp),uX hk]
    exact w4 g (fun w hw=>xdi (hk w hw)) (List.nil_sublist _) (by simp) (fun w hw=>by simp at hw) fun w hw h0=>by have:=hk w hw;omega
   | cons q1 Q =>
    have S:p0 Ls r p1 q1 P Q:=⟨by rw[←e2];exact gr,hP,hQ,by
     rcases Classical.em (P=[]) with h | h
     ·right
      intro h'
      subst h h'
      simp at hlen
     ·exact .inl h,dir⟩
    have gl:=S.good_left
    unfold p0.left at gl
    have g2:=Good.rot (a:=bef r (xj p1 P) q1++q1::Q) (b:=bef r p1 (xj q1 Q)) gl
    rw[←jX hP hQ,←e2] at g2
    obtain⟨c,d,f1,f2⟩:=rC r a b
    rw[f2] at g2
    have g3:=g2.rot
    rw[←f1] at g3
    rw[fg g3.ccw.nd]
    exact g3
end Pol
namespace Pol
def FAR:Int:=60001
def box:List R3:=[(-FAR,-FAR,1),(FAR,-FAR,1),(FAR,FAR,1),(-FAR,FAR,1)]
def nM:List R3:=[(-1,0,FAR),(1,0,FAR),(0,-1,FAR),(0,1,FAR)]
theorem xcQ {a b c d u v w:R3}(s:List.Sublist [u,v,w] [a,b,c,d]):(u=a∧v=b∧w=c)∨(u=a∧v=b∧w=d)∨(u=a∧v=c∧w=d)∨(u=b∧v=c∧w=d):=by
 have full:∀ {x y z u v w:R3},List.Sublist [u,v,w] [x,y,z]→u=x∧v=y∧w=z:=fun {x y z u v w} s=>by
  have:=s.eq_of_length (by simp)
  injection this with h1 h2
  injection h2 with h2 h3
  injection h3 with h3 _
  exact⟨h1,h2,h3⟩
 cases s with
 | cons _ s=>exact .inr (.inr (.inr (full s)))
 | cons_cons _ s =>
  have two:∀ {x y z v w:R3},List.Sublist [v,w] [x,y,z]→(v=x∧w=y)∨(v=x∧w=z)∨(v=y∧w=z):=fun {x y z v w} s=>by
   cases s with
   | cons _ s =>
    have:=s.eq_of_length (by simp)
    injection this with h1 h2
    injection h2 with h2 _
    exact .inr (.inr ⟨h1,h2⟩)
   | cons_cons _ s =>
    have:w∈[y,z]:=xes.mp s
    simp only[xec,xep,xeV] at this
    rcases this with rfl | rfl
    ·exact .inl ⟨rfl,rfl⟩
    ·exact .inr (.inl ⟨rfl,rfl⟩)
  rcases two s with ⟨h1,h2⟩ | ⟨h1,h2⟩ | ⟨h1,h2⟩
  ·exact .inl ⟨rfl,h1,h2⟩
  ·exact .inr (.inl ⟨rfl,h1,h2⟩)
  ·exact .inr (.inr (.inl ⟨rfl,h1,h2⟩))
theorem tR:Ccw box:=by
 refine⟨fun u v w s=>?_,by decide⟩
 rcases xcQ s with ⟨rfl,rfl,rfl⟩ | ⟨rfl,rfl,rfl⟩ | ⟨rfl,rfl,rfl⟩ | ⟨rfl,rfl,rfl⟩<;>decide
theorem aF:Good nM box:=by
 refine⟨tR,by decide,by decide,by decide,fun u v h _=>?_,by decide,fun p hz hp=>?_⟩
 ·have h:(u,v)∈[((-FAR,FAR,1),(-FAR,-FAR,1)),((-FAR,-FAR,1),(FAR,-FAR,1)),((FAR,-FAR,1),(FAR,FAR,1)),((FAR,FAR,1),(-FAR,FAR,1))]:=h
  simp only[xec,xep,xeV] at h
  rcases h with h | h | h | h<;>injection h with h1 h2<;>subst h1 h2
  ·exact⟨(-1,0,FAR),by decide,by decide,by decide⟩
  ·exact⟨(0,-1,FAR),by decide,by decide,by decide⟩
  ·exact⟨(1,0,FAR),by decide,by decide,by decide⟩
  ·exact⟨(0,1,FAR),by decide,by decide,by decide⟩
 ·have h1:=hp (-1,0,FAR) (by decide)
  have h2:=hp (1,0,FAR) (by decide)
  have h3:=hp (0,-1,FAR) (by decide)
  have h4:=hp (0,1,FAR) (by decide)
  simp only[val,FAR] at h1 h2 h3 h4
  refine tR.incone (by decide) fun u v h=>?_
  have h:(u,v)∈[((-FAR,FAR,1),(-FAR,-FAR,1)),((-FAR,-FAR,1),(FAR,-FAR,1)),((FAR,-FAR,1),(FAR,FAR,1)),((FAR,FAR,1),(-FAR,FAR,1))]:=h
  simp only[xec,xep,xeV] at h
  rcases h with h | h | h | h<;>injection h with h5 h6<;>subst h5 h6<;>simp only[det,FAR]<;>omega
def pieces (rows:List R3):List R3:=rows.foldl yk box
theorem fV:∀(rows Ls l:List R3),Good Ls l→(∀s∈Ls,s.1≠0∨s.2.1≠0)→(∀s∈rows,s.1≠0∨s.2.1≠0)→Good (Ls++rows) (rows.foldl yk l)
 | [],Ls,l,g,_,_=>by simpa using g
 | r::rows,Ls,l,g,d1,d2=>by
  rw[xdL]
  have:=fV rows (Ls++[r]) (yk l r) (aG g d1) (fun s hs=>by
   rcases xd_.mp hs with h | h
   ·exact d1 s h
   ·rw[xel.mp h];exact d2 r xee) (fun s hs=>d2 s (xed _ hs))
  rwa [xdy] at this
theorem jx {rows:List R3}(d:∀s∈rows,s.1≠0∨s.2.1≠0):Good (nM++rows) (pieces rows):=fV rows nM box aF (by decide) d
def GR (rows:List R3):Prop:=∀u v:Int,(u≠0∨v≠0)→∃r∈rows,0<r.1*u+r.2.1*v
def fZ (r:R3):Prop:=((-30≤r.1∧r.1≤30)∧(-30≤r.2.1∧r.2.1≤30))∧(-1000≤r.2.2∧r.2.2≤1000)
structure IsC (rows:List R3)(p:R3):Prop where
 kept:∀r∈rows,val r p≤0
 two:∃s∈rows,∃t∈rows,val s p=0∧val t p=0∧turn s t≠0
section
variable {rows more:List R3}
structure xbZ (rows more:List R3):Prop where
 box:∀ {p:R3},0<p.2.2→(∀r∈more,val r p≤0)→∀s∈nM,val s p<0
 fr:∀r∈rows,fZ r
 sub:∀r∈rows,r∈more
 dir:∀r∈more,r.1≠0∨r.2.1≠0
theorem xbZ.corner (F:xbZ rows more){v:R3}(hv:v∈pieces more):0<v.2.2∧ud v=1∧IsC more v:=by
 have g:=jx F.dir
 have hz:=g.bot v hv
 have hk:∀r∈more,val r v≤0:=fun r hr=>g.kept v hv r (xeb _ hr)
 have nb:=F.box hz hk
 obtain⟨s,hs,t,ht,a,b,c⟩:=g.two v hv
 have in':∀x∈nM++more,val x v=0→x∈more:=fun x hx h0=>by
  rcases xd_.mp hx with h | h
  ·have:=nb x h;omega
  ·exact h
 exact⟨hz,g.prim v hv,hk,s,in' s hs a,t,in' t ht b,a,b,c⟩
end
end Pol
namespace Pol
def dot (r s:R3):Int:=r.1*s.1+r.2.1*s.2.1
def mY (sg:Int)(last:Option R3)(x:R3):Bool:=match last with | none=>true | some l=>decide (0<sg*turn l x)
def zp (r:R3)(sg:Int)(last:Option R3)(x:R3):Option R3 :=
 if 0<sg*turn r x∧mY sg last x=true then some x else last
def far (r:R3)(sg:Int)(rs:List R3):Option R3:=rs.foldl (zp r sg) none
def back (r:R3)(rs:List R3):Bool:=rs.any fun x=>decide (turn r x=0)&&decide (dot r x<0)
def wX:List R3→Bool
 | []=>false
 | r::rs=>match far r 1 (r::rs),far r (-1) (r::rs) with
  | some l,some k=>decide (0<turn l k) || back r (r::rs)
  | _,_=>false
theorem xam {a b:Int}(h:0<a)(k:a*b≤0):b≤0:=by
 rcases xdk 0 b with z | z
 ·have:=pp h z;omega
 ·exact z
theorem plk (r l k z:R3):turn r l*turn k z-turn r k*turn l z+turn r z*turn l k=0:=by
 obtain⟨a,b,_⟩:=r;obtain⟨c,d,_⟩:=l;obtain⟨e,f,_⟩:=k;obtain⟨g,h,_⟩:=z
 simp only[turn];grind
theorem xc8 (r l:R3):turn l r = - turn r l:=by
 obtain⟨a,b,_⟩:=r;obtain⟨c,d,_⟩:=l
 simp only[turn];grind
theorem proj (r x z:R3):dot r r*turn x z=dot r x*turn r z-turn r x*dot r z:=by
 obtain⟨a,b,_⟩:=r;obtain⟨c,d,_⟩:=x;obtain⟨g,h,_⟩:=z
 simp only[turn,dot];grind
theorem sq {a:Int}(h:a≠0):0<a*a:=by
 rcases xdk 0 a with z | z
 ·exact pp z z
 ·have:0<(-a)*(-a):=pp (by omega) (by omega)
  rwa [Int.neg_mul_neg] at this
theorem sq0 (a:Int):0≤a*a:=by
 rcases xdk 0 a with z | z
 ·exact pz (by omega) (by omega)
 ·exact nn z z
theorem xa1 {r:R3}(h:r.1≠0∨r.2.1≠0):0<dot r r:=by
 unfold dot
 have h1:=sq0 r.1
 have h2:=sq0 r.2.1
 rcases h with h | h
 ·have:=sq h;omega
 ·have:=sq h;omega
structure rZ (r:R3)(s:Int)(rs:List R3)(l:R3):Prop where
 mem:l∈rs
 left:0<s*turn r l
 all:∀x∈rs,0<s*turn r x→s*turn l x≤0
theorem xcR (s:Int)(r l k z:R3):(s*turn r l)*(s*turn k z)=(s*turn r k)*(s*turn l z)-(s*turn r z)*(s*turn l k):=by
 have:=plk r l k z
 grind
def xce (r:R3)(s:Int)(done:List R3):Option R3→Prop
 | none=>∀x∈done,s*turn r x≤0
 | some l=>rZ r s done l
theorem tT {r:R3}{s:Int}:∀(rs done:List R3) (o:Option R3),xce r s done o→xce r s (done++rs) (rs.foldl (zp r s) o)
 | [],done,o,h=>by simpa using h
 | y::rs,done,o,h=>by
  rw[xdL]
  have ih:=tT (r:=r) (s:=s) rs (done++[y]) (zp r s o y) (by
   unfold zp
   by_cases c:0<s*turn r y∧mY s o y=true
   ·rw[if_pos c]
    obtain⟨c1,c2⟩:=c
    refine⟨by simp,c1,fun x hx hp=>?_⟩
    rcases xd_.mp hx with hx | hx
    ·cases o with
     | none=>exact absurd (show s*turn r x≤0 from h x hx) (by omega)
     | some l =>
      have h:rZ r s done l:=h
      have c2:0<s*turn l y:=xeU c2
      have hl:s*turn l x≤0:=h.all x hx hp
      have e:=xcR s r l y x
      have p1:=pn (xdi c1) hl
      have p2:=pp hp c2
      exact xam h.left (by rw[e];omega)
    ·have:x=y:=by simpa using hx
     subst this
     have:turn x x=0:=by unfold turn;grind
     rw[this];simp
   ·rw[if_neg c]
    cases o with
    | none =>
     intro x hx
     rcases xd_.mp hx with hx | hx
     ·exact h x hx
     ·have:x=y:=by simpa using hx
      subst this
      have c':¬0<s*turn r x:=fun z=>c ⟨z,rfl⟩
      omega
    | some l =>
     have h:rZ r s done l:=h
     refine⟨xea _ h.mem,h.left,fun x hx hp=>?_⟩
     rcases xd_.mp hx with hx | hx
     ·exact h.all x hx hp
     ·have:x=y:=by simpa using hx
      subst this
      have c':¬0<s*turn l x:=fun z=>c ⟨hp,xeQ z⟩
      omega)
  rwa [xdy] at ih
theorem rH {r:R3}{s:Int}{rs:List R3}(h:far r s rs=none):∀x∈rs,s*turn r x≤0:=by
 have:=tT (r:=r) (s:=s) rs [] none (fun x hx=>by simp at hx)
 unfold far at h
 rw[h] at this
 intro x hx
 exact this x (by simpa using hx)
theorem kT {r l:R3}{s:Int}{rs:List R3}(h:far r s rs=some l):rZ r s rs l:=by
 have:=tT (r:=r) (s:=s) rs [] none (fun x hx=>by simp at hx)
 unfold far at h
 rw[h,xem] at this
 exact this
theorem bZ {r l k:R3}{rs:List R3}(r0:∀x∈rs,x.1≠0∨x.2.1≠0)(hr:r∈rs)(hl:rZ r 1 rs l)(hk:rZ r (-1) rs k)(h:¬0<turn l k)(hb:back r rs=false):∀x∈rs,turn l x≤0:=by
 intro x hx
 have l1:0<turn r l:=by have:=hl.left;omega
 have k1:turn r k<0:=by have:=hk.left;omega
 rcases xdl (turn r x) 0 with c | c | c
 ·have kx:0≤turn k x:=by have:=hk.all x hx (by omega);omega
  have e:=plk r l k x
  have p1:=pz (xdi l1) kx
  have p2:=nn (xdi c) (by omega:turn l k≤0)
  have p3:0≤turn r k*turn l x:=by omega
  rcases xdk 0 (turn l x) with z | z
  ·have p4:turn r k*turn l x<0:=xdp k1 z
   omega
  ·exact z
 ·have q:=proj r x l
  rw[c] at q
  simp only[Int.zero_mul,Int.sub_zero] at q
  have d0:0≤dot r x:=by
   rcases xdk (dot r x) 0 with z | z
   ·exfalso
    have:back r rs=true:=by
     unfold back
     rw[List.any_eq_true]
     exact⟨x,hx,by rw[xeQ c,xeQ z];rfl⟩
    rw[this] at hb;cases hb
   ·exact z
  have q1:=pz d0 (xdi l1)
  have q2:=xa1 (r0 r hr)
  have a:=xc8 x l
  rw[a]
  have:0≤turn x l:=by
   rcases xdk (turn x l) 0 with z | z
   ·have:=xdq q2 z
    omega
   ·exact z
  omega
 ·have:=hl.all x hx (by omega)
  omega
def RA (rs:List R3):Prop:=∀z∈rs,∀s:Int,(s=1∨s = -1)→∃x∈rs,0<s*turn z x
theorem xbp {rs:List R3}(r0:∀x∈rs,x.1≠0∨x.2.1≠0)(h:GR rs):RA rs:=fun z hz s hs=>by
 have key:∀x:R3,x.1*(s * -z.2.1)+x.2.1*(s*z.1)=s*turn z x:=fun x=>by unfold turn;grind
 obtain⟨x,hx,p⟩:=h (s * -z.2.1) (s*z.1) (by have:=r0 z hz;rcases hs with e | e<;>subst e<;>omega)
 exact⟨x,hx,by rw[key x] at p;exact p⟩
theorem cZ {rs:List R3}(r0:∀x∈rs,x.1≠0∨x.2.1≠0)(ne:rs≠[])(h:RA rs):wX rs=true:=by
 have no:∀z:R3,z∈rs→∀s:Int,(s=1∨s = -1)→(∀x∈rs,s*turn z x≤0)→False:=fun z hz s hs hx=>by
  obtain⟨x,hxm,p⟩:=h z hz s hs
  have:=hx x hxm
  omega
 cases rs with
 | nil=>exact absurd rfl ne
 | cons r t =>
  have hr:r∈r::t:=xee
  have e:wX (r::t)=match far r 1 (r::t),far r (-1) (r::t) with
   | some l,some k=>decide (0<turn l k) || back r (r::t)
   | _,_=>false:=rfl
  rw[e]
  cases e1:far r 1 (r::t) with
  | none=>exact(no r hr 1 (.inl rfl) (rH e1)).elim
  | some l =>
   cases e2:far r (-1) (r::t) with
   | none=>exact(no r hr (-1) (.inr rfl) (rH e2)).elim
   | some k =>
    show(decide (0<turn l k) || back r (r::t))=true
    have hl:=kT e1
    have hk:=kT e2
    rcases Classical.em ((decide (0<turn l k) || back r (r::t))=true) with q | q
    ·exact q
    ·exfalso
     simp only[Bool.or_eq_true,xeR,not_or,Bool.not_eq_true] at q
     exact no l hl.mem 1 (.inl rfl) (fun x hx=>by have:=bZ r0 hr hl hk q.1 q.2 x hx;omega)
theorem xbH {rs:List R3}(h:GR rs):rs≠[]:=fun e=>by
 obtain⟨r,hr,_⟩:=h 1 0 (.inl (by decide))
 rw[e] at hr;simp at hr
end Pol
namespace Pol
theorem rE (r:R3)(acc:List R3)(p:R3×R3):(xX r acc p).length≤acc.length+(seg r p).length:=by
 unfold xX seg
 by_cases c:val r p.1*val r p.2<0
 ·by_cases m:xm r p.1 p.2∈acc
  ·simp only[if_pos c,if_pos m]
   split<;>simp<;>omega
  ·simp only[if_pos c,if_neg m]
   split<;>simp<;>omega
 ·simp only[if_neg c]
  split<;>simp
theorem aH (r:R3):∀(ps:List (R3×R3)) (acc:List R3),(ps.foldl (xX r) acc).length≤acc.length+(ps.flatMap (seg r)).length
 | [],acc=>by simp
 | p::ps,acc=>by
  rw[xdL,xdJ,xdU]
  have:=aH r ps (xX r acc p)
  have:=rE r acc p
  omega
theorem nz (r p q:R3):(bef r p q).length≤1:=by unfold bef;split<;>simp
theorem bW {l:List R3}(h:Ccw l)(r:R3):(ao r l).length≤l.length+2:=by
 obtain⟨a,b,P,Q,e1,e2,hP,hQ⟩:=h.parts r
 obtain⟨c,d,f1,f2⟩:=rC r a b
 have el:(ao r l).length=(ao r (P++Q)).length:=by
  rw[e1,f1,←e2,f2,xdU,xdU];omega
 have ll:l.length=(P++Q).length:=by rw[e1,←e2,xdU,xdU];omega
 rw[el,ll]
 cases P with
 | nil =>
  rw[xem,uH hQ];omega
 | cons p P =>
  cases Q with
  | nil=>rw[xdz,uX hP];simp
  | cons q Q =>
   rw[jX hP hQ]
   simp only[xdU,xdV]
   have:=nz r p (xj q Q)
   have:=nz r (xj p P) q
   omega
theorem oS {l:List R3}(h:Ccw l)(r:R3):(yk l r).length≤l.length+2:=by
 have:=aH r (cyc l) []
 have:=bW h r
 unfold yk ao at *
 simp at *
 omega
theorem kh:∀(rows Ls l:List R3),Good Ls l→(∀s∈Ls,s.1≠0∨s.2.1≠0)→(∀s∈rows,s.1≠0∨s.2.1≠0)→(rows.foldl yk l).length≤l.length+2*rows.length
 | [],Ls,l,_,_,_=>by simp
 | r::rows,Ls,l,g,d,d'=>by
  rw[xdL]
  have h1:=oS g.ccw r
  have dr:=d' r xee
  have h2:=kh rows (Ls++[r]) (yk l r) (aG g d) (fun s hs=>by
   rcases xd_.mp hs with h | h
   ·exact d s h
   ·rw[xel.mp h];exact dr) (fun s hs=>d' s (xed _ hs))
  rw[xdV];omega
theorem rP {rows:List R3}(d:∀s∈rows,s.1≠0∨s.2.1≠0):(pieces rows).length≤4+2*rows.length:=kh rows nM box aF (by decide) d
theorem fL (p:R3):∀l:List R3,(chain p l).length=l.length
 | []=>rfl
 | x::l=>by show(chain x l).length+1=_;rw[fL x l];rfl
theorem lu:∀l:List R3,(cyc l).length=l.length
 | []=>rfl
 | x::l=>fL _ _
theorem ax (p:R3):∀(l:List R3) (i:Nat) (v:R3),l[i]? = some v→∃u,(p::l)[i]? = some u∧(chain p l)[i]? = some (u,v)
 | [],i,v,h=>by simp at h
 | x::l,0,v,h=>by simp at h;subst h;exact⟨p,rfl,rfl⟩
 | x::l,i+1,v,h=>by
  have h':l[i]? = some v:=by simpa using h
  obtain⟨u,e1,e2⟩:=ax x l i v h'
  exact⟨u,by simpa using e1,by show(chain x l)[i]? = _;exact e2⟩
theorem xaX {l:List R3}{i:Nat}{v:R3}(h:l[i]? = some v):∃u,u∈l∧(cyc l)[i]? = some (u,v)∧((i=0∧∃ys,l=ys++[u])∨(0<i∧l[i-1]? = some u)):=by
 cases l with
 | nil=>simp at h
 | cons x l =>
  obtain⟨u,e1,e2⟩:=ax (xj x l) (x::l) i v h
  cases i with
  | zero =>
   have:xj x l=u:=by simpa using e1
   subst this
   obtain⟨ys,e⟩:=jm x l
   exact⟨_,yd x l,e2,.inl ⟨rfl,ys,e⟩⟩
  | succ i =>
   have e1:(x::l)[i]? = some u:=by simpa using e1
   exact⟨u,xei e1,e2,.inr ⟨by omega,by simpa using e1⟩⟩
theorem vy {α β:Type}(f:β→α→β)(b:β){l:List α}{i:Nat}{x:α}(h:l[i]? = some x):(l.take (i+1)).foldl f b=f ((l.take i).foldl f b) x:=by
 have hi:=(xdQ.mp h).1
 rw[xex,h,xdK];rfl
end Pol
namespace Pol
end Pol
namespace L2
open PySem PySem.Spec PyProof.Rows
def Bk (k:Nat)(i:Int):Prop:=i.natAbs<2 ^ k
theorem Bk.mono {k m:Nat}{i:Int}(h:Bk k i)(hk:k≤m):Bk m i:=xeF h (Nat.pow_le_pow_right (by decide) hk)
theorem Bk.mul {k m:Nat}{i j:Int}(h:Bk k i)(h':Bk m j):Bk (k+m) (i*j):=by
 unfold Bk at *
 rw[xds,Nat.pow_add]
 exact Nat.mul_lt_mul'' h h'
theorem Bk.add {k:Nat}{i j:Int}(h:Bk k i)(h':Bk k j):Bk (k+1) (i+j):=by
 unfold Bk at *
 rw[Nat.pow_succ]
 have:=Int.natAbs_add_le i j
 omega
theorem Bk.neg {k:Nat}{i:Int}(h:Bk k i):Bk k (-i):=by unfold Bk at *;rw[Int.natAbs_neg];exact h
theorem Bk.sub {k:Nat}{i j:Int}(h:Bk k i)(h':Bk k j):Bk (k+1) (i-j):=by rw[Int.sub_eq_add_neg];exact h.add h'.neg
theorem Bk.bd {k:Nat}{i:Int}(h:Bk k i)(hk:k≤2000:=by decide):Bd i:=h.mono hk
theorem Bk.abs {k:Nat}{i:Int}(h:Bk k i):Bk k (if i<0 then -i else i):=by split;exact h.neg;exact h
theorem Bk.le {k:Nat}{i j:Int}(h:Bk k i)(hl:j.natAbs≤i.natAbs):Bk k j:=xeE hl h
def B3k (k:Nat)(r:Pol.R3):Prop:=(Bk k r.1∧Bk k r.2.1)∧Bk k r.2.2
theorem B3k.mono {k m:Nat}{r:Pol.R3}(h:B3k k r)(hk:k≤m):B3k m r:=⟨⟨h.1.1.mono hk,h.1.2.mono hk⟩,h.2.mono hk⟩
def B3 (r:Pol.R3):Prop:=(Bd r.1∧Bd r.2.1)∧Bd r.2.2
theorem B3k.b3 {k:Nat}{r:Pol.R3}(h:B3k k r)(hk:k≤2000:=by decide):B3 r:=h.mono hk
theorem B3k.val {k m:Nat}{r p:Pol.R3}(h:B3k k r)(h':B3k m p):Bk (k+m+2) (Pol.val r p) :=
 ((h.1.1.mul h'.1.1).add (h.1.2.mul h'.1.2)).sub ((h.2.mul h'.2).mono (xeB _))
def lJ:Tr→Bool
 | .int _=>true
 | _=>false
def frT (n d:Int):Tr:=.tup [.int n,.int d]
def rF (t b:Int):Int:=t / (Int.gcd t b:Int)
def fX (t b:Int):Int:=b / (Int.gcd t b:Int)
def trR (r:Pol.R3):Tr:=.tup [.int r.1,.int r.2.1,.int r.2.2]
def xbv (v:Pol.R3):Tr:=.tup [frT (rF v.1 v.2.2) (fX v.1 v.2.2),frT (rF v.2.1 v.2.2) (fX v.2.1 v.2.2)]
theorem mz (p:Pol.R3):pln (trR p)=true:=rfl
theorem bz (p q:Pol.R3):teq (trR p) (trR q)=decide (p=q):=by
 have e:teq (trR p) (trR q)=(decide (p.1=q.1)&&(decide (p.2.1=q.2.1)&&(decide (p.2.2=q.2.2)&&true))):=rfl
 rw[e]
 by_cases h:p=q
 ·subst h;simp
 ·rw[xeP h]
  by_cases h1:p.1=q.1
  ·by_cases h2:p.2.1=q.2.1
   ·by_cases h3:p.2.2=q.2.2
    ·exact absurd (Pol.ext3 h1 h2 h3) h
    ·simp[h3]
   ·simp[h2]
  ·simp[h1]
theorem vk {α:Type}(f:α→Tr)(h:∀x,pln (f x)=true):∀l:List α,PyData.canLayAll0 (w_ (l.map f))=true
 | []=>rfl
 | x::l=>by
  show((kj (f x)).canLay0&&PyData.canLayAll0 (w_ (l.map f)))=true
  rw[vk f h l,show(kj (f x)).canLay0=true from h x];rfl
theorem nX (l:List Pol.R3)(c:Pol.R3):((l.map trR).any fun u=>teq u (trR c))=decide (c∈l):=by
 rw[Bool.eq_iff_iff,List.any_eq_true,xeR]
 constructor
 ·rintro⟨u,hu,h⟩
  obtain⟨x,hx,rfl⟩:=xeg.mp hu
  rw[bz,xeR] at h
  subst h;exact hx
 ·intro h
  exact⟨trR c,xeh h,by rw[bz];simp⟩
theorem cQ {x y:Int}(hx:0≤x)(hy:0≤y):Int.gcd y (x % y)=Int.gcd x y:=by
 obtain⟨n,rfl⟩:=Int.eq_ofNat_of_zero_le hy
 obtain⟨m,rfl⟩:=Int.eq_ofNat_of_zero_le hx
 show Nat.gcd n (((m % n:Nat):Int)).natAbs=Nat.gcd m n
 rw[Int.natAbs_natCast,Nat.gcd_comm m n,Nat.gcd_rec n m,Nat.gcd_comm]
theorem nS {t b:Int}(hb:b≠0)(h:Bd b):Bd (Int.gcd t b:Int):=by
 unfold Bd
 refine xeE ?_ h
 have:=Int.gcd_le_natAbs_right (a:=t) hb
 omega
def pV:TSp:=fun ts KK=>∃t,ts=[t]∧KK (.bl (lJ t))
def fH:TSp:=fun ts KK=>∃t,ts=[t]∧∃us,(t=.tup us∨t=.lst us)∧us.length<sizeLine∧KK (.bl (us.all lJ))
def xaz:TSp:=fun ts KK=>∃a b:Int,ts=[.int a,.int b]∧KK (.int (Int.gcd a b))
def xcH:TSp:=fun ts KK=>∃t b:Int,ts=[.int t,.int b]∧b≠0∧Bd b∧KK (frT (rF t b) (fX t b))
def sM:TSp:=fun ts KK=>∃r p:Pol.R3,ts=[trR r,trR p]∧B3 r∧B3 p∧KK (.int (Pol.val r p))
def aw:TSp:=fun ts KK=>∃r u v:Pol.R3,ts=[trR r,trR u,trR v]∧(B3k 100 r∧B3k 800 u∧B3k 800 v)∧(0<u.2.2∧0<v.2.2)∧Pol.val r u*Pol.val r v<0∧KK (trR (Pol.xm r u v))
def ahead (p q:Pol.R3):Bool:=decide (p.1*q.2.2<q.1*p.2.2∨p.1*q.2.2=q.1*p.2.2∧p.2.1*q.2.2<q.2.1*p.2.2)
def p9:TSp:=fun ts KK=>∃p q:Pol.R3,ts=[trR p,trR q]∧B3 p∧B3 q∧KK (.bl (ahead p q))
def k9:TSp:=fun ts KK=>∃(l:List Pol.R3) (r:Pol.R3),ts=[.lst (l.map trR),trR r]∧B3k 100 r∧(∀v∈l,B3k 800 v∧0<v.2.2)∧l.length≤100000∧KK (.lst ((Pol.yk l r).map trR))
def yO (l:List Pol.R3)(s i:Nat):Nat:=if ahead (l.getD i (0,0,0)) (l.getD s (0,0,0))=true then i else s
def qG (l:List Pol.R3):Nat:=(List.range l.length).foldl (yO l) 0
def yD (l:List Pol.R3):List Pol.R3:=l.drop (qG l)++l.take (qG l)
def j1:TSp:=fun ts KK=>∃l:List Pol.R3,ts=[.lst (l.map trR)]∧(∀v∈l,B3 v)∧l.length≤100000∧KK (.lst ((yD l).map trR))
structure vI (rows:List Pol.R3):Prop where
 dir:∀r∈rows,r.1≠0∨r.2.1≠0
 sm:∀r∈rows,B3k 100 r
 len:rows.length≤10000
def rq:TSp:=fun ts KK=>∃(t:Tr) (r0 rows:List Pol.R3),ts=[.lst ((Pol.pieces r0).map trR),t]∧(t=.tup (rows.map trR)∨t=.lst (rows.map trR))∧vI (r0++rows)∧KK (.lst ((Pol.pieces (r0++rows)).map trR))
def j_:TSp:=fun ts KK=>∃(t:Tr) (rows:List Pol.R3),ts=[t]∧(t=.tup (rows.map trR)∨t=.lst (rows.map trR))∧vI rows∧KK (.lst ((Pol.pieces rows).map trR))
def ff:TSp:=fun ts KK=>∃l:List Pol.R3,ts=[.lst (l.map trR)]∧(∀v∈l,B3k 800 v∧0<v.2.2)∧l.length≤100000∧KK (.lst ((yD l).map xbv))
def kl:TSp:=fun ts KK=>∃(t:Tr) (rows:List Pol.R3),ts=[t]∧(t=.tup (rows.map trR)∨t=.lst (rows.map trR))∧vI rows∧KK (.lst ((yD (Pol.pieces rows)).map xbv))
def kE:Tr→Option Pol.R3
 | .tup [.int a,.int b,.int c]=>some (a,b,c)
 | _=>none
def fY (t:Tr):Bool:=match kE t with | some r=>decide (r.1≠0∨r.2.1≠0) | none=>false
def pW:TSp:=fun ts KK=>∃t,ts=[t]∧KK (.bl (fY t))
def cz:TSp:=fun ts KK=>∃(a b c d:Int) (x y:List Tr),ts=[.tup (.int a::.int b::x),.tup (.int c::.int d::y)]∧((Bd a∧Bd b)∧Bd c∧Bd d)∧KK (.int (a*d-b*c))
def xbj:Option Pol.R3→Tr
 | some r=>trR r
 | none=>.non
def du:TSp:=fun ts KK=>∃(r:Pol.R3) (rows:List Pol.R3) (s:Int),ts=[trR r,.tup (rows.map trR),.int s]∧(s=1∨s = -1)∧B3k 900 r∧(∀x∈rows,B3k 900 x)∧KK (xbj (Pol.far r s rows))
def l7:TSp:=fun ts KK=>∃(r:Pol.R3) (rows:List Pol.R3),ts=[trR r,.tup (rows.map trR)]∧B3k 900 r∧(∀x∈rows,B3k 900 x)∧KK (.bl (Pol.back r rows))
def aP:TSp:=fun ts KK=>∃rows:List Pol.R3,ts=[.tup (rows.map trR)]∧(∀x∈rows,B3k 900 x)∧KK (.bl (Pol.wX rows))
instance (r:Pol.R3):Decidable (Pol.fZ r):=by unfold Pol.fZ;infer_instance
def yG (t:Tr):Bool:=match kE t with | some r=>decide ((r.1≠0∨r.2.1≠0)∧Pol.fZ r) | none=>false
def jv:TSp:=fun ts KK=>∃t,ts=[t]∧KK (.bl (yG t))
def nearF (n d:Int):Bool:=decide (-(12*d)≤n∧n≤12*d)
def nN:TSp:=fun ts KK=>∃fs:List (Int×Int),ts=[.tup (fs.map fun f=>frT f.1 f.2)]∧fs.length≤1000∧(∀f∈fs,Bd f.2)∧KK (.bl (fs.all fun f=>nearF f.1 f.2))
def gU (v:Pol.R3):Bool:=nearF (rF v.1 v.2.2) (fX v.1 v.2.2)&&nearF (rF v.2.1 v.2.2) (fX v.2.1 v.2.2)
def rowsOf:List Tr→Option (List Pol.R3)
 | []=>some []
 | t::ts=>match kE t,rowsOf ts with | some r,some rs=>some (r::rs) | _,_=>none
def xw (rows:List Pol.R3):Bool:=decide (3≤rows.length∧rows.length≤8)&&(rows.all fun r=>decide ((r.1≠0∨r.2.1≠0)∧Pol.fZ r))&&Pol.wX rows&&(Pol.pieces rows).all gU
def isField:Tr→Bool
 | .tup us=>match rowsOf us with | some rows=>xw rows | none=>false
 | _=>false
def rn:TSp:=fun ts KK=>∃t,ts=[t]∧KK (.bl (isField t))
end L2
namespace L2
open PySem PySem.Spec PyProof.Rows
theorem cH {α:Type}(ts:List α)(s:Nat):jK ts (some (s:Int)) none=ts.drop s:=by
 unfold jK
 rw[HT.nq,HT.gY]
 by_cases h:s≤ts.length
 ·rw[Nat.min_eq_left h,xew (by rw[xdW];omega)]
 ·rw[Nat.min_eq_right (by omega),List.drop_eq_nil_of_le (xeA _),List.drop_eq_nil_of_le (by omega)];simp
theorem l_ {α:Type}(ts:List α)(s:Nat):jK ts none (some (s:Int))=ts.take s:=by
 unfold jK
 rw[HT.nq,HT.gY,xdD,xeK]
 by_cases h:s≤ts.length
 ·rw[Nat.min_eq_left h]
 ·rw[Nat.min_eq_right (by omega),xew (xeA _),xew (by omega)]
theorem aY {α:Type}{f:α→Tr}{l:List α}{i:Nat}{x:Tr}(h:(vQ (l.map f))[i]? = some x):∃v,l[i]? = some v∧x=.tup [.int i,f v]:=by
 have hi:i<l.length:=by
  have:=(xdQ.mp h).1
  unfold vQ at this
  rw[wg,xdZ] at this
  exact this
 have e:(l.map f)[i]? = some (f l[i]):=by rw[xdR,xdO hi];rfl
 unfold vQ at h
 rw[qt e] at h
 refine⟨l[i],xdO hi,?_⟩
 have:=xeN h
 rw[←this];simp
theorem ar {α:Type}(f:α→Tr)(l:List α):(vQ (l.map f)).length=l.length:=by unfold vQ;rw[wg,xdZ]
theorem rK {l:List Pol.R3}{i:Nat}{v:Pol.R3}(h:l[i]? = some v):∃u,u∈l∧(Pol.cyc l)[i]? = some (u,v)∧atT (l.map trR) ((i:Int)-1)=some (trR u):=by
 obtain⟨u,hu,hc,hw⟩:=Pol.xaX h
 refine⟨u,hu,hc,?_⟩
 rcases hw with ⟨rfl,ys,e⟩ | ⟨h0,e⟩
 ·rw[e,xd6]
  exact g6 (ys.map trR) (trR u)
 ·rw[show((i:Int)-1)=((i-1:Nat):Int) by omega,mW,xdR,e];rfl
theorem tG {Ls l:List Pol.R3}(g:Pol.Good Ls l){k:Nat}(hs:∀s∈Ls,B3k k s):∀v∈l,B3k (2*k+1) v:=fun v hv=>by
 obtain⟨s,hs1,t,ht1,e1,e2,hn⟩:=g.two v hv
 have z:=g.bot v hv
 obtain⟨b1,b2,b3⟩:=Pol.dJ (g.prim v hv) z e1 e2 hn
 have S:=hs s hs1
 have T:=hs t ht1
 have m:∀ {x y z w:Int},Bk k x→Bk k y→Bk k z→Bk k w→Bk (2*k+1) (x*y-z*w):=fun h1 h2 h3 h4=>((h1.mul h2).sub (h3.mul h4)).mono (by omega)
 refine⟨⟨(m S.2 T.1.2 T.2 S.1.2).le b2,(m T.2 S.1.1 S.2 T.1.1).le b3⟩,?_⟩
 have:=m S.1.1 T.1.2 S.1.2 T.1.1
 refine this.le ?_
 unfold Pol.turn at b1
 omega
theorem tV:∀s∈Pol.nM,B3k 100 s:=fun s hs=>by
 have h:s∈Pol.nM:=hs
 simp only[Pol.nM,xec,xep,xeV] at h
 unfold B3k Bk
 rcases h with rfl | rfl | rfl | rfl<;>simp only[Pol.FAR]<;>decide
theorem vI.good {rows:List Pol.R3}(h:vI rows)(i:Nat):Pol.Good (Pol.nM++rows.take i) ((rows.take i).foldl Pol.yk Pol.box):=Pol.jx (rows:=rows.take i) fun s hs=>h.dir s (xej hs)
theorem vI.small {rows:List Pol.R3}(h:vI rows)(i:Nat):∀v∈(rows.take i).foldl Pol.yk Pol.box,B3k 800 v∧0<v.2.2:=fun v hv=>by
 have g:=h.good i
 refine⟨(tG g (k:=100) (fun s hs=>?_) v hv).mono (by decide),g.bot v hv⟩
 rcases xd_.mp hs with z | z
 ·exact tV s z
 ·exact h.sm s (xej z)
theorem vI.plen {rows:List Pol.R3}(h:vI rows)(i:Nat):((rows.take i).foldl Pol.yk Pol.box).length≤100000:=by
 have:=Pol.rP (rows:=rows.take i) fun s hs=>h.dir s (xej hs)
 unfold Pol.pieces at this
 have l:(rows.take i).length≤rows.length:=by rw[xd4];omega
 have:=h.len
 omega
theorem v9 {l:List Pol.R3}{v:Pol.R3}(h:v∈yD l):v∈l:=by
 unfold yD at h
 rcases xd_.mp h with h | h
 ·exact List.mem_of_mem_drop h
 ·exact xej h
theorem gX (p:Pol.R3→Bool)(l:List Pol.R3):(yD l).all p=l.all p:=by
 unfold yD
 rw[List.all_append,Bool.and_comm,←List.all_append,List.take_append_drop]
theorem qx (l:List Pol.R3):(yD l).length=l.length:=by
 unfold yD
 rw[xdU,xdW,xd4];omega
theorem xaB (a b c d:Int):HT.lexLt [a,b] [c,d]=decide (a<c∨a=c∧b<d):=by
 simp only[HT.lexLt]
 by_cases h:a<c
 ·simp[h];omega
 ·by_cases h2:a=c
  ·subst h2;simp;omega
  ·simp[h,h2]
theorem tZ {α:Type}{l:List α}{n:Nat}(e:l.length=n)(h:n≤1000000:=by decide):l.length<sizeLine:=sqz (by omega)
theorem oT {i z:Int}(hz:0<z)(h:Bd z):Bd (fX i z):=by
 unfold fX
 have g:(0:Int)<(Int.gcd i z:Int):=by have:=xdh i (show z≠0 by omega);omega
 have h1:=Int.ediv_le_self (Int.gcd i z:Int) (show 0≤z by omega)
 have h2:=Int.ediv_nonneg (show 0≤z by omega) (show 0≤(Int.gcd i z:Int) by omega)
 unfold Bd at *
 omega
theorem vj {t:Tr}{r:Pol.R3}(h:kE t=some r):t=trR r:=by
 unfold kE at h
 split at h
 ·cases h;rfl
 ·cases h
theorem qD (rows:List Pol.R3):rowsOf (rows.map trR)=some rows:=by
 induction rows with
 | nil=>rfl
 | cons r rows ih =>
  show(match kE (trR r),rowsOf (rows.map trR) with | some r,some rs=>some (r::rs) | _,_=>none)=_
  rw[ih];rfl
theorem uc:∀ {us:List Tr} {rows:List Pol.R3},rowsOf us=some rows→us=rows.map trR
 | [],rows,h=>by cases h;rfl
 | t::us,rows,h=>by
  unfold rowsOf at h
  cases e1:kE t with
  | none=>rw[e1] at h;cases h
  | some r =>
   cases e2:rowsOf us with
   | none=>rw[e1,e2] at h;cases h
   | some rs =>
    rw[e1,e2] at h
    cases h
    rw[vj e1,uc e2];rfl
theorem sS {us:List Tr}(h:us.all yG=true):∃rows:List Pol.R3,us=rows.map trR∧∀r∈rows,(r.1≠0∨r.2.1≠0)∧Pol.fZ r:=by
 induction us with
 | nil=>exact⟨[],rfl,fun r hr=>by simp at hr⟩
 | cons t us ih =>
  rw[List.all_cons,xdc] at h
  obtain⟨rows,e,hr⟩:=ih h.2
  have ht:=h.1
  unfold yG at ht
  cases e1:kE t with
  | none=>rw[e1] at ht;cases ht
  | some r =>
   rw[e1] at ht
   have ht:=xeU ht
   refine⟨r::rows,by rw[vj e1,e];rfl,fun x hx=>?_⟩
   rcases xec.mp hx with z | z
   ·rw[z];exact ht
   ·exact hr x z
theorem tj {r:Pol.R3}(h:Pol.fZ r):B3k 100 r:=by
 obtain⟨⟨⟨a,b⟩,c,d⟩,e,f⟩:=h
 refine⟨⟨?_,?_⟩,?_⟩<;>unfold Bk<;>omega
theorem jL (rows:List Pol.R3):(rows.map trR).all yG=rows.all fun r=>decide ((r.1≠0∨r.2.1≠0)∧Pol.fZ r):=by
 rw[xdx];rfl
theorem rQ {us:List Tr}(h:us.all yG=false):isField (.tup us)=false:=by
 show(match rowsOf us with | some rows=>xw rows | none=>false)=false
 cases e:rowsOf us with
 | none=>rfl
 | some rows =>
  rw[uc e,jL] at h
  show xw rows=false
  unfold xw
  rw[h];simp
end L2
namespace Fra
def gd (a b:Int):Int:=(Int.gcd a b:Int)
def low (n d:Int):Int×Int:=(n / gd n d,d / gd n d)
theorem dq (a b:Int):0≤gd a b:=Int.natCast_nonneg _
theorem aB {a b:Int}(h:a≠0∨b≠0):0<gd a b:=by
 unfold gd
 have:0<Int.gcd a b:=by
  rcases h with h | h
  ·exact Int.gcd_pos_of_ne_zero_left _ h
  ·exact xdh _ h
 omega
theorem ju (a b:Int):gd a b ∣ a:=Int.gcd_dvd_left ..
theorem qg (a b:Int):gd a b ∣ b:=Int.gcd_dvd_right ..
theorem o9 (a:Int):gd a 0=if a<0 then -a else a:=by
 unfold gd
 rw[Int.gcd_zero_right]
 split<;>omega
theorem bO {a b c d:Int}(h:∀k:Int,(k ∣ a∧k ∣ b)↔(k ∣ c∧k ∣ d)):gd a b=gd c d:=by
 have e1:gd a b ∣ gd c d:=xde ((h _).mp ⟨ju a b,qg a b⟩).1 ((h _).mp ⟨ju a b,qg a b⟩).2
 have e2:gd c d ∣ gd a b:=xde ((h _).mpr ⟨ju c d,qg c d⟩).1 ((h _).mpr ⟨ju c d,qg c d⟩).2
 exact Int.dvd_antisymm (dq _ _) (dq _ _) e1 e2
theorem o7 (a b q:Int):gd b (a-b*q)=gd a b:=by
 refine bO fun k=>⟨fun⟨h1,h2⟩=>⟨?_,h1⟩,fun⟨h1,h2⟩=>⟨h2,?_⟩⟩
 ·have:=Int.dvd_add h2 (Int.dvd_mul_of_dvd_left (c:=q) h1)
  rwa [Int.sub_add_cancel] at this
 ·exact Int.dvd_sub h1 (Int.dvd_mul_of_dvd_left h2)
theorem oj (a b:Int):gd b (a.fmod b)=gd a b:=by
 rw[Int.fmod_def];exact o7 a b _
theorem r9 {a b:Int}(h:b≠0):(a.fmod b).natAbs<b.natAbs:=by
 by_cases hb:0<b
 ·have h1:=Int.fmod_nonneg_of_pos a hb
  have h2:=Int.fmod_lt_of_pos a hb
  omega
 ·have hn:0 < -b:=by omega
  have e:a.fmod b = - ((-a).fmod (-b)):=by rw[Int.neg_fmod_neg];omega
  have h1:=Int.fmod_nonneg_of_pos (-a) hn
  have h2:=Int.fmod_lt_of_pos (-a) hn
  omega
theorem nK (n d:Int):(low n d).1*gd n d=n:=Int.ediv_mul_cancel (ju n d)
theorem ae (n d:Int):(low n d).2*gd n d=d:=Int.ediv_mul_cancel (qg n d)
theorem nO (n d:Int):(low n d).1*d=n*(low n d).2:=by
 have h1:=nK n d
 have h2:=ae n d
 grind
theorem mo {n d:Int}(h:0<d):0<(low n d).2:=by
 have h2:=ae n d
 have g:=aB (a:=n) (b:=d) (.inr (by omega))
 generalize gd n d=k at *
 generalize (low n d).2=m at *
 by_cases hm:0<m
 ·exact hm
 ·have:m*k≤0:=Int.mul_nonpos_of_nonpos_of_nonneg (by omega) (by omega)
  omega
theorem be (n:Int):low n 1=(n,1):=by
 have g:gd n 1=1:=by unfold gd;simp
 unfold low
 rw[g];simp
end Fra
namespace L2
open PySem PySem.Spec PyProof.Rows
abbrev F2:=Int×Int
abbrev P2:=F2×F2
def fT (f:F2):Tr:=frT f.1 f.2
def pT (p:P2):Tr:=.tup [fT p.1,fT p.2]
def lfr (t b:Int):F2:=if b<0 then Fra.low (-t) (-b) else Fra.low t b
theorem sJ {t b:Int}(h:0<b):lfr t b=Fra.low t b:=by unfold lfr;rw[if_neg (by omega)]
theorem oQ {t b:Int}(h:b<0):lfr t b=Fra.low (-t) (-b):=by unfold lfr;rw[if_pos h]
def plc (v:Pol.R3):P2:=(Fra.low v.1 v.2.2,Fra.low v.2.1 v.2.2)
def cq (f g:F2):Bool:=decide (f.1*g.2<g.1*f.2)
def fmin (f g:F2):F2:=lfr (f.1*g.2-g.1*f.2) (f.2*g.2)
def oi (f g:F2):F2:=lfr (f.1*g.1) (f.2*g.2)
def dn (p q w:P2):Int:=(fmin (oi (fmin q.1 p.1) (fmin w.2 p.2)) (oi (fmin q.2 p.2) (fmin w.1 p.1))).1
structure Fk (k:Nat)(f:F2):Prop where
 top:Bk k f.1
 bot:Bk k f.2
 pos:0<f.2
theorem Fk.mono {k m:Nat}{f:F2}(h:Fk k f)(hk:k≤m):Fk m f:=⟨h.top.mono hk,h.bot.mono hk,h.pos⟩
theorem pP {k:Nat}{t b:Int}(h:0<b)(ht:Bk k t)(hb:Bk k b):Fk k (Fra.low t b):=by
 have g:=Fra.aB (a:=t) (b:=b) (.inr (by omega))
 refine⟨ht.le ?_,hb.le ?_,Fra.mo h⟩
 ·have e:=Fra.nK t b
  generalize (Fra.low t b).1=x at *
  generalize Fra.gd t b=y at *
  rw[←e,xds]
  exact Nat.le_mul_of_pos_right _ (by omega)
 ·have e:=Fra.ae t b
  generalize (Fra.low t b).2=x at *
  generalize Fra.gd t b=y at *
  have:b.natAbs=x.natAbs*y.natAbs:=by rw[←xds,e]
  rw[this]
  exact Nat.le_mul_of_pos_right _ (by omega)
theorem pK {k:Nat}{t b:Int}(h:b≠0)(ht:Bk k t)(hb:Bk k b):Fk k (lfr t b):=by
 unfold lfr
 split
 ·exact pP (by omega) ht.neg hb.neg
 ·exact pP (by omega) ht hb
structure Sd (f:F2)(N D:Int):Prop where
 pf:0<f.2
 pd:0<D
 e:f.1*D=N*f.2
theorem xal {t b:Int}(h:0<b):Sd (Fra.low t b) t b:=⟨Fra.mo h,h,Fra.nO t b⟩
theorem vp {a b k:Int}(hk:0<k):a*k≤b*k↔a≤b:=⟨fun h=>Int.le_of_mul_le_mul_right h hk,fun h=>xdo h (by omega)⟩
theorem Sd.le {f:F2}{N D:Int}(h:Sd f N D)(c:Int):f.1≤c*f.2↔N≤c*D:=by
 have e:=h.e
 rw[←vp h.pd,e,show c*f.2*D=(c*D)*f.2 by grind,vp h.pf]
section
variable {p q v w:Pol.R3}
end
theorem xaw (p:P2):pln (pT p)=true:=rfl
theorem aX (f g:F2):teq (fT f) (fT g)=decide (f=g):=by
 have e:teq (fT f) (fT g)=(decide (f.1=g.1)&&(decide (f.2=g.2)&&true)):=rfl
 rw[e]
 by_cases h1:f.1=g.1
 ·by_cases h2:f.2=g.2
  ·simp[h1,h2,Prod.ext_iff]
  ·simp[h1,h2,Prod.ext_iff]
 ·simp[h1,Prod.ext_iff]
theorem xah (p q:P2):teq (pT p) (pT q)=decide (p=q):=by
 have e:teq (pT p) (pT q)=(teq (fT p.1) (fT q.1)&&(teq (fT p.2) (fT q.2)&&true)):=rfl
 rw[e,aX,aX]
 by_cases h1:p.1=q.1
 ·by_cases h2:p.2=q.2
  ·simp[h1,h2,Prod.ext_iff]
  ·simp[h1,h2,Prod.ext_iff]
 ·simp[h1,Prod.ext_iff]
end L2
namespace L2
open PySem PySem.Spec PyProof.Rows
theorem uN {α:Type}{dg:DG}{dc:DT}{de:DE}{τi:TSt}{KK:List Tr→Prop}{f:α→Tr}{l:List α}(p:α→Bool)(g:α→Tr)
  (h1:∀a∈l,∀(N:Tr→Prop) (M:Prop),(p a=true→N (g a))→(p a=false→M)→dg (f a) τi fun τ2=>dc τ2 fun b=>if b=true then de τ2 N else M) (h0:KK ((l.filter p).map g)):sY dg dc de τi KK (l.map f) []:=by
 refine kM (fun ys acc=>∃zs us,l=zs++us∧ys=us.map f∧acc=(zs.filter p).map g) (fun acc ⟨zs,us,e,ey,e2⟩=>?_) (fun x ys acc N ⟨zs,us,e,ey,e2⟩ hN=>?_) _ [] ⟨[],l,rfl,rfl,rfl⟩
 ·cases us with
  | nil=>rw[xdz] at e;subst e e2;exact h0
  | cons u us=>cases ey
 ·cases us with
  | nil=>cases ey
  | cons u us =>
   injection ey with ex ey
   subst ex ey e2
   have hu:u∈l:=by rw[e];simp
   refine h1 u hu (fun y=>N ((zs.filter p).map g++[y])) (N ((zs.filter p).map g)) (fun hp=>hN _ ⟨zs++[u],us,by rw[e];simp,rfl,?_⟩) (fun hp=>hN _ ⟨zs++[u],us,by rw[e];simp,rfl,?_⟩)
   ·rw[xdF,xdH hp];simp
   ·rw[xdF,xdG (by rw[hp];exact xdd)];simp
theorem u9 {α:Type}{dg:DG}{de:DE}{τi:TSt}{KK:List Tr→Prop}{f:α→Tr}{l:List α}(g:α→Tr)(h1:∀a∈l,∀N:Tr→Prop,N (g a)→dg (f a) τi fun τ2=>de τ2 N)(h0:KK (l.map g)):sY dg mG de τi KK (l.map f) []:=by
 refine kM (fun ys acc=>∃zs us,l=zs++us∧ys=us.map f∧acc=zs.map g) (fun acc ⟨zs,us,e,ey,e2⟩=>?_) (fun x ys acc N ⟨zs,us,e,ey,e2⟩ hN=>?_) _ [] ⟨[],l,rfl,rfl,rfl⟩
 ·cases us with
  | nil=>rw[xdz] at e;subst e e2;exact h0
  | cons u us=>cases ey
 ·cases us with
  | nil=>cases ey
  | cons u us =>
   injection ey with ex ey
   subst ex ey e2
   exact h1 u (by rw[e];simp) (fun y=>N (zs.map g++[y])) (hN _ ⟨zs++[u],us,by rw[e];simp,rfl,by simp⟩)
theorem lj (xs:List Tr):teq (.lst xs) (.lst [])=xs.isEmpty:=by cases xs<;>rfl
theorem bY {xs:List Tr}(h:PyData.canLayAll0 (w_ xs)=true):lL (.lst xs) (.lst []):=⟨h,rfl,xeC (Nat.min_le_right _ _) (by decide)⟩
theorem lE {neg:Bool}{xs:List Tr}{KK:Tr→Prop}(h:PyData.canLayAll0 (w_ xs)=true)(k:KK (.bl (if neg then !xs.isEmpty else xs.isEmpty))):lP neg (.lst xs) (.lst []) KK:=⟨bY h,by rw[lj];exact k⟩
theorem filter_empty {α:Type}(p:α→Bool)(l:List α):(l.filter p).isEmpty=l.all fun x=>!p x:=by
 induction l with
 | nil=>rfl
 | cons x l ih =>
  by_cases h:p x=true
  ·rw[xdH h,List.all_cons,h];rfl
  ·rw[xdG h,ih,List.all_cons]
   have:p x=false:=by simpa using h
   rw[this];rfl
def oC:TSp:=fun ts KK=>∃t b:Int,ts=[.int t,.int b]∧b≠0∧Bd b∧KK (fT (lfr t b))
def p5:TSp:=fun ts KK=>∃f g:F2,ts=[fT f,fT g]∧Fk 1000 f∧Fk 1000 g∧KK (.bl (cq f g))
def mH:TSp:=fun ts KK=>∃f g:F2,ts=[fT f,fT g]∧Fk 900 f∧Fk 900 g∧KK (fT (fmin f g))
def mw:TSp:=fun ts KK=>∃f g:F2,ts=[fT f,fT g]∧Fk 900 f∧Fk 900 g∧KK (fT (oi f g))
def Pk (k:Nat)(p:P2):Prop:=Fk k p.1∧Fk k p.2
def mN:TSp:=fun ts KK=>∃p q w:P2,ts=[pT p,pT q,pT w]∧Pk 200 p∧Pk 200 q∧Pk 200 w∧KK (.int (dn p q w))
structure xbF (rows:List Pol.R3):Prop where
 fine:Pol.xbZ rows rows
 len:rows.length≤8
theorem Fk.min {k:Nat}{f g:F2}(h:Fk k f)(h':Fk k g):Fk (2*k+1) (fmin f g):=by
 unfold fmin
 refine pK (by have:=Pol.pp h.pos h'.pos;omega) ?_ ?_
 ·exact((h.top.mul h'.bot).sub (h'.top.mul h.bot)).mono (by omega)
 ·exact(h.bot.mul h'.bot).mono (by omega)
theorem Fk.tim {k:Nat}{f g:F2}(h:Fk k f)(h':Fk k g):Fk (2*k) (oi f g):=by
 unfold oi
 refine pK (by have:=Pol.pp h.pos h'.pos;omega) ?_ ?_
 ·exact(h.top.mul h'.top).mono (by omega)
 ·exact(h.bot.mul h'.bot).mono (by omega)
end L2
namespace L2
open PySem PySem.Spec PyProof.Rows
end L2
namespace L2
open PySem PySem.Spec PyProof.Rows
theorem xR {A B:DS}{G:jn}{τ:TSt}(P:TSt→Prop)(hB:∀ τ',P τ'→B G τ')(hA:∀N:TSt→Prop,(∀ τ',P τ'→N τ')→A { G with nx:=N } τ):pH A B G τ:=hA (B G) hB
theorem ur {di:DI}{dg:DG}{body:DS}{G:jn}{τ:TSt}(all:List Tr)(W:Nat→TSt→Prop)(hd:∀KK:List Tr→Prop,KK all→di τ KK)(w0:W 0 τ)
  (h1:∀i x τ (N:TSt→Prop),all[i]? = some x→W i τ→(∀ τ',W (i+1) τ'→N τ')→dg x τ fun τ'=>body { G with nx:=N,ct:=N,bk:=G.nx } τ')
  (h0:∀ τ,W all.length τ→G.nx τ):xbs di dg body G τ:=hd _ (zP W w0 h1 h0)
theorem kN {i:Int}(h:-1000000≤i∧i≤1000000):Bd i:=oy (by omega) (by omega)
theorem yl {i j:Int}(h:-1000000≤i∧i≤1000000)(h':-1000000≤j∧j≤1000000):CM i j:=⟨kN h,kN h'⟩
theorem tk {m:Int}(h:0<m∧m<1000000):0<m∧m<2 ^ 128:=⟨h.1,by omega⟩
structure LF0 (rows:List Pol.R3):Prop where
 l3:3≤rows.length
 l8:rows.length≤8
 sm:∀r∈rows,((-14≤r.1∧r.1≤14)∧(-14≤r.2.1∧r.2.1≤14))∧(-100≤r.2.2∧r.2.2≤100)
 dir:∀r∈rows,r.1≠0∨r.2.1≠0
 gr:Pol.GR rows
 near:∀p:Pol.R3,0<p.2.2→(∀r∈rows,Pol.val r p≤0)→(-(9*p.2.2)≤p.1∧p.1≤9*p.2.2)∧(-(9*p.2.2)≤p.2.1∧p.2.1≤9*p.2.2)
structure LF (rows:List Pol.R3):Prop where
 l3:3≤rows.length
 l8:rows.length≤8
 sm:∀r∈rows,((-14≤r.1∧r.1≤14)∧(-14≤r.2.1∧r.2.1≤14))∧(-200≤r.2.2∧r.2.2≤200)
 dir:∀r∈rows,r.1≠0∨r.2.1≠0
 gr:Pol.GR rows
 near:∀p:Pol.R3,0<p.2.2→(∀r∈rows,Pol.val r p≤0)→(-(12*p.2.2)≤p.1∧p.1≤12*p.2.2)∧(-(12*p.2.2)≤p.2.1∧p.2.1≤12*p.2.2)
def mx:TSp:=fun ts KK=>ts=[]∧∀rows,LF rows→KK (.tup (rows.map trR))
def kJ (u v:Int)(r:Pol.R3):Pol.R3:=(r.1,r.2.1,r.2.2+r.1*u+r.2.1*v)
theorem j5 {a b m n:Int}(h1:-m≤a)(h2:a≤m)(h3:-n≤b)(h4:b≤n)(hm:0≤m)(hn:0≤n):-(m*n)≤a*b∧a*b≤m*n:=by
 have key:(a*b).natAbs≤(m*n).natAbs:=by
  rw[xds,xds]
  exact Nat.mul_le_mul (by omega) (by omega)
 have:=Pol.pz hm hn
 omega
theorem LF0.moved {rows:List Pol.R3}(h:LF0 rows){u v:Int}(hu:-3≤u∧u≤3)(hv:-3≤v∧v≤3):LF (rows.map (kJ u v)) where
 l3:=by rw[xdZ];exact h.l3
 l8:=by rw[xdZ];exact h.l8
 sm:=fun r hr=>by
  obtain⟨s,hs,rfl⟩:=xeg.mp hr
  obtain⟨⟨⟨a1,a2⟩,b1,b2⟩,c1,c2⟩:=h.sm s hs
  have x:=j5 a1 a2 hu.1 hu.2 (by decide) (by decide)
  have y:=j5 b1 b2 hv.1 hv.2 (by decide) (by decide)
  simp only[kJ]
  omega
 dir:=fun r hr=>by
  obtain⟨s,hs,rfl⟩:=xeg.mp hr
  exact h.dir s hs
 gr:=fun x y hn=>by
  obtain⟨r,hr,p⟩:=h.gr x y hn
  exact⟨kJ u v r,xeh hr,p⟩
 near:=fun p hz hk=>by
  have:=h.near (p.1-u*p.2.2,p.2.1-v*p.2.2,p.2.2) hz fun r hr=>by
   have:=hk _ (xeh hr)
   have e:Pol.val r (p.1-u*p.2.2,p.2.1-v*p.2.2,p.2.2)=Pol.val (kJ u v r) p:=by simp only[Pol.val,kJ];grind
   rw[e];exact this
  simp only at this
  have x:=xdo hu.1 (show 0≤p.2.2 by omega)
  have x':=xdo hu.2 (show 0≤p.2.2 by omega)
  have y:=xdo hv.1 (show 0≤p.2.2 by omega)
  have y':=xdo hv.2 (show 0≤p.2.2 by omega)
  omega
theorem LF.frow {rows:List Pol.R3}(h:LF rows):∀r∈rows,Pol.fZ r:=fun r hr=>by have:=h.sm r hr;unfold Pol.fZ;omega
theorem LF.fine {rows:List Pol.R3}(h:LF rows):xbF rows:=⟨⟨fun {p} hz hp s hs=>by
 have:=h.near p hz hp
 simp only[Pol.nM,xec,xep,xeV] at hs
 rcases hs with rfl | rfl | rfl | rfl<;>simp only[Pol.val,Pol.FAR]<;>omega,h.frow,fun _ h=>h,h.dir⟩,h.l8⟩
theorem dG {n d:Int}(hd:0<d):nearF (rF n d) (fX n d)=true↔-(12*d)≤n∧n≤12*d:=by
 have s:=xal (t:=n) (b:=d) hd
 unfold nearF
 rw[decide_eq_true_iff]
 have h1:=s.le 12
 have h2:-(12*fX n d)≤rF n d↔-(12*d)≤n:=by
  have e:=s.e
  have p:=s.pf
  show -(12*(Fra.low n d).2)≤(Fra.low n d).1↔_
  rw[←vp hd,e,show -(12*(Fra.low n d).2)*d=(-(12*d))*(Fra.low n d).2 by grind,vp p]
 have h3:rF n d≤12*fX n d↔n≤12*d:=h1
 rw[h2,h3]
theorem mJ {v:Pol.R3}(hz:0<v.2.2):gU v=true↔(-(12*v.2.2)≤v.1∧v.1≤12*v.2.2)∧(-(12*v.2.2)≤v.2.1∧v.2.1≤12*v.2.2):=by
 unfold gU
 rw[xdc,dG hz,dG hz]
theorem LF.field {rows:List Pol.R3}(h:LF rows):isField (.tup (rows.map trR))=true:=by
 show(match rowsOf (rows.map trR) with | some rows=>xw rows | none=>false)=true
 rw[qD]
 show xw rows=true
 unfold xw
 rw[xeQ ⟨h.l3,h.l8⟩,Pol.cZ h.dir (Pol.xbH h.gr) (Pol.xbp h.dir h.gr)]
 have e1:(rows.all fun r=>decide ((r.1≠0∨r.2.1≠0)∧Pol.fZ r))=true:=by
  rw[xdw];intro r hr;exact xeQ ⟨h.dir r hr,h.frow r hr⟩
 have e2:(Pol.pieces rows).all gU=true:=by
  rw[xdw]
  intro v hv
  obtain⟨hz,_,hc⟩:=h.fine.fine.corner hv
  exact(mJ hz).mpr (h.near v hz hc.kept)
 rw[e1,e2];rfl
theorem xbb {b c x z:Int}(hb:1≤b)(hc:c≤5*b)(hz:0<z)(h:b*x≤c*z):x≤5*z:=by
 have h1:c*z≤5*b*z:=xdo hc (by omega)
 have h2:b*x≤b*(5*z):=by
  have:b*(5*z)=5*b*z:=by grind
  omega
 exact Int.le_of_mul_le_mul_left h2 (by omega)
def Extra (r:Pol.R3):Prop:=(((-6≤r.1∧r.1≤6)∧(-6≤r.2.1∧r.2.1≤6))∧(-40≤r.2.2∧r.2.2≤40))∧(r.1≠0∨r.2.1≠0)
def dT (d:Int×Int):Tr:=.tup [.int d.1,.int d.2]
def Drawn (d:Int×Int)(y:Tr):Prop:=∃c:Int,(0≤c∧c<8)∧y=.tup [.int d.1,.int d.2,.int c]
theorem c5 {k:Int}(h1:1≤k)(h7:k≤7):LF0 [(-1,0,0),(1,-2*k,0),(1,2*k,2*k)]:=by
 refine⟨by simp,by simp,fun r hr=>?_,fun r hr=>?_,fun u v hn=>?_,fun p hz hk=>?_⟩
 ·simp only[xec,xep,xeV] at hr
  rcases hr with rfl | rfl | rfl<;>simp only<;>omega
 ·simp only[xec,xep,xeV] at hr
  rcases hr with rfl | rfl | rfl<;>simp only<;>omega
 ·rcases xdk u 0 with c | c
  ·exact⟨_,xee,by simp only;omega⟩
  ·rcases xdl v 0 with d | d | d
   ·refine⟨(1,-2*k,0),by simp,?_⟩
    simp only
    have:=xdr (show 0<k by omega) (show 0 < -v by omega)
    grind
   ·refine⟨(1,2*k,2*k),by simp,?_⟩
    simp only
    subst d
    omega
   ·refine⟨(1,2*k,2*k),by simp,?_⟩
    simp only
    have:=xdr (show 0<k by omega) d
    grind
 ·have k1:=hk (-1,0,0) (by simp)
  have k2:=hk (1,-2*k,0) (by simp)
  have k3:=hk (1,2*k,2*k) (by simp)
  simp only[Pol.val] at k1 k2 k3
  have e2:p.1≤2*(k*p.2.1):=by grind
  have e3:p.1+2*(k*p.2.1)≤2*(k*p.2.2):=by grind
  have kz:k*p.2.2≤7*p.2.2:=xdo h7 (by omega)
  have y0:0≤p.2.1:=Pol.yN (show 0<k by omega) (by omega)
  have y1:p.2.1≤p.2.2:=by
   have:k*p.2.1≤k*p.2.2:=by omega
   exact Int.le_of_mul_le_mul_left this (by omega)
  omega
end L2
namespace L2
open PySem PySem.Spec PyProof.Rows
theorem q9 {rows:List Pol.R3}:isField (.tup (rows.map trR))=xw rows:=by
 show(match rowsOf (rows.map trR) with | some rows=>xw rows | none=>false)=_
 rw[qD]
end L2
namespace L2
open PySem PySem.Spec PyProof.Rows
def DD (K:PySem.W.Frag)(x:Str)(st:Stmt):Prop:=∃f fd,PySem.W.nsIn K mainGlobals x=some (some (.ref f))∧Fun K x x st f fd
theorem dd {K:PySem.W.Frag}{x:Str}{st:Stmt}{f:Addr}{oc:Value}{od an:Option Addr}{sl:Array (Option Value)}{kV dc pm cd ct:Value}(a:PySem.W.nsIn K mainGlobals x=some (some (.ref f)))
  (l:K.lookup f=some ⟨oc,od,.func (PySem.W.fnOf x x (zF st) (yS st) (xg st) .none kV dc pm an cd ct),sl⟩) (c:PySem.W.codeIn K cd x=true) (k:PySem.W.keepIn K (.ref f)=true):DD K x st:=⟨f,_,a,p_ l c k⟩
theorem yR {K:PySem.W.Frag}{x qual p1:Str}{st:Stmt}{f:Addr}{fd:FuncData}(F:Fun K x qual st f fd)(h:∀(kV doc pm:Value) (an:Option Addr) (cdv ct u1:Value),bindArgs (PySem.W.fnOf x qual (zF st) (yS st) (xg st) .none kV doc pm an cdv ct) ⟨[u1],[]⟩=pure [(p1,u1)]):Binds K fd [p1] [] :=
 F.binds fun a b c d e g us hl=>match us,hl with | [u1],_=>h a b c d e g u1
theorem zt {K:PySem.W.Frag}{x qual p1 p2:Str}{st:Stmt}{f:Addr}{fd:FuncData}(F:Fun K x qual st f fd)(h:∀(kV doc pm:Value) (an:Option Addr) (cdv ct u1 u2:Value),bindArgs (PySem.W.fnOf x qual (zF st) (yS st) (xg st) .none kV doc pm an cdv ct) ⟨[u1,u2],[]⟩=pure [(p1,u1),(p2,u2)]):Binds K fd [p1,p2] [] :=
 F.binds fun a b c d e g us hl=>match us,hl with | [u1,u2],_=>h a b c d e g u1 u2
theorem rh {K:PySem.W.Frag}{x qual p1 p2 p3:Str}{st:Stmt}{f:Addr}{fd:FuncData}(F:Fun K x qual st f fd)(h:∀(kV doc pm:Value) (an:Option Addr) (cdv ct u1 u2 u3:Value),bindArgs (PySem.W.fnOf x qual (zF st) (yS st) (xg st) .none kV doc pm an cdv ct) ⟨[u1,u2,u3],[]⟩=pure [(p1,u1),(p2,u2),(p3,u3)]):Binds K fd [p1,p2,p3] [] :=
 F.binds fun a b c d e g us hl=>match us,hl with | [u1,u2,u3],_=>h a b c d e g u1 u2 u3
def jZ:TSp:=fun ts KK=>∃t,ts=[t]∧isField t=true∧KK .non
def brk (v:Pol.R3):Bool := !decide ((plc v).1.2=1) || !decide ((plc v).2.2=1)
theorem xa_ {rows:List Pol.R3}(h:xw rows=true):(3≤rows.length∧rows.length≤8)∧(∀r∈rows,(r.1≠0∨r.2.1≠0)∧Pol.fZ r)∧Pol.wX rows=true∧∀v∈Pol.pieces rows,gU v=true:=by
 unfold xw at h
 simp only[xdc,xeR,xdw] at h
 exact⟨h.1.1.1,h.1.1.2,h.1.2,h.2⟩
theorem aq {rows:List Pol.R3}(h:xw rows=true):isField (.tup (rows.map trR))=true:=by rw[q9];exact h
theorem LF.isf {rows:List Pol.R3}(h:LF rows):xw rows=true:=by rw[←q9];exact h.field
def oP:Tr→Bool
 | .non | .bl _ | .int _=>true
 | _=>false
def Sm:Nat→Tr→Prop
 | 0,t=>oP t=true
 | d+1,t=>oP t=true∨∃us,(t=.tup us∨t=.lst us)∧us.length≤100000∧∀u∈us,Sm d u
def xaq (d:Nat):TSp:=fun ts KK=>∃t,ts=[t,t]∧Sm d t∧KK (.bl true)
def l9:TSp:=fun _ _=>False
def ph:Nat→TSp
 | 0=>l9
 | d+1=>xaq d
def c_:TSp:=xaq 4
theorem dX (us:List Tr):tI us us=us.map fun u=>.tup [u,u]:=by
 induction us with
 | nil=>rfl
 | cons u us ih=>show Tr.tup [u,u]::tI us us=_;rw[ih];rfl
theorem bR {P:Program}{w:World}{K:PySem.W.Frag}{mg:Str→Option Value}{base:Heap}{x qual:Str}{st:Stmt}{f:Addr}{fd:FuncData}{N ps:List Str}{n:Nat}{s fr:Bool}(F:Fun K x qual st f fd)(S:xt N ps (xg st))(mgx:mg x=some (.ref f))(b:Binds K fd ps []) :
  Own P w K mg base 1 x ps (spT n s fr l9) :=
 j6 F S mgx b (fun vs H Q E h=>by obtain⟨_,_,_,_,_,_,_,_,_,_,_,z,_⟩:=h;exact z.elim) (fun cdv A outer s H vs Q E hr h=>by obtain⟨_,_,_,_,_,_,_,_,_,_,_,z,_⟩:=h;exact z.elim)
end L2
namespace L2
open PySem PySem.Spec PyProof.Rows
end L2
namespace L2
open PySem PySem.Spec PyProof.Rows
theorem gv (its:List Value):slicePick its.toArray none none (some (-1))=its.reverse.toArray:=by
 unfold slicePick sliceBounds
 simp only[xeM,show ¬((-1:Int)>0) by decide,xeS,xet]
 unfold sliceRange
 simp only[show ¬((-1:Int)>0) by decide,xeS]
 congr 1
 have key:∀l:List Value,(List.map (fun k:Nat=>((l.length:Int)-1+-1*(k:Int)).toNat) (List.range l.length)).filterMap (fun k=>l[k]?)=l.reverse:=fun l=>by
  have e:(List.map (fun k:Nat=>((l.length:Int)-1+-1*(k:Int)).toNat) (List.range l.length)).filterMap (fun k=>l[k]?)=(List.range l.length).filterMap (fun k=>l.reverse[k]?):=by
   rw[List.filterMap_map]
   have g:∀ks:List Nat,(∀k∈ks,k<l.length)→ks.filterMap ((fun k=>l[k]?) ∘ fun k:Nat=>((l.length:Int)-1+-1*(k:Int)).toNat)=ks.filterMap (fun k=>l.reverse[k]?):=fun ks=>by
    induction ks with
    | nil=>exact fun _=>rfl
    | cons k ks ih =>
     intro h
     have hk:=h k xee
     have e:((fun k=>l[k]?) ∘ fun k:Nat=>((l.length:Int)-1+-1*(k:Int)).toNat) k=l.reverse[k]?:=by
      simp only[Function.comp]
      rw[List.getElem?_reverse hk]
      congr 1
      omega
     rw[xdE,xdE,e,ih fun q hq=>h q (xed _ hq)]
   exact g _ fun k hk=>xek.mp hk
  rw[e]
  have:∀m:List Value,(List.range m.length).filterMap (fun k=>m[k]?)=m:=fun m=>by
   have:=pick_run m.toArray 0 m.length
   simp at this
   exact this
  have t:=this l.reverse
  rw[xd1] at t
  exact t
 by_cases h:(its.length:Int)-1 > -1
 ·rw[if_pos h]
  have e:(((its.length:Int)-1 - -1 - -1-1) / - -1).toNat=its.length:=by
   have:((its.length:Int)-1 - -1 - -1-1) / - -1=(its.length:Int):=by
    rw[show(- -1:Int)=1 by decide,Int.ediv_one];omega
   rw[this,xdt]
  rw[e]
  have:=key its
  simpa using this
 ·have:its=[]:=by cases its with | nil=>rfl | cons a l=>simp at h;omega
  subst this
  simp
theorem aT:∀ {xs:List V} {us:List Value},yy xs us→yy xs.reverse us.reverse
 | _,_,.nil=>.nil
 | _,_,.cons r rs=>by rw[xer,xer];exact(aT rs).append (.cons r .nil)
section
variable {X:Cx} {e:Expr} {te:TE}
def xbM (K:PySem.W.Frag):V→Hp→VK→Prop:=fun x H Q=>∃a xs,x=.ref a∧SqL K H a xs∧∀p,H p=none→Q (.ref p) (upd H p (.lst xs.reverse))
def xcu (K:PySem.W.Frag)(te:TE)(ts:TO):TE:=fun σ H Q=>te σ H fun x H1=>ts σ H1 fun o H2=>o=some (-1)∧xbM K x H2 Q
theorem pI (K:PySem.W.Frag){st:Expr}{ts:TO}{p2 pos:Pos}(he:PE X e te)(hs:PO X (some st) ts)(eK:X.K=K:=by rfl):PE X (.Subscript e (.Slice none none (some st) p2) pos) (xcu K te ts):=by
 subst eK
 intro pins s σ H Q I h
 refine Subscript_ (thn (@he pins s σ H _ I h) fun v s1 ⟨x,H1,I1,r1,q1⟩=>?_)
 refine wpAny_Slice ?_
 rw[evalPart_none]
 refine wpAny_pure (wpAny_pure (thn (@hs pins s1 σ H1 _ I1 q1) fun vs s2 ⟨o,H2,I2,ps,eo,q2⟩=>?_))
 obtain⟨a,xs,rfl,hx,q⟩:=q2
 cases r1
 subst eo
 have I4:Inv X pins σ H2 { s2 with heap:=s2.heap.push { cls:=.type "slice", data:=.fields #[.none,.none,vs] } }:=I2.kept (t':=s2.toks) fun b ob q=>Heap.get?_push_of_some _ q
 obtain⟨its,r,ht,hz⟩:=I4.list hx
 have hlen:=r.length
 show wpAny (model X.prog X.w) X.A (subscriptTail e (.Slice none none (some st) p2) (.ref a) (.ref s2.heap.objs.size)) (EP X pins σ Q) X.xe { s2 with heap:=s2.heap.push { cls:=.type "slice", data:=.fields #[.none,.none,vs] } }
 refine tail_any (ops:=[.ref a,.ref s2.heap.objs.size]) ht.isList.typeIs slot_list_getitem.lookup ?_ (by with_unfolding_all rfl)
 refine wpAny_getItem_list_slice ht.isList (Heap.IsSliceOf.new ..) .none .none ps (by decide) ?_ (by rw[xet]<;>omega)
 rw[gv]
 refine⟨.ref _,_,I4.laid (t':=s2.toks) (o:=.lst xs.reverse) (fun b ob q=>Heap.get?_push_of_some _ q) (xeA _) ?_,rfl,q _ (I4.hok.fresh (xeA _))⟩
 exact⟨by rw[xd1];exact hz,_,0,aT r,Heap.get?_push_size _ rfl⟩
end
end L2
namespace L2
open PySem PySem.Spec PyProof.Rows
abbrev two (elt t1 i1:Expr)(f1:List Expr)(t2 i2:Expr)(f2:List Expr)(sc:Scope)(pos:Pos):Expr:=.ListComp elt [⟨t1,i1,f1,0⟩,⟨t2,i2,f2,0⟩] sc pos
theorem hW (elt t1 i1:Expr)(f1:List Expr)(t2 i2:Expr)(f2:List Expr)(sc:Scope)(pos:Pos)(it acc:Value)(env:Env) :
  compTurn (two elt t1 i1 f1 t2 i2 f2 sc pos) 0 it acc env=(do
   standAt i1.pos
   match ←pyNext it with
   | none=>pure (.done .next)
   | some v =>
    letOwnedTupleGo t1 it v
    assign t1 env v
    let mut ok:=true
    for c in f1 do
     if ok then ok ←isTrue c env (eval c env)
    if ok then
     let x ←eval i2 env
     standAt i2.pos
     let x ←foldedSetIterable i2 env x
     let _ ←runOwn (.compStart (two elt t1 i1 f1 t2 i2 f2 sc pos) 1 (←holding [x] (pyIter x)) acc env) env
    again (.compLoop (two elt t1 i1 f1 t2 i2 f2 sc pos) 0 it acc env)):=by rfl
theorem gF (elt t1 i1:Expr)(f1:List Expr)(t2 i2:Expr)(f2:List Expr)(sc:Scope)(pos:Pos)(it acc:Value)(env:Env) :
  compTurn (two elt t1 i1 f1 t2 i2 f2 sc pos) 1 it acc env=(do
   standAt i2.pos
   match ←pyNext it with
   | none=>pure (.done .next)
   | some v =>
    letOwnedTupleGo t2 it v
    assign t2 env v
    let mut ok:=true
    for c in f2 do
     if ok then ok ←isTrue c env (eval c env)
    if ok then
     (do let _ ←call (.builtin "list.append") [acc,←eval elt env])
    again (.compLoop (two elt t1 i1 f1 t2 i2 f2 sc pos) 1 it acc env)):=by rfl
section
variable {prog:Program} {w:World} {A:Around} {R:Result→Shared→Prop} {s:Shared} {elt t1 i1 t2 i2:Expr} {f1 f2:List Expr} {sc:Scope} {pos:Pos} {it acc:Value} {env:Env}
theorem bE (I:Nat→Shared→Prop)
  (turn:∀n s,I n s→wpAny (model prog w) A (pyNext it) (fun r s₁=>match r with
   | none=>R (.ok .next) s₁
   | some v=>wpAny (model prog w) A (letOwnedTupleGo t2 it v) (fun _ s₀=>wpAny (model prog w) A (assign t2 env v) (fun _ s₂ =>
     wpAny (model prog w) A (forIn f2 true fun c r=>if r=true then do let ok ←isTrue c env (eval c env);pure (ForInStep.yield ok) else pure (ForInStep.yield r)) (fun ok s₃ =>
      if ok=true then wpAny (model prog w) A (eval elt env) (fun x s₄ =>
       wpAny (model prog w) A (call (.builtin "list.append") [acc,x]) (fun _ s₅=>∃m,m<n∧I m s₅) (fun _ _=>False) s₄) (fun _ _=>False) s₃
      else ∃m,m<n∧I m s₃) (fun _ _=>False) s₂) (fun _ _=>False) s₀) (fun _ _=>False) s₁) (fun _ _=>False) s)
  (n:Nat) (h:I n s) :
  codeAny (model prog w) A (.compLoop (two elt t1 i1 f1 t2 i2 f2 sc pos) 1 it acc env) R s:=by
 refine codeAny_loop rfl I (fun n s hI=>?_) n h
 show wpAny _ A ((compTurn (two elt t1 i1 f1 t2 i2 f2 sc pos) 1 it acc env).onRaise (fun x=>do noteFrame x env;theTreesLotGoes x)) _ _ s
 refine wpAny_noted ?_
 rw[gF]
 refine wpAny_bind (wpAny_standAt (wpAny_bind (wpAny_mono (turn n s hI) (fun r s₁ h₁=>?_) fun _ _ h'=>h'.elim)))
 cases r with
 | none=>exact wpAny_pure h₁
 | some v =>
  refine wpAny_bind (wpAny_mono h₁ (fun _ s₀ h₀=>?_) fun _ _ h'=>h'.elim)
  refine wpAny_bind (wpAny_mono h₀ (fun _ s₂ h₂=>wpAny_bind (wpAny_mono h₂ (fun ok s₃ h₃=>?_) fun _ _ h'=>h'.elim)) fun _ _ h'=>h'.elim)
  cases ok with
  | false=>exact wpAny_pure ⟨rfl,h₃⟩
  | true =>
   exact wpAny_bind (wpAny_bind (wpAny_mono h₃ (fun x s₄ h₄=>wpAny_bind (wpAny_mono h₄ (fun _ s₅ h₅=>wpAny_pure (wpAny_pure ⟨rfl,h₅⟩)) fun _ _ h'=>h'.elim)) fun _ _ h'=>h'.elim))
theorem nB (hs:∀x,foldedSetIterable i2 env x=pure x)(I:Nat→Shared→Prop)
  (turn:∀n s,I n s→wpAny (model prog w) A (pyNext it) (fun r s₁=>match r with
   | none=>R (.ok .next) s₁
   | some v=>wpAny (model prog w) A (letOwnedTupleGo t1 it v) (fun _ s₀=>wpAny (model prog w) A (assign t1 env v) (fun _ s₂ =>
     wpAny (model prog w) A (forIn f1 true fun c r=>if r=true then do let ok ←isTrue c env (eval c env);pure (ForInStep.yield ok) else pure (ForInStep.yield r)) (fun ok s₃ =>
      if ok=true then wpAny (model prog w) A (eval i2 env) (fun x s₄=>wpAny (model prog w) A (pyIter x) (fun it2 s₅ =>
       codeAny (model prog w) A (.compStart (two elt t1 i1 f1 t2 i2 f2 sc pos) 1 it2 acc env) (fun r s'=>match r with | .ok _=>∃m,m<n∧I m s' | .error _=>False) s₅) (fun _ _=>False) s₄) (fun _ _=>False) s₃
      else ∃m,m<n∧I m s₃) (fun _ _=>False) s₂) (fun _ _=>False) s₀) (fun _ _=>False) s₁) (fun _ _=>False) s)
  (n:Nat) (h:I n s) :
  codeAny (model prog w) A (.compLoop (two elt t1 i1 f1 t2 i2 f2 sc pos) 0 it acc env) R s:=by
 refine codeAny_loop rfl I (fun n s hI=>?_) n h
 show wpAny _ A ((compTurn (two elt t1 i1 f1 t2 i2 f2 sc pos) 0 it acc env).onRaise (fun x=>do noteFrame x env;theTreesLotGoes x)) _ _ s
 refine wpAny_noted ?_
 rw[hW]
 refine wpAny_bind (wpAny_standAt (wpAny_bind (wpAny_mono (turn n s hI) (fun r s₁ h₁=>?_) fun _ _ h'=>h'.elim)))
 cases r with
 | none=>exact wpAny_pure h₁
 | some v =>
  refine wpAny_bind (wpAny_mono h₁ (fun _ s₀ h₀=>?_) fun _ _ h'=>h'.elim)
  refine wpAny_bind (wpAny_mono h₀ (fun _ s₂ h₂=>wpAny_bind (wpAny_mono h₂ (fun ok s₃ h₃=>?_) fun _ _ h'=>h'.elim)) fun _ _ h'=>h'.elim)
  cases ok with
  | false=>exact wpAny_pure ⟨rfl,h₃⟩
  | true =>
   refine wpAny_bind (wpAny_mono h₃ (fun x s₄ h₄=>wpAny_bind (wpAny_standAt (wpAny_bind (wpAny_of_eq (hs x) (wpAny_bind (wpAny_holding (wpAny_mono h₄ (fun it2 s₅ h₅=>?_) fun _ _ h'=>h'.elim))))))) fun _ _ h'=>h'.elim)
   refine wpAny_bind (wpAny_runOwn (codeAny_mono h₅ fun r s' hr=>?_))
   cases r with
   | ok f=>exact wpAny_pure ⟨rfl,hr⟩
   | error e=>exact hr.elim
theorem tD (h0:codeAny (model prog w) A (.compLoop (two elt t1 i1 f1 t2 i2 f2 sc pos) 1 it acc env) R s)
  (h:wpAny (model prog w) A (pyIter it) (fun it' s'=>codeAny (model prog w) A (.compLoop (two elt t1 i1 f1 t2 i2 f2 sc pos) 1 it' acc env) R s')
   (notedBy (model prog w) A env fun x s'=>R (.error x) s') s) :
  codeAny (model prog w) A (.compStart (two elt t1 i1 f1 t2 i2 f2 sc pos) 1 it acc env) R s:=by
 refine codeAny_of_tree ?_
 show wpAny _ _ ((compStart (two elt t1 i1 f1 t2 i2 f2 sc pos) 1 it acc env).onRaise (fun x=>do noteFrame x env;standAt theWindowsPlace)) _ _ s
 refine wpAny_notedAt ?_
 unfold compStart
 show wpAny _ _ (ask >>= _) _ _ s
 refine wpAny_bind (wpAny_askSetting (wpAny_ite ?_))
 split
 ·first
   | exact wpAny_bind (wpAny_pure (wpAny_pure (And.intro rfl h0)))
   | exact wpAny_pure (And.intro rfl h0)
 ·first
   | exact wpAny_bind (wpAny_rule (wpAny_bind (wpAny_standAt (wpAny_bind (wpAny_mono h (fun it' s' h'=>wpAny_pure (And.intro rfl h')) fun _ _ x=>x)))))
   | (refine wpAny_bind (wpAny_rule ?_);show wpAny _ _ (standAt i2.pos >>= _) _ _ s;exact wpAny_bind (wpAny_standAt (wpAny_bind (wpAny_mono h (fun it' s' h'=>wpAny_pure (And.intro rfl h')) fun _ _ x=>x))))
end
abbrev lo (its:List Value)(n:Nat):Obj:={ cls:=.type "list", data:=.seq its.toArray n }
theorem nt {Y:Cx}{D:Addr}{its:List Value}{n:Nat}{pl:List (Addr×Obj)}{σ:St}{H:Hp}{s:Shared}{y:Value}{E:Value→Shared→Prop}(I:Inv Y ((D,lo its n)::pl) σ H s)(h1:D∈Y.ex∨Y.s₀.heap.objs.size≤D)(h2:∀p∈Y.pn++pl,p.1≠D)(hz:its.length≤sizeLine)
  {Q:Shared→Prop} (q:∀s' n',Inv Y ((D,lo (its++[y]) n')::pl) σ H s'→(∀b o,b≠D→s.heap.get? b=some o→s'.heap.get? b=some o)→Q s'):wpAny (model Y.prog Y.w) Y.A (call (.builtin "list.append") [.ref D,y]) (fun _ s'=>Q s') E s:=by
 obtain⟨pD,nD,dL,dF,dC⟩:=I.pin (D,lo its n) (by simp)
 refine call_meets F.slot_list_append ⟨_,pD,rfl⟩ F.entry_list_append (F.args_list_append_2 _ _) (PySem.list_append D its.toArray n y (by rw[xet];exact hz)) ⟨pD,?_⟩
 have q0:=PySem.IsL.update pD (fun x=>x.push y)
 obtain⟨n',q'⟩:∃n',(s.heap.update D (Obj.mapSeq fun x=>x.push y)).get? D=some (lo (its++[y]) n'):=⟨_,by
  rw[show(lo (its++[y]) _)=({ cls:=.type "list", data:=.seq (its.toArray.push y) _ }:Obj) by simp[lo];rfl];exact q0⟩
 have kp:∀b o,b≠D→s.heap.get? b=some o→(s.heap.update D (Obj.mapSeq fun x=>x.push y)).get? b=some o:=fun b o hb e=>(Heap.get?_update_other s.heap _ (Ne.symm hb)).trans e
 have I10:Inv Y pl σ H s:=I.pins_of fun p hp=>I.pin p (by simp only[xd_,xec];exact .inr (.inr hp))
 have I11:Inv Y pl σ H { s with heap:=s.heap.update D (Obj.mapSeq fun x=>x.push y),toks:=s.toks } :=
  I10.turned (it:=D) (t':=s.toks) kp nD dL h1 (fun x c e z=>by
   obtain⟨v,o,ho,hd⟩:=I10.cell x c e
   rw[z,pD] at ho
   cases ho
   cases hd) h2
 refine q _ n' (I11.pins_of fun p hp=>?_) kp
 rcases xec.mp hp with rfl | hp
 ·exact⟨q',nD,dL,dF,fun v=>by simp⟩
 ·exact I11.pin p (xeb _ hp)
def tIn (wi:TI)(tid:List (Option Nat))(g:TG)(tc:TT)(te:TE)(Z:List V→Hp→Prop)(ys:List V)(σ:St)(H:Hp):Prop:=wi σ H fun J H1 =>
 ∃W:Nat→Nat→List V→Hp→Prop,(∃m,W 0 m ys H1)∧∀i m ys' H',W i m ys' H' →
  (J.stop i H'∧Z ys' H') ∨
  (J.go i H'∧ys'.length<sizeLine∧∀x H2,J.yld i H' x H2→g x (vC tid σ) H2 fun σ3 H3=>tc σ3 H3 fun b H4=>if b=true then te σ3 H4 fun y H5=>∃m',m' < m∧W (i+1) m' (ys'++[y]) H5 else ∃m',m' < m∧W (i+1) m' ys' H4)
def pB (tau tid:List (Option Nat)):Bool:=decide (tid.length=tau.length)&&((List.range tid.length).all fun j=>match tid.getD j none with | some j'=>decide (j'=j) | none=>true)&&((List.range tau.length).all fun j=>match tau.getD j none with | some _=>decide (tid.getD j none=some j) | none=>true)
structure tm (tau tid:List (Option Nat)):Prop where
 len:tid.length=tau.length
 id:∀j j':Nat,tid[j]? = some (some j')→j'=j
 out:∀j j':Nat,tau[j]? = some (some j')→tid[j]? = some (some j)
theorem xan {tau tid:List (Option Nat)}(h:pB tau tid=true):tm tau tid:=by
 unfold pB at h
 simp only[xdc,xeR,xdw,xek] at h
 obtain⟨⟨a,b⟩,c⟩:=h
 refine⟨a,fun j j' e=>?_,fun j j' e=>?_⟩
 ·have:=b j (xdQ.mp e).1
  rw[xdM,e] at this
  exact xeU this
 ·have l:=(xdQ.mp e).1
  have:=c j l
  rw[xdM,e] at this
  have:=xeU this
  rw[xdM,xdO (by omega)] at this
  rw[xdO (by omega)]
  exact xeO some this
theorem tm.agree {tau tid:List (Option Nat)}(h:tm tau tid){σ:St}(l:σ.length=tau.length):Agree tau σ (vC tid σ):=fun i j e=>by
 have a:=h.out i j e
 unfold vC
 rw[xdR,a]
 have:=(xdQ.mp e).1
 rw[Option.map_some,xdO (show i<σ.length by omega)]
 simp only[xdO (show i<σ.length by omega),xeM]
theorem Agree.trans {tau:List (Option Nat)}{a b c:St}(h:Agree tau a b)(h':Agree tau b c):Agree tau a c:=fun i j e=>(h' i j e).trans (h i j e)
theorem rX {Y:Cx}{elt t1 i1 t2 i2:Expr}{f1 f2:List Expr}{sc:Scope}{pos:Pos}{wi:TI}{g:TG}{tc:TT}{te:TE}{tau tid:List (Option Nat)}(hid:tm tau tid)(hl:Y.N.length=tau.length)(hc:Y.calm=true)(hx:Y.xe=fun _ _=>False){D:Addr}{pl:List (Addr×Obj)}(hi:PI Y t2 i2 wi)(hg:PG Y t2 g)(ht:PIf Y f2 tc)(he:PE Y elt te)(hga:GA tid g)
  {its:List Value} {n:Nat} {ys:List V} {σ:St} {H:Hp} {s:Shared} (I:Inv Y ((D,lo its n)::pl) σ H s) (rv:yy ys its) (hz:ys.length≤sizeLine) (h1:D∈Y.ex∨Y.s₀.heap.objs.size≤D) (h2:∀p∈Y.pn++pl,p.1≠D) {Z:List V→Hp→Prop} (h:tIn wi tid g tc te Z ys σ H) {R:Shared→Prop}
  (fin:∀ σ' H' s' ys' its' n',Inv Y ((D,lo its' n')::pl) σ' H' s'→yy ys' its'→ys'.length≤sizeLine→Agree tau σ σ'→Z ys' H'→R s') :
  wpAny (model Y.prog Y.w) Y.A (eval i2 Y.env) (fun x s₄=>wpAny (model Y.prog Y.w) Y.A (pyIter x) (fun it2 s₅ =>
   codeAny (model Y.prog Y.w) Y.A (.compStart (two elt t1 i1 f1 t2 i2 f2 sc pos) 1 it2 (.ref D) Y.env) (fun r s'=>match r with | .ok _=>R s' | .error _=>False) s₅) (fun _ _=>False) s₄) (fun _ _=>False) s:=by
 have il:(vC tid σ).length=σ.length:=by unfold vC;rw[xdZ,hid.len,I.len,hl]
 have go:=@hi ((D,lo its n)::pl) s σ H _ I h
 rw[hx] at go
 refine thn go fun v s1 h1'=>thn h1' fun itv s2 h2'=>?_
 obtain⟨it,fp,tn,J,H2,e,I2,T,st2,fo,W,⟨m0,w0⟩,turn⟩:=h2'
 subst e
 have fD:∀b∈fp,b≠D:=fun b hb=>Ne.symm ((fo b hb).2.2.2.2.2 (D,lo its n) (by simp))
 have stat:∀ {H':Hp} {its':List Value} {n':Nat},(∀b∈fp,H' b=none)→∀b∈fp,jQ Y ((D,lo its' n')::pl) H' b:=fun {H' its' n'} hn b hb=>by
  obtain⟨_,a1,a2,a3,a4,a5⟩:=fo b hb
  refine⟨hn b hb,a1,a2,a3,a4,fun p hp=>?_⟩
  rcases xd_.mp hp with hp | hp
  ·exact a5 p (xea _ hp)
  ·rcases xec.mp hp with rfl | hp
   ·exact Ne.symm (fD b hb)
   ·exact a5 p (xeb _ (xed _ hp))
 have loop:codeAny (model Y.prog Y.w) Y.A (.compLoop (two elt t1 i1 f1 t2 i2 f2 sc pos) 1 (.ref it) (.ref D) Y.env) (fun r s'=>match r with | .ok _=>R s' | .error _=>False) s2:=by
  refine bE (fun m s'=>∃i ys' H' its' n',Inv Y ((D,lo its' n')::pl) (vC tid σ) H' s'∧yy ys' its'∧ys'.length≤sizeLine∧tn i s'.heap∧(∀b∈fp,H' b=none)∧W i m ys' H') ?_ m0
   ⟨0,ys,H2,its,n,I2.weak il fun j v e=>?_,rv,hz,st2,fun b hb=>(fo b hb).1,w0⟩
  rotate_left
  ·obtain⟨j',t1,e'⟩:=uq e
   rw[hid.id j j' t1] at e';exact e'
  rintro m s3 ⟨i,ys3,H3,its3,n3,I3,rv3,hz3,st3,fr3,w3⟩
  rcases turn i m ys3 H3 w3 with ⟨stop,z⟩ | ⟨go,hlt,step⟩
  ·refine wpAny_mono (T.done Y rfl rfl rfl hc i _ s3 _ H3 (fun _ _=>False) I3 (stat fr3) st3 stop) (fun r s4 ⟨hr,I4⟩=>?_) fun _ _ f=>f.elim
   subst hr
   exact fin _ _ _ _ _ _ I4 rv3 hz3 (hid.agree (I.len.trans hl)) z
  ·refine wpAny_mono (T.item Y rfl rfl rfl hc i _ s3 _ H3 (fun _ _=>False) I3 (stat fr3) st3 go) (fun r s4 ⟨u,hr,h4⟩=>?_) fun _ _ f=>f.elim
   subst hr
   refine wpAny_mono h4 (fun _ s5 ⟨x,H5,I5,r5,y5,st5,fr5⟩=>?_) fun _ _ f=>f.elim
   have I5':=I5.pinned (stat fr5) (T.obj _ _ st5)
   have g5:=hg _ s5 _ H5 x u _ I5' r5 (hga _ _ _ _ (step x H5 y5))
   rw[hx] at g5
   refine wpAny_mono g5 (fun _ s6 ⟨σ6,H6,I6,q6,ag⟩=>?_) fun _ _ f=>f.elim
   have t6:=ht _ s6 σ6 H6 _ I6 q6
   rw[hx] at t6
   refine wpAny_mono t6 (fun b s7 ⟨H7,I7,q7⟩=>?_) fun _ _ f=>f.elim
   have back:∀ {H8:Hp} {s8:Shared} {its8:List Value} {n8:Nat},Inv Y ((D,lo its8 n8)::(pl++wm fp s5.heap)) σ6 H8 s8→Inv Y ((D,lo its8 n8)::pl) (vC tid σ) H8 s8∧tn (i+1) s8.heap∧∀b∈fp,H8 b=none:=fun {H8 s8 its8 n8} I8=>by
    have I8':Inv Y (((D,lo its8 n8)::pl)++wm fp s5.heap) σ6 H8 s8:=I8
    refine⟨I8'.unpinned.weak (il.trans (I.len.trans I8.len.symm)) fun j v e=>by obtain⟨j',t1,_⟩:=uq e;rw[ag j j' t1];exact e,T.keep _ _ _ st5 fun b hb o e=>(I8'.pin (b,o) (xeb _ (xeb _ (yF hb e)))).1,fun b hb=>?_⟩
    obtain⟨o,e,d⟩:=T.obj _ _ st5 b hb
    exact(I8'.pin (b,o) (xeb _ (xeb _ (yF hb e)))).2.1
   cases b with
   | false =>
    obtain⟨m',hm,w7⟩:=q7
    obtain⟨I8,st8,fr8⟩:=back I7
    rw[if_neg xdd]
    exact⟨m',hm,i+1,ys3,H7,its3,n3,I8,rv3,hz3,st8,fr8,w7⟩
   | true =>
    rw[if_pos rfl]
    have e7:=@he _ s7 σ6 H7 _ I7 q7
    rw[hx] at e7
    refine wpAny_mono e7 (fun y s8 ⟨yv,H8,I8,r8,m',hm,w8⟩=>?_) fun _ _ f=>f.elim
    refine nt (pl:=pl++wm fp s5.heap) I8 h1 (fun p hp=>?_) (by rw[←rv3.length];exact hz3) fun s9 n9 I9 _=>?_
    ·rw[←xdy] at hp
     rcases xd_.mp hp with hp | hp
     ·exact h2 p hp
     ·exact fD _ (qe hp).1
    ·obtain⟨I10,st10,fr10⟩:=back I9
     exact⟨m',hm,i+1,ys3++[yv],H8,its3++[y],n9,I10,rv3.append (.cons r8 .nil),by rw[xdU,xd3];exact hlt,st10,fr10,w8⟩
 exact tD loop (T.self _ 0 _ _ _ st2 loop)
def pY (wi:TI)(tau:List (Option Nat))(g:TG)(tc:TT)(wi2:TI)(tid:List (Option Nat))(g2:TG)(tc2:TT)(te:TE):TE:=fun σ H Q=>wi σ H fun J H1 =>
 ∃W:Nat→Nat→List V→Hp→Prop,(∃m,W 0 m [] H1)∧∀i m ys H,W i m ys H →
  (J.stop i H∧∀p,H p=none→Q (.ref p) (upd H p (.lst ys))) ∨
  (J.go i H∧∀x H',J.yld i H x H'→g x (vC tau σ) H' fun σ2 H2=>tc σ2 H2 fun b H3=>if b=true then tIn wi2 tid g2 tc2 te (fun ys' H4=>∃m',m' < m∧W (i+1) m' ys' H4) ys σ2 H3 else ∃m',m' < m∧W (i+1) m' ys H3)
section
variable {X:Cx} {sc:Scope} {N:List Str} {tau tid:List (Option Nat)} {pins:List (Addr×Obj)} {σ:St} {H:Hp} {s:Shared}
theorem sN {elt tg iter tg2 iter2:Expr}{ifs ifs2:List Expr}{g g2:TG}{tc tc2:TT}{wi2:TI}{te:TE}{pos:Pos}(k:uB X sc N tau)(hc:X.calm=true)(I:Inv X pins σ H s){it:Addr}{fp:List Addr}{tn:Nat→Heap→Prop}{J:It}
  (T:Turn X.prog X.w X.K tg J fp it tn) (st0:tn 0 s.heap) (hf:∀b∈fp,jQ X pins H b) (hga:GA tau g) (hid:tm tau tid) (hga2:GA tid g2)
  (hg:∀C s H ex,PG (xP X sc N C s H ex) tg g) (ht:∀C s H ex,PIf (xP X sc N C s H ex) ifs tc) (hi2:∀C s H ex,PI (xP X sc N C s H ex) tg2 iter2 wi2) (hg2:∀C s H ex,PG (xP X sc N C s H ex) tg2 g2) (ht2:∀C s H ex,PIf (xP X sc N C s H ex) ifs2 tc2) (he:∀C s H ex,PE (xP X sc N C s H ex) elt te)
  (hs2:∀C x,foldedSetIterable iter2 (compEnvC sc (qV X.env sc.names []) C X.env) x=pure x)
  {W:Nat→Nat→List V→Hp→Prop} {Z:List V→Hp→Prop} (w0:∃m,W 0 m [] H) (turn:∀i m ys H,W i m ys H →
   (J.stop i H∧Z ys H) ∨
   (J.go i H∧∀x H',J.yld i H x H'→g x (vC tau σ) H' fun σ2 H2=>tc σ2 H2 fun b H3=>if b=true then tIn wi2 tid g2 tc2 te (fun ys' H4=>∃m',m' < m∧W (i+1) m' ys' H4) ys σ2 H3 else ∃m',m' < m∧W (i+1) m' ys H3))
  {E:Value→Shared→Prop} {RR:Value→Addr→Result→Shared→Prop}
  (fin:∀ σ' H' s' ys its n,Inv (xP X sc N (s.heap.objs.size+1) s H fp) [(s.heap.objs.size,{ cls:=.type "list", data:=.seq its.toArray n })] σ' H' s'→yy ys its→ys.length≤sizeLine→Z ys H'→RR (.ref s.heap.objs.size) (s.heap.objs.size+1) (.ok .next) s') :
  wpAny (model X.prog X.w) X.A (newList []) (fun acc s₃=>wpAny (model X.prog X.w) X.A (newFunctionEnv sc X.env.globals (qV X.env sc.names []) [] X.env.qual none .none (some X.env)) (fun cenv s₄ =>
   codeAny (model X.prog X.w) X.A (.compStart (two elt tg iter ifs tg2 iter2 ifs2 sc pos) 0 (.ref it) acc { cenv with scope:=relabel sc X.env }) (RR acc cenv.locals) s₄) E s₃) E s:=by
 have hob:∀b∈fp,∃o,s.heap.get? b=some o:=fun b hb=>let ⟨o,e,_⟩:=T.obj _ _ st0 b hb;⟨o,e⟩
 refine wpAny_newObj_type (wpAny_newFunctionEnv k.nocell (by intro y hy;simp at hy) (fun h₁ hns₁ hsb₁=>?_) k.kind)
 dsimp only at hns₁ hsb₁ ⊢
 generalize hH2:s.heap.push { cls:=.type "list", dict:=none,data:=.seq ([]:List Value).toArray }=H2 at hns₁ hsb₁ ⊢
 have hC:H2.objs.size=s.heap.objs.size+1:=by rw[←hH2,Heap.size_push]
 have old:∀b o,s.heap.get? b=some o→h₁.get? b=some o:=fun b o e=>hsb₁.extBut b o (by rw[hC];exact xeJ (xeG (Heap.lt_size e))) (Heap.get?_push_of_some _ (hH2▸Heap.get?_push_of_some _ e))
 have hacc:h₁.get? s.heap.objs.size=some { cls:=.type "list", data:=.seq #[] 0 }:=hsb₁.extBut _ _ (by rw[hC];exact xeJ (xeH _)) (Heap.get?_push_of_some _ (hH2▸Heap.get?_push_size _ rfl))
 rw[hC] at hns₁ ⊢
 have I1:Inv (xP X sc N (s.heap.objs.size+1) s H fp) [(s.heap.objs.size,{ cls:=.type "list", data:=.seq #[] 0 })] (vC tau σ) H { s with heap:=h₁,toks:=s.toks+([]:List (Str×Value)).length } :=
  aO k I hf hob old hns₁ hacc
 have st1:tn 0 h₁:=T.keep _ _ _ st0 fun b _ o e=>old b o e
 have ltD:∀b∈fp,b≠s.heap.objs.size:=fun b hb=>by
  obtain⟨o,e⟩:=hob b hb
  exact xeJ (Heap.lt_size e)
 have ltC:∀b∈fp,b≠s.heap.objs.size+1:=fun b hb=>by
  obtain⟨o,e⟩:=hob b hb
  exact xeJ (xeG (Heap.lt_size e))
 have stat:∀ {H':Hp} {its:List Value} {n:Nat},(∀b∈fp,H' b=none)→∀b∈fp,jQ (xP X sc N (s.heap.objs.size+1) s H fp) [(s.heap.objs.size,lo its n)] H' b:=fun {H' its n} hn b hb=>by
  have cx:=sF (N:=N) k I hf hob
  refine⟨hn b hb,ltC b hb,cx.exfs b hb,.inl hb,(cx.exf b hb).2,fun p hp=>?_⟩
  have e:p=(s.heap.objs.size,lo its n):=by simpa [xP] using hp
  subst e
  exact Ne.symm (ltD b hb)
 obtain⟨m0,w0⟩:=w0
 have loop:codeAny (model X.prog X.w) X.A (.compLoop (two elt tg iter ifs tg2 iter2 ifs2 sc pos) 0 (.ref it) (.ref s.heap.objs.size) (compEnvC sc (qV X.env sc.names []) (s.heap.objs.size+1) X.env)) (RR (.ref s.heap.objs.size) (s.heap.objs.size+1)) { s with heap:=h₁,toks:=s.toks+([]:List (Str×Value)).length }:=by
  refine nB (hs2 _) (fun m s'=>∃i ys H' its n,Inv (xP X sc N (s.heap.objs.size+1) s H fp) [(s.heap.objs.size,lo its n)] (vC tau σ) H' s'∧yy ys its∧ys.length≤sizeLine∧tn i s'.heap∧(∀b∈fp,H' b=none)∧W i m ys H') ?_ m0
   ⟨0,[],H,[],0,I1,.nil,xeL _,st1,fun b hb=>(hf b hb).1,w0⟩
  rintro m s3 ⟨i,ys,H3,its,n,I3,rv,hz,st3,fr3,w3⟩
  rcases turn i m ys H3 w3 with ⟨stop,z⟩ | ⟨go,step⟩
  ·refine wpAny_mono (T.done (xP X sc N (s.heap.objs.size+1) s H fp) rfl rfl rfl hc i _ s3 _ H3 (fun _ _=>False) I3 (stat fr3) st3 stop) (fun r s4 ⟨hr,I4⟩=>?_) fun _ _ f=>f.elim
   subst hr
   exact fin _ _ _ _ _ _ I4 rv hz z
  ·refine wpAny_mono (T.item (xP X sc N (s.heap.objs.size+1) s H fp) rfl rfl rfl hc i _ s3 _ H3 (fun _ _=>False) I3 (stat fr3) st3 go) (fun r s4 ⟨u,hr,h4⟩=>?_) fun _ _ f=>f.elim
   subst hr
   refine wpAny_mono h4 (fun _ s5 ⟨x,H5,I5,r5,y5,st5,fr5⟩=>?_) fun _ _ f=>f.elim
   have I5':=I5.pinned (stat fr5) (T.obj _ _ st5)
   refine wpAny_mono (hg _ _ _ _ _ s5 _ H5 x u _ I5' r5 (hga _ _ _ _ (step x H5 y5))) (fun _ s6 ⟨σ6,H6,I6,q6,ag⟩=>?_) fun _ _ f=>f.elim
   refine wpAny_mono (ht _ _ _ _ _ s6 σ6 H6 _ I6 q6) (fun b s7 ⟨H7,I7,q7⟩=>?_) fun _ _ f=>f.elim
   have back:∀ {σ8:St} {H8:Hp} {s8:Shared} {its8:List Value} {n8:Nat},Agree tau (vC tau σ) σ8→Inv (xP X sc N (s.heap.objs.size+1) s H fp) ([(s.heap.objs.size,lo its8 n8)]++wm fp s5.heap) σ8 H8 s8 →
     Inv (xP X sc N (s.heap.objs.size+1) s H fp) [(s.heap.objs.size,lo its8 n8)] (vC tau σ) H8 s8∧tn (i+1) s8.heap∧∀b∈fp,H8 b=none:=fun {σ8 H8 s8 its8 n8} ag I8=>by
    refine⟨I8.unpinned.weak (I1.len.trans I8.len.symm) fun j v e=>?_,T.keep _ _ _ st5 fun b hb o e=>(I8.pin (b,o) (xeb _ (xeb _ (yF hb e)))).1,fun b hb=>?_⟩
    ·obtain⟨j',t1,_⟩:=uq e
     rw[ag j j' t1];exact e
    ·obtain⟨o,e,d⟩:=T.obj _ _ st5 b hb
     exact(I8.pin (b,o) (xeb _ (xeb _ (yF hb e)))).2.1
   cases b with
   | false =>
    obtain⟨m',hm,w7⟩:=q7
    obtain⟨I8,st8,fr8⟩:=back ag I7
    rw[if_neg xdd]
    exact⟨m',hm,i+1,ys,H7,its,n,I8,rv,hz,st8,fr8,w7⟩
   | true =>
    rw[if_pos rfl]
    refine rX (Y:=xP X sc N (s.heap.objs.size+1) s H fp) (D:=s.heap.objs.size) (pl:=wm fp s5.heap) hid k.len.symm hc rfl (hi2 _ _ _ _) (hg2 _ _ _ _) (ht2 _ _ _ _) (he _ _ _ _) hga2 I7 rv hz (.inr (xeA _)) (fun p hp=>?_) q7 fun σ8 H8 s8 ys8 its8 n8 I8 rv8 hz8 ag8 z=>?_
    ·have hp:p∈wm fp s5.heap:=by simpa [xP] using hp
     exact ltD _ (qe hp).1
    ·obtain⟨m',hm,w8⟩:=z
     obtain⟨I9,st9,fr9⟩:=back (ag.trans ag8) I8
     exact⟨m',hm,i+1,ys8,H8,its8,n8,I9,rv8,hz8,st9,fr9,w8⟩
 exact codeAny_compStart_list loop (T.self _ 0 _ _ _ st1 loop)
theorem sU {elt tg iter tg2 iter2:Expr}{ifs ifs2:List Expr}{wi wi2:TI}{g g2:TG}{tc tc2:TT}{te:TE}{pos spos py:Pos}{i:Nat}{x:Str}(hN:X.N.Nodup)(hi':X.N[i]? = some x)(hx:Loc X.env.scope x)(k:uB X sc N tau)(hc:X.calm=true)(hga:GA tau g)(hid:tm tau tid)(hga2:GA tid g2)(hi:PI X tg iter wi)
  (hg:∀C s H ex,PG (xP X sc N C s H ex) tg g) (ht:∀C s H ex,PIf (xP X sc N C s H ex) ifs tc) (hi2:∀C s H ex,PI (xP X sc N C s H ex) tg2 iter2 wi2) (hg2:∀C s H ex,PG (xP X sc N C s H ex) tg2 g2) (ht2:∀C s H ex,PIf (xP X sc N C s H ex) ifs2 tc2) (he:∀C s H ex,PE (xP X sc N C s H ex) elt te)
  (hsw:swapsWith (two elt tg iter ifs tg2 iter2 ifs2 sc pos) (some (.Name x py)) spos.line X.env=pure true:=by rfl)
  (hs:∀x,foldedSetIterable iter X.env x=pure x:=by intro _;rfl) (hs2:∀C x,foldedSetIterable iter2 (compEnvC sc (qV X.env sc.names []) C X.env) x=pure x:=by intro _ _;rfl) (hf:X.fn x=true∨X.env.scope.names.lookup x=some .local:=by first | exact .inl rfl | exact .inr rfl | assumption) :
  PS X (.Assign [.Name x py] (two elt tg iter ifs tg2 iter2 ifs2 sc pos) spos) (oA (pY wi tau g tc wi2 tid g2 tc2 te) (jN i)):=by
 intro pins s σ H D I h
 rw[exec_Assign_Name_used _ _ _ _ hsw]
 refine wpAny_bind (wpAny_standAt (wpAny_bind ?_))
 show wpAny _ X.A (do let _ ←comprehension (two elt tg iter ifs tg2 iter2 ifs2 sc pos) sc X.env _ (newList []) false (eval iter X.env) (some (assign (.Name x py) X.env))) _ _ s
 refine wpAny_bind (wpAny_mono (wpAny_comprehension_free (use:=some (assign (.Name x py) X.env)) (Q:=fun _ s'=>SP X pins D .next s') rfl hs (dZ (k.cells I.ok)) k.kind k.loc ?_) (fun _ s' q=>wpAny_pure (wpAny_pure q)) fun _ _ e=>e)
 refine thn (@hi pins s σ H _ I h) fun v s1 h1=>thn h1 fun itv s2 h2=>?_
 obtain⟨it,fp,tn,J,H2,e,I2,T,st2,f2,W,w0,turn⟩:=h2
 subst e
 refine sN (RR:=fun acc C=>compPost (model X.prog X.w) X.A X.xe (some (assign (.Name x py) X.env)) (fun _ s'=>SP X pins D .next s') acc C) (W:=W) (Z:=fun ys H'=>∀p,H' p=none→D.nx (σ.set i (some (.ref p))) (upd H' p (.lst ys))) k hc I2 T st2 f2 hga hid hga2 hg ht hi2 hg2 ht2 he hs2 w0 turn ?_
 intro σ' H' s' ys its n J' rv hz z
 obtain⟨I',hD,hC⟩:=a_ k I2 f2 J' rv hz
 obtain⟨m,hn,_⟩:=J'.loc
 have hn:s'.heap.Ns (s2.heap.objs.size+1) m:=hn
 refine wpAny_assign_Name (fQ (v:=.ref s2.heap.objs.size) I' hN hi' hx rfl (fun s'' I'' ⟨a,sb,ha⟩=>?_) hf)
 refine⟨m,hn.sameBut sb ?_,fun h' hs'=>⟨_,_,jG I2 I'' hC hs',z _ hD⟩⟩
 rcases ha with ha | ha
 ·rw[ha];exact xeI (xeG I2.lt)
 ·obtain⟨v,o,ho,_⟩:=I2.cell x a ha
  exact xeI (xeG (Heap.lt_size ho))
end
end L2
namespace L2
open PySem PySem.Spec PyProof.Rows
def mI (dg:DG)(dc:DT)(di:DI)(tid:List (Option Nat))(dg2:DG)(dc2:DT)(de:DE)(τi:TSt)(KK:List Tr→Prop):List Tr→List Tr→Prop
 | [],acc=>KK acc
 | x::xs,acc=>dg x τi fun τ2=>dc τ2 fun b=>if b=true then di τ2 fun ys=>acc.length+ys.length<sizeLine∧sY dg2 dc2 de (vT tid τ2) (fun acc'=>mI dg dc di tid dg2 dc2 de τi KK xs acc') ys acc else mI dg dc di tid dg2 dc2 de τi KK xs acc
def xax (tau:List (Option Nat))(di:DI)(dg:DG)(dc:DT)(di2:DI)(tid:List (Option Nat))(dg2:DG)(dc2:DT)(de:DE):DE:=fun τ KK=>di τ fun xs=>mI dg dc di2 tid dg2 dc2 de (vT tau τ) (fun ys=>KK (.lst ys)) xs []
section
variable {K:PySem.W.Frag} {B:FB} {φ:Phi} {σ:St} {τ:TSt} {H H' H'':Hp} {fr:Bool}
theorem aD {tau:List (Option Nat)}{i:Nat}{a:Addr}(z:dW tau φ τ i=some a):Av B φ a:=by
 unfold dW at z
 split at z
 ·split at z
  ·exact .inr ⟨_,z⟩
  ·cases z
 ·cases z
theorem aU {φ3:Phi}{σ3:St}{τ3:TSt}{H2:Hp}(R3:RS K (B.inner φ τ H2) φ3 σ3 τ3 H2):∀a,SA (B.inner φ τ H2) φ3 τ3 a→SA B φ τ a:=fun a z=>by
 rcases z with z | ⟨j,z,hj⟩
 ·exact z
 ·have en:=R3.ent j
  rw[hj] at en
  obtain⟨p,e1,e2,e3⟩:=en
  rw[z] at e2;cases e2
  rcases e3 with e3 | e3
  ·exact e3
  ·exact absurd e3 (R3.sst a (.inr ⟨j,z,hj⟩)).ne_none
theorem kK {φ3:Phi}{τ3:TSt}{H2 H3 H4:Hp}(hsa:∀a,SA (B.inner φ τ H2) φ3 τ3 a→SA B φ τ a)(h:HX (B.inner φ τ H2) φ3 τ3 H3 H4):HX B φ τ H3 H4:=⟨fun a o e n=>h.keep a o e fun z=>n (hsa a z),fun a z=>h.st a (.inl z)⟩
theorem aS {ts:List Tr}{i:Nat}{t:Tr}(hlt:i<ts.length)(ht:ts[i]? = some t):ts.drop i=t::ts.drop (i+1):=by
 rw[xdB hlt]
 rw[xdO hlt] at ht
 cases ht;rfl
theorem xbS {wi:TI}{tid:List (Option Nat)}{g:TG}{tc:TT}{te:TE}{di:DI}{dg:DG}{dc:DT}{de:DE}{b:Bool}(hi:OkI K true wi di)(hg:OkN K g dg)(hc:OkT K tc dc)(he:OkE K b te de){F:Addr→Prop}(R:RS K B φ σ τ H)(hF:∀a,F a→B.F0 a)(hS:∀a,SA B φ τ a→F a){Z:List V→Hp→Prop}{KZ:List Tr→Prop}{acc:List Tr}{ys:List V}(ra:yQ F H acc ys)(hd:di τ fun xs=>acc.length+xs.length<sizeLine∧sY dg dc de (vT tid τ) KZ xs acc)
  (fin:∀acc' ys' H',HX B φ τ H H'→yQ F H' acc' ys'→KZ acc'→Z ys' H'):tIn wi tid g tc te Z ys σ H :=
 hi.c B φ σ τ H _ _ R hd fun J ts Src H1 x1 k1 it s1=>by
  refine⟨fun i m ys' H'=>m=ts.length-i∧i≤ts.length∧ys'.length≤acc.length+i∧HX B φ τ H H'∧Src H'∧∃acc',yQ F H' acc' ys'∧sY dg dc de (vT tid τ) KZ (ts.drop i) acc',⟨_,rfl,xeL _,by rw[←ra.len];omega,x1,s1,acc,x1.repL hS ra,k1.2⟩,?_⟩
  rintro i m ys' H' ⟨rfl,hle,hys,x,s,acc',ra',f⟩
  have R':=R.hx x
  by_cases hlt:i<ts.length
  ·refine .inr ⟨it.go i H' s hlt,by have:=k1.1;omega,fun v H2 y=>?_⟩
   obtain⟨gr,t,ht,rt⟩:=it.yld i H' v H2 s (fun a z=>R'.dom z) hlt y
   have hx:=gr.hx R'
   have R2:=R'.hx hx
   rw[aS hlt ht] at f
   refine hg (B.inner φ τ H2) _ _ _ H2 (Av B φ) t v _ _ R2.inner (fun a z=>z.elim id fun⟨j,z⟩=>aD z) rt f fun φ3 σ3 τ3 R3 ha k3=>?_
   have hsa:=aU R3
   refine hc _ φ3 σ3 τ3 H2 _ _ R3 k3 fun c H3 x3 k4=>?_
   have x23:=kK hsa x3
   have s3:=it.stab _ _ (it.stab _ _ s fun a o e n=>hx.keep a o e n) fun a o e n=>x23.keep a o e n
   cases c with
   | false =>
    refine sR ⟨_,by omega,rfl,hlt,by omega,(x.trans hx).trans x23,s3,acc',(hx.trans x23).repL hS ra',?_⟩
    simpa using k4
   | true =>
    refine tO (he _ φ3 σ3 τ3 H3 _ _ (R3.hx x3) k4 fun u w H4 x4 k5 r5=>?_)
    have x34:=kK hsa x4
    refine⟨_,by omega,rfl,hlt,by rw[xdU,xd3];omega,((x.trans hx).trans x23).trans x34,it.stab _ _ s3 fun a o e n=>x34.keep a o e n,acc'++[u],(((hx.trans x23).trans x34).repL hS ra').app (show yQ _ _ [u] [w] from⟨w,[],rfl,?_,rfl⟩),k5⟩
    refine xZ (fun a o e n=>⟨e,fun z=>n ?_⟩) _ _ r5
    cases b with
    | true=>exact .inl (.inl (hF a z))
    | false=>exact .inl (.inl (hF a z))
  ·have ei:i=ts.length:=by omega
   subst ei
   rw[xdC] at f
   exact .inl ⟨it.stop H' s,fin acc' ys' H' x ra' f⟩
theorem nL {wi wi2:TI}{tau tid:List (Option Nat)}{g g2:TG}{tc tc2:TT}{te:TE}{di di2:DI}{dg dg2:DG}{dc dc2:DT}{de:DE}{b:Bool}(hi:xaI K wi di)(hg:OkN K g dg)(hc:OkT K tc dc)(hi2:OkI K true wi2 di2)(hg2:OkN K g2 dg2)(hc2:OkT K tc2 dc2)(he:OkE K b te de) :
  OkF K (pY wi tau g tc wi2 tid g2 tc2 te) (xax tau di dg dc di2 tid dg2 dc2 de):=fun B φ σ τ H Q KK R hd q =>
 hi B φ σ τ H _ _ R hd fun J ts Src H1 x1 k1 it s1=>by
  refine⟨fun i m ys H'=>m=ts.length-i∧i≤ts.length∧HX B φ τ H H'∧Src H'∧∃acc,yQ (Av B φ) H' acc ys∧mI dg dc di2 tid dg2 dc2 de (vT tau τ) (fun ys=>KK (.lst ys)) (ts.drop i) acc,⟨_,rfl,xeL _,x1,s1,[],rfl,k1⟩,?_⟩
  rintro i m ys H' ⟨rfl,hle,x,s,acc,ra,f⟩
  have R':=R.hx x
  by_cases hlt:i<ts.length
  ·refine .inr ⟨it.go i H' s hlt,fun v H2 y=>?_⟩
   obtain⟨gr,t,ht,rt⟩:=it.yld i H' v H2 s (fun a z=>R'.dom z) hlt y
   have hx:=gr.hx R'
   have R2:=R'.hx hx
   rw[aS hlt ht] at f
   refine hg (B.inner φ τ H2) _ _ _ H2 (Av B φ) t v _ _ R2.inner (fun a z=>z.elim id fun⟨j,z⟩=>aD z) rt f fun φ3 σ3 τ3 R3 ha k3=>?_
   have hsa:=aU R3
   refine hc _ φ3 σ3 τ3 H2 _ _ R3 k3 fun c H3 x3 k4=>?_
   have x23:=kK hsa x3
   have s3:=it.stab _ _ (it.stab _ _ s fun a o e n=>hx.keep a o e n) fun a o e n=>x23.keep a o e n
   cases c with
   | false =>
    refine sR ⟨_,by omega,rfl,hlt,(x.trans hx).trans x23,s3,acc,(hx.trans x23).repL (fun a z=>R.sAv z) ra,?_⟩
    simpa using k4
   | true =>
    refine tO (xbS hi2 hg2 hc2 he (R3.hx x3) (F:=Av B φ) (fun a z=>z) (fun a z=>R.sAv (hsa a z)) ((hx.trans x23).repL (fun a z=>R.sAv z) ra) k4 fun acc' ys' H4 x4 ra4 k5=>?_)
    have x34:=kK hsa x4
    exact⟨_,by omega,rfl,hlt,((x.trans hx).trans x23).trans x34,it.stab _ _ s3 fun a o e n=>x34.keep a o e n,acc',ra4,k5⟩
  ·have ei:i=ts.length:=by omega
   subst ei
   rw[xdC] at f
   refine .inl ⟨it.stop H' s,fun p hp=>q acc p ys _ (x.trans (HX.new R' hp _)) f (x.none hp) xM (vt hp ra)⟩
end
theorem fA {dg dg2:DG}{dc dc2:DT}{di:DI}{tid:List (Option Nat)}{de:DE}{τi:TSt}{KK:List Tr→Prop}(G:Nat→List Tr→Prop):∀(xs:List Tr) (i:Nat) (acc:List Tr),(∀j x acc,xs[j]? = some x→G (i+j) acc→∀N:List Tr→Prop,(∀acc',G (i+j+1) acc'→N acc')→dg x τi fun τ2=>dc τ2 fun b=>if b=true then di τ2 fun ys=>acc.length+ys.length<sizeLine∧sY dg2 dc2 de (vT tid τ2) N ys acc else N acc)→G i acc→(∀acc,G (i+xs.length) acc→KK acc)→mI dg dc di tid dg2 dc2 de τi KK xs acc
 | [],i,acc,_,g,k=>k acc g
 | x::xs,i,acc,h,g,k=>h 0 x acc rfl g _ fun acc' g'=>fA G xs (i+1) acc' (fun j y a e g N hN=>h (j+1) y a (by simpa using e) (by rw[show i+(j+1)=i+1+j by omega];exact g) N fun a' g'=>hN a' (by rw[show i+1+j+1=i+(j+1)+1 by omega];exact g')) g' fun a g=>k a (by rw[xdV,show i+(xs.length+1)=i+1+xs.length by omega];exact g)
theorem fi {dg:DG}{de:DE}{τi:TSt}{KK:List Tr→Prop}(g:Tr→Tr):∀(xs acc:List Tr),(∀x∈xs,∀N:Tr→Prop,N (g x)→dg x τi fun τ2=>de τ2 N)→KK (acc++xs.map g)→sY dg mG de τi KK xs acc
 | [],acc,_,k=>by rw[xd9,xdz] at k;exact k
 | x::xs,acc,h,k=>h x xee (fun y=>sY dg mG de τi KK xs (acc++[y])) (fi g xs (acc++[g x]) (fun y hy=>h y (xed _ hy)) (by rw[xdy];exact k))
end L2
namespace L2
open PySem PySem.Spec PyProof.Rows
theorem yi:∀(names:List (Str×NameKind)) (n:Nat) (acc:List (Str×Addr)),cellsFrom n names acc=cellsFrom n names []++acc
 | [],n,acc=>rfl
 | (x,k)::r,n,acc=>by
  unfold cellsFrom
  split
  ·rw[yi r (n+1) ((x,n)::acc),yi r (n+1) [(x,n)],xdy];rfl
  ·exact yi r n acc
theorem zV {α:Type}:∀(l k:List (Str×α)) (x:Str),(l++k).lookup x=(l.lookup x).or (k.lookup x)
 | [],k,x=>rfl
 | (y,v)::l,k,x=>by
  rw[xdA,xd5,xd5]
  cases h:x == y with
  | true=>rfl
  | false=>exact zV l k x
theorem zR:∀(names:List (Str×NameKind)) (n:Nat) {x:Str} {c:Addr},(x,c)∈cellsFrom n names []→(x,NameKind.cell)∈names∧n≤c
 | [],n,x,c,h=>by simp[cellsFrom] at h
 | (y,k)::r,n,x,c,h=>by
  unfold cellsFrom at h
  split at h
  ·rename_i hk
   have hk:k=.cell:=by simpa using hk
   rw[yi] at h
   rcases xd_.mp h with h | h
   ·obtain⟨a,b⟩:=zR r (n+1) h
    exact⟨xed _ a,by omega⟩
   ·have e:=xel.mp h
    cases e
    exact⟨by rw[hk];exact xee,xeA _⟩
  ·obtain⟨a,b⟩:=zR r n h
   exact⟨xed _ a,b⟩
theorem zO:∀(names:List (Str×NameKind)) (n:Nat) {x:Str},(x,NameKind.cell)∈names→∃c,(cellsFrom n names []).lookup x=some c
 | [],n,x,h=>by simp at h
 | (y,k)::r,n,x,h=>by
  unfold cellsFrom
  rcases xec.mp h with e | h
  ·injection e with e1 e2
   subst e1 e2
   rw[if_pos (show(NameKind.cell == NameKind.cell)=true from rfl),yi,zV]
   cases q:(cellsFrom (n+1) r []).lookup x with
   | some c=>exact⟨c,rfl⟩
   | none=>exact⟨n,by simp⟩
  ·split
   ·rw[yi,zV]
    obtain⟨c,hc⟩:=zO r (n+1) h
    exact⟨c,by rw[hc];rfl⟩
   ·exact zO r n h
theorem jH (g:Str→NameKind→NameKind):∀(l:List (Str×NameKind)) (x:Str),(l.map fun y=>(y.1,g y.1 y.2)).lookup x=(l.lookup x).map (g x)
 | [],x=>rfl
 | (n,k)::l,x=>by
  rw[xd7,xd5,xd5]
  cases h:x == n with
  | true =>
   have e:x=n:=by simpa using h
   rw[e]
   rfl
  | false=>exact jH g l x
theorem vE (sc:Scope)(env:Env)(x:Str):(relabel sc env).names.lookup x=(sc.names.lookup x).map fun k=>if (k == NameKind.free&&env.scope.kind == .function&&env.kindOf x == some .cell)=true then NameKind.cell else k:=by
 have e:(relabel sc env).names=sc.names.map fun y=>(y.1,if (y.2 == NameKind.free&&env.scope.kind == .function&&env.kindOf y.1 == some .cell)=true then NameKind.cell else y.2):=by
  unfold relabel
  apply List.map_congr_left
  rintro⟨n,k⟩ _
  dsimp only
  split<;>rfl
 rw[e,jH (fun n k=>if (k == NameKind.free&&env.scope.kind == .function&&env.kindOf n == some .cell)=true then NameKind.cell else k)]
def ly (X:Cx)(sc:Scope)(C:Addr):List (Str×Addr):=cellsFrom (C+1) sc.names (qV X.env sc.names [])
def zZ (X:Cx)(sc:Scope)(N:List Str)(C:Addr)(s:Shared)(H:Hp)(ex:List Addr):Cx :=
 { X with N:=N,s₀:=s,H₀:=H,env:=compEnvC sc (ly X sc C) C X.env,outer:=X.stack,stack:=X.stack,ex:=ex,fn:=fun x=>decide (sc.names.lookup x=some .cell),pn:=[],xe:=fun _ _=>False }
def mE (XN:List Str)(xs sc:Scope)(N:List Str)(tau:List (Option Nat)):Bool :=
 decide (sc.kind=.function)&&decide ((sc.names.map (·.1)).Nodup)&&decide N.Nodup&&decide (tau.length=N.length) &&
 (tau.zip N).all (fun p=>match p.1 with | none=>true | some j=>decide (XN[j]? = some p.2)&&decide (sc.names.lookup p.2=some .free)) &&
 sc.names.all (fun y=>decide (y.2≠.free) || decide (xs.names.lookup y.1=some .cell) || decide (xs.names.lookup y.1=some .free))&&decide (xs.kind=.function)
structure zM (X:Cx)(sc:Scope)(N:List Str)(tau:List (Option Nat)):Prop where
 kind:sc.kind=.function
 uniq:(sc.names.map (·.1)).Nodup
 nd:N.Nodup
 len:tau.length=N.length
 out:∀(i j:Nat) (x:Str),tau[i]? = some (some j)→N[i]? = some x→X.N[j]? = some x∧sc.names.lookup x=some .free
 fr:∀y∈sc.names,y.2=.free→X.env.scope.names.lookup y.1=some .cell∨X.env.scope.names.lookup y.1=some .free
 okind:X.env.scope.kind=.function
theorem tX {X:Cx}{sc:Scope}{N XN:List Str}{xs:Scope}{tau:List (Option Nat)}(h:mE XN xs sc N tau=true)(h1:X.N=XN)(h2:X.env.scope=xs):zM X sc N tau:=by
 subst h1 h2
 unfold mE at h
 simp only[xdc,xdw,xeR,Bool.or_eq_true] at h
 obtain⟨⟨⟨⟨⟨⟨k,u⟩,nd⟩,len⟩,out⟩,fr⟩,ok⟩:=h
 refine⟨k,u,nd,len,fun i j x e1 e2=>?_,fun y hy e=>?_,ok⟩
 ·have:=out _ (zip_get e1 e2)
  simpa using this
 ·rcases fr y hy with (z | z) | z
  ·exact absurd e z
  ·exact .inl z
  ·exact .inr z
theorem jb {l:List (Str×NameKind)}(h:(l.map (·.1)).Nodup){x:Str}{k:NameKind}(hm:(x,k)∈l):l.lookup x=some k:=by
 induction l with
 | nil=>simp at hm
 | cons y r ih =>
  obtain⟨n,k'⟩:=y
  rw[xd7,xeo] at h
  rw[xd5]
  rcases xec.mp hm with e | hm
  ·cases e;simp
  ·have:x≠n:=fun e=>h.1 (by rw[←e];exact xeg.mpr ⟨_,hm,rfl⟩)
   rw[show(x == n)=false by simpa using this]
   exact ih h.2 hm
section
variable {X:Cx} {sc:Scope} {N:List Str} {tau:List (Option Nat)} {pins:List (Addr×Obj)} {σ:St} {H:Hp} {s:Shared}
theorem zM.loc (k:zM X sc N tau):∀y∈sc.names,y.2=.local→sc.names.lookup y.1=some .local:=fun y hy e=>jb k.uniq (by rw[←e];exact hy)
theorem zM.cells (k:zM X sc N tau)(ok:X.Ok):∀y∈sc.names,y.2=NameKind.free→∃c,X.env.cells.lookup y.1=some c:=fun y hy e=>ok.has y.1 (k.fr y hy e)
theorem zM.cs (k:zM X sc N tau){C:Addr}{x:Str}{c:Addr}(h:(ly X sc C).lookup x=some c):(sc.names.lookup x=some .cell∧(x,c)∈cellsFrom (C+1) sc.names []∧C+1≤c)∨(sc.names.lookup x≠some .cell∧X.env.cells.lookup x=some c):=by
 unfold ly at h
 rw[yi,zV] at h
 cases q:(cellsFrom (C+1) sc.names []).lookup x with
 | some c' =>
  rw[q] at h
  cases (show some c'=some c from h)
  have m:=PySem.mem_of_lookup q
  obtain⟨a,b⟩:=zR _ _ m
  exact .inl ⟨jb k.uniq a,m,b⟩
 | none =>
  rw[q] at h
  refine .inr ⟨fun z=>?_,zQ _ _ (show(qV X.env sc.names []).lookup x=some c from h) fun _ z=>by simp at z⟩
  obtain⟨c',hc⟩:=zO sc.names (C+1) (PySem.mem_of_lookup z)
  rw[hc] at q;cases q
theorem zM.own (k:zM X sc N tau){C:Addr}{x:Str}(h:sc.names.lookup x=some .cell):∃c,(ly X sc C).lookup x=some c:=by
 obtain⟨c,hc⟩:=zO sc.names (C+1) (PySem.mem_of_lookup h)
 exact⟨c,by unfold ly;rw[yi,zV,hc];rfl⟩
theorem zM.seen (k:zM X sc N tau){C:Addr}{x:Str}{c:Addr}(h:sc.names.lookup x=some .free)(hc:X.env.cells.lookup x=some c):(ly X sc C).lookup x=some c:=by
 unfold ly
 rw[yi,zV]
 cases q:(cellsFrom (C+1) sc.names []).lookup x with
 | some c' =>
  obtain⟨a,_⟩:=zR _ _ (PySem.mem_of_lookup q)
  rw[jb k.uniq a] at h;cases h
 | none=>exact vm hc _ _ (PySem.mem_of_lookup h)
theorem t8 (k:zM X sc N tau)(I:Inv X pins σ H s){fp:List Addr}(hf:∀b∈fp,jQ X pins H b)(hob:∀b∈fp,∃o,s.heap.get? b=some o)(ap:(cellsFrom (s.heap.objs.size+1+1) sc.names []).Pairwise fun x y=>x.2≠y.2) :
  (zZ X sc N (s.heap.objs.size+1) s H fp).Ok where
 mod:=I.ok.mod
 kind:=k.kind
 glob:=I.ok.glob
 blt:=I.ok.blt
 above:=xeB _
 inj:=fun x y c h1 h2=>by
  have old:∀ {x:Str} {c:Addr},X.env.cells.lookup x=some c→c<s.heap.objs.size:=fun {x c} e=>let ⟨v,q⟩:=I.cell x c e;q.lt
  rcases k.cs h1 with ⟨_,a1,b1⟩ | ⟨_,a1⟩<;>rcases k.cs h2 with ⟨_,a2,b2⟩ | ⟨_,a2⟩
  ·exact name_of_addr ap a1 a2
  ·exact absurd (xeF (old a2) (xeC (xey _ 2) b1)) (xeD _)
  ·exact absurd (xeF (old a1) (xeC (xey _ 2) b2)) (xeD _)
  ·exact I.ok.inj x y c a1 a2
 has:=fun x h=>by
  have e:=vE sc X.env x
  have h:(relabel sc X.env).names.lookup x=some .cell∨(relabel sc X.env).names.lookup x=some .free:=h
  cases q:sc.names.lookup x with
  | none=>rw[e,q] at h;simp at h
  | some kd =>
   cases kd with
   | cell=>exact k.own q
   | free =>
    obtain⟨c,hc⟩:=k.cells I.ok _ (PySem.mem_of_lookup q) rfl
    exact⟨c,k.seen q hc⟩
   | _=>rw[e,q] at h;simp at h
 cab:=fun x c h hc=>by
  have h:=xeU h
  rcases k.cs hc with ⟨_,_,b⟩ | ⟨n,_⟩
  ·exact xeC (xey _ 2) b
  ·exact absurd h n
 hd:=I.ok.hd
 frames:=I.ok.frames
 stk:=.inl rfl
 exf:=fun b hb=>by
  obtain⟨o,e⟩:=hob b hb
  have l:=Heap.lt_size e
  refine⟨fun z=>?_,fun x c h z=>?_⟩
  ·have z':b=s.heap.objs.size+1:=z
   rw[z'] at l
   exact xeD _ (Nat.lt_of_succ_lt l)
  ·rcases k.cs h with ⟨_,_,q⟩ | ⟨_,q⟩
   ·rw[z] at q
    exact absurd (xeF l (xeC (xey _ 2) q)) (xeD _)
   ·exact(hf b hb).2.2.2.2.1 x c q z
 bs:=I.bs
 bsz:=xeC I.ok.bsz I.sz
 noex:=fun b o e hb=>by
  rcases(hf b hb).2.2.2.1 with z | z
  ·exact I.ok.noex b o e z
  ·exact absurd (xeF (Heap.lt_size (I.ok.bs b o e).1) z) (xeD _)
 exfs:=fun b hb z=>by
  rcases xec.mp (I.stkSub b z) with e | e
  ·exact(hf b hb).2.1 e
  ·exact(hf b hb).2.2.1 e
 funs:=I.stack
 frf:=I.stkFree
theorem cG (k:zM X sc N tau)(I:Inv X pins σ H s){fp:List Addr}(hf:∀b∈fp,jQ X pins H b)(hob:∀b∈fp,∃o,s.heap.get? b=some o){h1:Heap}{t':Nat}
  (kp:∀b o,s.heap.get? b=some o→h1.get? b=some o) (hn:h1.Ns (s.heap.objs.size+1) (fun _=>none)) (hD:h1.get? s.heap.objs.size=some { cls:=.type "list", data:=.seq #[] 0 })
  (ck:CellsOk h1 (s.heap.objs.size+1+1) (cellsFrom (s.heap.objs.size+1+1) sc.names [])) :
  Inv (zZ X sc N (s.heap.objs.size+1) s H fp) [(s.heap.objs.size,lo [] 0)] (vC tau σ) H { s with heap:=h1,toks:=t' } where
 ok:=t8 k I hf hob ck.apart
 os:=rfl
 bare:=I.bare
 base:=Un.kept kp
 loc:=⟨_,hn,fun i x v e1 e2 e3=>by
  obtain⟨j,t1,t2⟩:=uq e2
  obtain⟨o1,o2⟩:=k.out i j x t1 e1
  have m:(x,NameKind.free)∈sc.names:=PySem.mem_of_lookup o2
  have hk:=k.fr _ m rfl
  obtain⟨mm,hn',hl⟩:=I.loc
  obtain⟨u,r,l⟩:=hl j x v o1 t2 (hk.elim (fun z=>.inr (.inl z)) fun z=>.inr (.inr z))
  have e:=vE sc X.env x
  rw[o2] at e
  refine⟨u,r,.inr ⟨?_,?_⟩⟩
  ·show(relabel sc X.env).names.lookup x=some .cell∨(relabel sc X.env).names.lookup x=some .free
   rw[e]
   simp only[Option.map_some]
   split
   ·exact .inl rfl
   ·exact .inr rfl
  ·rcases l with ⟨z,_⟩ | ⟨_,c,ec,hc⟩
   ·exfalso
    have z:X.env.scope.names.lookup x=some .local:=z
    rcases hk with q | q<;>rw[z] at q<;>cases q
   ·obtain⟨o,ho,hd⟩:=hc
    exact⟨c,k.seen o2 ec,o,kp c o ho,hd⟩⟩
 cell:=fun x c h=>by
  rcases k.cs h with ⟨_,a,_⟩ | ⟨_,a⟩
  ·exact⟨_,(ck.empty x c a).1⟩
  ·obtain⟨v,o,ho,hd⟩:=I.cell x c a
   exact⟨v,o,kp c o ho,hd⟩
 free:=I.hok.fresh (xeB _)
 freeC:=fun x c h=>by
  rcases k.cs h with ⟨_,_,b⟩ | ⟨_,a⟩
  ·exact I.hok.fresh (xeC (xey _ 2) b)
  ·exact I.freeC x c a
 pin:=fun p hp=>by
  have e:p=(s.heap.objs.size,lo [] 0):=by simpa [zZ] using hp
  subst e
  refine⟨hD,I.hok.fresh (xeA _),xeJ (xeH _),fun z=>?_,fun v=>by simp⟩
  rcases xec.mp (I.stkSub _ z) with e | e
  ·exact absurd (e▸I.lt) (xeD _)
  ·exact I.nofs (xeA _) e
 hok:=I.hok.kept kp
 len:=by
  show(vC tau σ).length=N.length
  unfold vC
  rw[xdZ]
  exact k.len
end
theorem bJ {Y:Cx}{elt tg iter:Expr}{ifs:List Expr}{sc:Scope}{pos:Pos}{g:TG}{tc:TT}{te:TE}{tau:List (Option Nat)}(hc:Y.calm=true)(hx:Y.xe=fun _ _=>False){D:Addr}{pl:List (Addr×Obj)}(hg:PG Y tg g)(ht:PIf Y ifs tc)(he:PE Y elt te)(hga:GA tau g)
  {it:Addr} {fp:List Addr} {tn:Nat→Heap→Prop} {J:It} (T:Turn Y.prog Y.w Y.K tg J fp it tn) {its:List Value} {n:Nat} {ys:List V} {σ0:St} {H:Hp} {s:Shared} (I:Inv Y ((D,lo its n)::pl) σ0 H s) (hτ:∀(i:Nat) (v:V),σ0[i]? = some (some v)→∃j,tau[i]? = some (some j)) (rv:yy ys its) (hz:ys.length≤sizeLine) (h1:D∈Y.ex∨Y.s₀.heap.objs.size≤D) (h2:∀p∈Y.pn++pl,p.1≠D)
  (st0:tn 0 s.heap) (fo:∀b∈fp,jQ Y ((D,lo its n)::pl) H b) {W:Nat→Nat→List V→Hp→Prop} {Z:List V→Hp→Prop} (w0:∃m,W 0 m ys H) (turn:∀i m ys H,W i m ys H →
   (J.stop i H∧Z ys H) ∨
   (J.go i H∧ys.length<sizeLine∧∀x H',J.yld i H x H'→g x σ0 H' fun σ2 H2=>tc σ2 H2 fun b H3=>if b=true then te σ2 H3 fun y H4=>∃m',m' < m∧W (i+1) m' (ys++[y]) H4 else ∃m',m' < m∧W (i+1) m' ys H3))
  {R:Result→Shared→Prop} (fin:∀H' s' ys' its' n',Inv Y ((D,lo its' n')::pl) σ0 H' s'→yy ys' its'→ys'.length≤sizeLine→Z ys' H'→R (.ok .next) s') :
  codeAny (model Y.prog Y.w) Y.A (.compStart (.ListComp elt [⟨tg,iter,ifs,0⟩] sc pos) 0 (.ref it) (.ref D) Y.env) R s:=by
 obtain⟨m0,w0⟩:=w0
 have fD:∀b∈fp,b≠D:=fun b hb=>Ne.symm ((fo b hb).2.2.2.2.2 (D,lo its n) (by simp))
 have stat:∀ {H':Hp} {its':List Value} {n':Nat},(∀b∈fp,H' b=none)→∀b∈fp,jQ Y ((D,lo its' n')::pl) H' b:=fun {H' its' n'} hn b hb=>by
  obtain⟨_,a1,a2,a3,a4,a5⟩:=fo b hb
  refine⟨hn b hb,a1,a2,a3,a4,fun p hp=>?_⟩
  rcases xd_.mp hp with hp | hp
  ·exact a5 p (xea _ hp)
  ·rcases xec.mp hp with rfl | hp
   ·exact Ne.symm (fD b hb)
   ·exact a5 p (xeb _ (xed _ hp))
 have loop:codeAny (model Y.prog Y.w) Y.A (.compLoop (.ListComp elt [⟨tg,iter,ifs,0⟩] sc pos) 0 (.ref it) (.ref D) Y.env) R s:=by
  refine kb (fun m s'=>∃i ys' H' its' n',Inv Y ((D,lo its' n')::pl) σ0 H' s'∧yy ys' its'∧ys'.length≤sizeLine∧tn i s'.heap∧(∀b∈fp,H' b=none)∧W i m ys' H') ?_ m0
   ⟨0,ys,H,its,n,I,rv,hz,st0,fun b hb=>(fo b hb).1,w0⟩
  rintro m s3 ⟨i,ys3,H3,its3,n3,I3,rv3,hz3,st3,fr3,w3⟩
  rcases turn i m ys3 H3 w3 with ⟨stop,z⟩ | ⟨go,hlt,step⟩
  ·refine wpAny_mono (T.done Y rfl rfl rfl hc i _ s3 _ H3 (fun _ _=>False) I3 (stat fr3) st3 stop) (fun r s4 ⟨hr,I4⟩=>?_) fun _ _ f=>f.elim
   subst hr
   exact fin _ _ _ _ _ I4 rv3 hz3 z
  ·refine wpAny_mono (T.item Y rfl rfl rfl hc i _ s3 _ H3 (fun _ _=>False) I3 (stat fr3) st3 go) (fun r s4 ⟨u,hr,h4⟩=>?_) fun _ _ f=>f.elim
   subst hr
   refine wpAny_mono h4 (fun _ s5 ⟨x,H5,I5,r5,y5,st5,fr5⟩=>?_) fun _ _ f=>f.elim
   have I5':=I5.pinned (stat fr5) (T.obj _ _ st5)
   have g5:=hg _ s5 _ H5 x u _ I5' r5 (hga _ _ _ _ (step x H5 y5))
   rw[hx] at g5
   refine wpAny_mono g5 (fun _ s6 ⟨σ6,H6,I6,q6,ag⟩=>?_) fun _ _ f=>f.elim
   have t6:=ht _ s6 σ6 H6 _ I6 q6
   rw[hx] at t6
   refine wpAny_mono t6 (fun b s7 ⟨H7,I7,q7⟩=>?_) fun _ _ f=>f.elim
   have back:∀ {H8:Hp} {s8:Shared} {its8:List Value} {n8:Nat},Inv Y ((D,lo its8 n8)::(pl++wm fp s5.heap)) σ6 H8 s8→Inv Y ((D,lo its8 n8)::pl) σ0 H8 s8∧tn (i+1) s8.heap∧∀b∈fp,H8 b=none:=fun {H8 s8 its8 n8} I8=>by
    have I8':Inv Y (((D,lo its8 n8)::pl)++wm fp s5.heap) σ6 H8 s8:=I8
    refine⟨I8'.unpinned.weak (I.len.trans I8.len.symm) fun j v e=>?_,T.keep _ _ _ st5 fun b hb o e=>(I8'.pin (b,o) (xeb _ (xeb _ (yF hb e)))).1,fun b hb=>?_⟩
    ·obtain⟨j',t1⟩:=hτ j v e
     rw[ag j j' t1];exact e
    ·obtain⟨o,e,d⟩:=T.obj _ _ st5 b hb
     exact(I8'.pin (b,o) (xeb _ (xeb _ (yF hb e)))).2.1
   cases b with
   | false =>
    obtain⟨m',hm,w7⟩:=q7
    obtain⟨I8,st8,fr8⟩:=back I7
    rw[if_neg xdd]
    exact⟨m',hm,i+1,ys3,H7,its3,n3,I8,rv3,hz3,st8,fr8,w7⟩
   | true =>
    rw[if_pos rfl]
    have e7:=@he _ s7 σ6 H7 _ I7 q7
    rw[hx] at e7
    refine wpAny_mono e7 (fun y s8 ⟨yv,H8,I8,r8,m',hm,w8⟩=>?_) fun _ _ f=>f.elim
    refine nt (pl:=pl++wm fp s5.heap) I8 h1 (fun p hp=>?_) (by rw[←rv3.length];exact hz3) fun s9 n9 I9 _=>?_
    ·rw[←xdy] at hp
     rcases xd_.mp hp with hp | hp
     ·exact h2 p hp
     ·exact fD _ (qe hp).1
    ·obtain⟨I10,st10,fr10⟩:=back I9
     exact⟨m',hm,i+1,ys3++[yv],H8,its3++[y],n9,I10,rv3.append (.cons r8 .nil),by rw[xdU,xd3];exact hlt,st10,fr10,w8⟩
 exact codeAny_compStart_list loop (T.self _ 0 _ _ _ st0 loop)
section
variable {X:Cx} {sc:Scope} {N:List Str} {tau:List (Option Nat)} {pins:List (Addr×Obj)} {σ:St} {H:Hp} {s:Shared}
theorem bN (k:zM X sc N tau)(I:Inv X pins σ H s){fp:List Addr}(hf:∀b∈fp,jQ X pins H b){σ':St}{H':Hp}{s':Shared}{its:List Value}{n:Nat}{ys:List V}
  (J:Inv (zZ X sc N (s.heap.objs.size+1) s H fp) [(s.heap.objs.size,lo its n)] σ' H' s') (rv:yy ys its) (hz:ys.length≤sizeLine) :
  Inv X pins σ (upd H' s.heap.objs.size (.lst ys)) s'∧H' s.heap.objs.size=none∧(upd H' s.heap.objs.size (.lst ys)) (s.heap.objs.size+1)=none:=by
 obtain⟨pD,nD,_,_,_⟩:=J.pin (s.heap.objs.size,lo its n) (by simp[zZ])
 have nC:H' (s.heap.objs.size+1)=none:=J.free
 have B:Un (frs X.stack) fp H H' s.heap s'.heap:=J.base
 have ltD:∀b o,s.heap.get? b=some o→b≠s.heap.objs.size:=fun b o e=>xeJ (Heap.lt_size e)
 refine⟨I.call' (ch:=fp) J.os ⟨B.keep,B.slot,fun b o e n hx=>?_,B.there,fun b xs e=>?_,fun b o u e=>?_,fun b ps e=>?_⟩ (fun b u e=>?_) J.bare (fun b hb=>?_),nD,?_⟩
 ·rw[xC (ltD b o e)];exact B.free b o e n hx
 ·have q:=B.tups b xs e
  rw[xC (xn q nD)];exact q
 ·have q:=B.frzs b o u e
  rw[xC (xn q nD)];exact q
 ·obtain⟨more,q⟩:=B.tbls b ps e
  exact⟨more,by rw[xC (xn q nD)];exact q⟩
 ·by_cases hb:b=s.heap.objs.size
  ·subst hb
   rw[xM] at e
   cases e
   exact⟨hz,its,n,rv,pD⟩
  ·rw[xC hb] at e
   exact(J.hok b u e).stay (fun c v _ q=>q) (fun c q=>by rw[xC (xn q nD)];exact q) (fun c xs q=>by rw[xC (xn q nD)];exact q) fun c o u q=>by rw[xC (xn q nD)];exact q
 ·obtain⟨_,f1,_,f3,f4,f5⟩:=hf b hb
  exact⟨f3,f1,f4,f5⟩
 ·rw[xC (xeI (xeH _))];exact nC
theorem rV {elt tg iter:Expr}{ifs:List Expr}{g:TG}{tc:TT}{te:TE}{pos:Pos}(k:zM X sc N tau)(hc:X.calm=true)(I:Inv X pins σ H s){it:Addr}{fp:List Addr}{tn:Nat→Heap→Prop}{J:It}
  (T:Turn X.prog X.w X.K tg J fp it tn) (st0:tn 0 s.heap) (hf:∀b∈fp,jQ X pins H b) (hga:GA tau g)
  (hg:∀C s H ex,PG (zZ X sc N C s H ex) tg g) (ht:∀C s H ex,PIf (zZ X sc N C s H ex) ifs tc) (he:∀C s H ex,PE (zZ X sc N C s H ex) elt te)
  {W:Nat→Nat→List V→Hp→Prop} {Z:List V→Hp→Prop} (w0:∃m,W 0 m [] H) (turn:∀i m ys H,W i m ys H →
   (J.stop i H∧Z ys H) ∨
   (J.go i H∧ys.length<sizeLine∧∀x H',J.yld i H x H'→g x (vC tau σ) H' fun σ2 H2=>tc σ2 H2 fun b H3=>if b=true then te σ2 H3 fun y H4=>∃m',m' < m∧W (i+1) m' (ys++[y]) H4 else ∃m',m' < m∧W (i+1) m' ys H3))
  {E:Value→Shared→Prop} {RR:Value→Addr→Result→Shared→Prop}
  (fin:∀ σ' H' s' ys its n,Inv (zZ X sc N (s.heap.objs.size+1) s H fp) [(s.heap.objs.size,lo its n)] σ' H' s'→yy ys its→ys.length≤sizeLine→Z ys H'→RR (.ref s.heap.objs.size) (s.heap.objs.size+1) (.ok .next) s') :
  wpAny (model X.prog X.w) X.A (newList []) (fun acc s₃=>wpAny (model X.prog X.w) X.A (newFunctionEnv sc X.env.globals (qV X.env sc.names []) [] X.env.qual none .none (some X.env)) (fun cenv s₄ =>
   codeAny (model X.prog X.w) X.A (.compStart (.ListComp elt [⟨tg,iter,ifs,0⟩] sc pos) 0 (.ref it) acc { cenv with scope:=relabel sc X.env }) (RR acc cenv.locals) s₄) E s₃) E s:=by
 have hob:∀b∈fp,∃o,s.heap.get? b=some o:=fun b hb=>let ⟨o,e,_⟩:=T.obj _ _ st0 b hb;⟨o,e⟩
 refine wpAny_newObj_type ?_
 simp only[newFunctionEnv,Option.isSome_some,if_true]
 refine wpAny_bind (wpAny_alloc ?_)
 refine wpAny_bind (wpAny_layCells _ (fun name kind cells=>by cases hkc:kind == NameKind.cell<;>simp[hkc]) _ _ _ _ ?_)
 rw[List.forIn_nil]
 refine wpAny_bind (wpAny_pure (wpAny_pure ?_))
 have e1:(s.heap.push { cls:=.type "list", dict:=none,data:=.seq ([]:List Value).toArray }).objs.size=s.heap.objs.size+1:=Heap.size_push ..
 have e2:((s.heap.push { cls:=.type "list", dict:=none,data:=.seq ([]:List Value).toArray }).push { cls:=.type "dict", data:=.dict #[] }).objs.size=s.heap.objs.size+1+1:=by rw[Heap.size_push,e1]
 dsimp only
 rw[e1,e2]
 generalize hh:(s.heap.push { cls:=.type "list", dict:=none,data:=.seq ([]:List Value).toArray })=hA at e1 e2 ⊢
 have oldA:∀b o,s.heap.get? b=some o→hA.get? b=some o:=fun b o e=>hh▸Heap.get?_push_of_some _ e
 have ck:=cellsFrom_ok sc.names (hA.push { cls:=.type "dict", data:=.dict #[] }) (s.heap.objs.size+1+1) [] ⟨fun _ _ hm=>(nomatch hm),List.Pairwise.nil⟩ (by rw[e2];exact xeA _)
 rw[e2] at ck
 have old:∀b o,s.heap.get? b=some o→(pushCells (hA.push { cls:=.type "dict", data:=.dict #[] }) sc.names).get? b=some o:=fun b o e=>pushCells_keeps _ _ b o (Heap.get?_push_of_some _ (oldA b o e))
 have hns:(pushCells (hA.push { cls:=.type "dict", data:=.dict #[] }) sc.names).Ns (s.heap.objs.size+1) (fun _=>none):=by
  have:=(Heap.Ns.new hA (.type "dict")).keeps (pushCells_keeps sc.names _)
  rw[e1] at this;exact this
 have hacc:(pushCells (hA.push { cls:=.type "dict", data:=.dict #[] }) sc.names).get? s.heap.objs.size=some (lo [] 0):=pushCells_keeps _ _ _ _ (Heap.get?_push_of_some _ (hh▸Heap.get?_push_size _ rfl))
 have I1:=cG (t':=s.toks) k I hf hob old hns hacc ck
 have ltD:∀b∈fp,b≠s.heap.objs.size:=fun b hb=>by
  obtain⟨o,e⟩:=hob b hb
  exact xeJ (Heap.lt_size e)
 have cx:=t8 (N:=N) k I hf hob ck.apart
 refine bJ (Y:=zZ X sc N (s.heap.objs.size+1) s H fp) (D:=s.heap.objs.size) (pl:=[]) (tau:=tau) hc rfl (hg _ _ _ _) (ht _ _ _ _) (he _ _ _ _) hga T I1 (fun i v e=>let ⟨j,a,_⟩:=uq e;⟨j,a⟩) .nil (xeL _) (.inr (xeA _)) (fun p hp=>by simp[zZ] at hp) (T.keep _ _ _ st0 fun b _ o e=>old b o e) (fun b hb=>?_) w0 turn fun H' s' ys' its' n' J' rv' hz' z=>fin _ _ _ _ _ _ J' rv' hz' z
 refine⟨(hf b hb).1,(cx.exf b hb).1,cx.exfs b hb,.inl hb,(cx.exf b hb).2,fun p hp=>?_⟩
 have e:p=(s.heap.objs.size,lo [] 0):=by simpa [zZ] using hp
 subst e
 exact Ne.symm (ltD b hb)
theorem cf {elt tg iter:Expr}{ifs:List Expr}{wi:TI}{g:TG}{tc:TT}{te:TE}{pos:Pos}(k:zM X sc N tau)(hc:X.calm=true)(hga:GA tau g)(hi:PI X tg iter wi)
  (hg:∀C s H ex,PG (zZ X sc N C s H ex) tg g) (ht:∀C s H ex,PIf (zZ X sc N C s H ex) ifs tc) (he:∀C s H ex,PE (zZ X sc N C s H ex) elt te)
  (hs:∀x,foldedSetIterable iter X.env x=pure x:=by intro _;rfl):PE X (.ListComp elt [⟨tg,iter,ifs,0⟩] sc pos) (lF wi tau g tc te):=by
 intro pins s σ H Q I h
 rw[eval_ListComp]
 refine wpAny_comprehension_free (use:=none) rfl hs (dZ (k.cells I.ok)) k.kind k.loc ?_
 refine thn (@hi pins s σ H _ I h) fun v s1 h1=>thn h1 fun itv s2 h2=>?_
 obtain⟨it,fp,tn,J,H2,e,I2,T,st2,f2,W,w0,turn⟩:=h2
 subst e
 refine rV (RR:=fun acc C=>compPost (model X.prog X.w) X.A X.xe none (EP X pins σ Q) acc C) (W:=W) (Z:=fun ys H'=>∀p,H' p=none→Q (.ref p) (upd H' p (.lst ys))) k hc I2 T st2 f2 hga hg ht he w0 turn ?_
 intro σ' H' s' ys its n J' rv hz z
 obtain⟨I',hD,hC⟩:=bN k I2 f2 J' rv hz
 obtain⟨m,hn,_⟩:=J'.loc
 exact⟨m,hn,fun h' hs'=>⟨.ref _,_,jG I2 I' hC hs',rfl,z _ hD⟩⟩
end
end L2
namespace L2
open PySem PySem.Spec PyProof.Rows
section
variable {K:PySem.W.Frag} {fr:Bool} {H:Hp}
theorem jY {α β:Type}{R:α→β→Prop}:∀ {xs:List α} {ys:List β},Paired R xs ys→Paired R xs.reverse ys.reverse
 | _,_,.nil=>.nil
 | _,_,.cons r rs=>by rw[xer,xer];exact sf (jY rs) r
theorem yQ.rev {F:Addr→Prop}{ts:List Tr}{ws:List V}(r:yQ F H ts ws):yQ F H ts.reverse ws.reverse:=yo.mpr (jY (yo.mp r))
theorem yQ.take {F:Addr→Prop}{ts:List Tr}{ws:List V}(r:yQ F H ts ws)(n:Nat):yQ F H (ts.take n) (ws.take n):=yo.mpr (uo _ (yo.mp r))
def xcY (d ds:DE):DE:=fun τ KK=>d τ fun x=>ds τ fun y=>y=.int (-1)∧match x with | .lst ts=>KK (.lst ts.reverse) | _=>False
theorem t_ {c:Bool}{te ts:TE}{d ds:DE}(h:OkE K true te d)(hs:OkE K c ts ds):OkF K (xcu K te (oO ts)) (xcY d ds):=fun B φ σ τ H Q KK R hd q =>
 h B φ σ τ H _ _ R hd fun t v H1 x1 k1 r1=>hs B φ σ τ H1 _ _ (R.hx x1) k1 fun u w H2 x2 k2 r2=>by
  obtain⟨rfl,k2⟩:=k2
  have r3:=x2.rep (F:=Av B φ) (fun a s=>R.sAv s) r1
  have x:=x1.trans x2
  cases t with
  | lst us =>
   obtain⟨a,ws,e,n,ha,rl⟩:=r3
   exact⟨-1,r2,rfl,a,ws,e,SqL.of ha,fun p hp=>q _ _ _ _ (x.trans (HX.new (R.hx x) hp _)) k2 (x.none hp) xM (vt hp rl.rev)⟩
  | _=>exact k2.elim
def xcG (i:Nat):DS:=fun G τ=>match nth τ i with | .ow ts=>ts≠[]∧G.nx (τ.set i (.ow ts.dropLast)) | _=>False
theorem me {i:Nat}:OkS K fr (t5 (xci K "list" xcz (fb i))) (xcG i):=fun B φ σ τ H E G R hd e=>by
 have en:=R.ent i
 unfold xcG at hd
 revert en hd
 cases hi:nth τ i with
 | ow ts =>
  intro hd ⟨a,ws,e1,e2,e3,e4,r⟩
  refine⟨_,e1,.inl ⟨rfl,_,SqL.of e4⟩,?_⟩
  have l:=r.len
  have ne:ws≠[]:=fun z=>hd.1 (by rw[z] at l;exact xdX.mp l)
  have lt:ws.length-1<ws.length:=by have:=List.length_pos_iff.mpr ne;omega
  refine⟨a,ws,ws[ws.length-1],rfl,rfl,e4,xdO lt,e.nx φ σ _ _ (R.wrOw hi e1 ?_) hd.2⟩
  rw[List.dropLast_eq_take,List.dropLast_eq_take,l]
  exact r.take _
 | _=>exact fun z _=>z.elim
def xb4 (i j:Nat)(da db:DE):DS:=fun G τ=>(nth τ i≠.st∧nth τ j≠.st)∧da τ fun x=>db τ fun y=>match x,y with | .lst xs,.lst ys=>G.nx ((τ.set i (.ow xs)).set j (.ow ys)) | _,_=>False
theorem xad {B:FB}{φ:Phi}{σ:St}{τ:TSt}{a:Addr}(R:RS K B φ σ τ H)(h:H a=none):B.H0 a=none:=by
 cases q:B.H0 a with
 | none=>rfl
 | some o =>
  by_cases s:B.S0 a
  ·exact absurd h (R.sst a (.inl s)).ne_none
  ·rw[R.ext a o q s] at h;cases h
def Phi.trim (φ:Phi)(τ:TSt):Phi:=fun k=>if k<τ.length then φ k else none
theorem vd {φ:Phi}{τ:TSt}{k:Nat}{a:Addr}(h:Phi.trim φ τ k=some a):φ k=some a:=by
 unfold Phi.trim at h
 split at h
 ·exact h
 ·cases h
theorem RS.trim {B:FB}{φ:Phi}{σ:St}{τ:TSt}(R:RS K B φ σ τ H):RS K B (Phi.trim φ τ) σ τ H:=by
 have av:∀a,Av B (Phi.trim φ τ) a→Av B φ a:=fun a z=>z.elim .inl fun⟨k,z⟩=>.inr ⟨k,vd z⟩
 have mv:∀c o,H c=some o→¬Av B φ c→H c=some o∧¬Av B (Phi.trim φ τ) c:=fun c o e n=>⟨e,fun z=>n (av c z)⟩
 refine⟨R.f0,R.s0,R.ext,fun a s=>R.sst a (s.elim .inl fun⟨k,z,h⟩=>.inr ⟨k,vd z,h⟩),fun i j a ts hi e1 e2=>R.inj i j a ts hi (vd e1) (vd e2),fun i a e=>R.ow i a (vd e),R.len,fun i=>?_,fun p hp=>xZ mv _ _ (R.gh p hp)⟩
 by_cases hl:i<τ.length
 ·have ei:Phi.trim φ τ i=φ i:=if_pos hl
  have en:=R.ent i
  cases hn:nth τ i with
  | un=>trivial
  | fz t=>rw[hn] at en;obtain⟨v,e,r⟩:=en;exact⟨v,e,xZ mv _ _ r⟩
  | ow ts=>rw[hn] at en;obtain⟨a,ws,q1,q2,q3,q4,r⟩:=en;exact⟨a,ws,q1,ei.trans q2,q3,q4,xO mv _ _ r⟩
  | st=>rw[hn] at en;obtain⟨p,q1,q2,q3⟩:=en;exact⟨p,q1,ei.trans q2,q3⟩
  | sc ns=>rw[hn] at en;exact en
  | ob a=>rw[hn] at en;exact en
 ·rw[yE (by omega)];trivial
theorem cI {i j:Nat}{ta tb:TE}{da db:DE}(ha:OkF K ta da)(hb:OkF K tb db)(hij:i≠j:=by decide):OkS K fr (xb5 i j (zL ta (zL tb dY))) (xb4 i j da db):=fun B φ σ τ H E G R hd e=>by
 obtain⟨⟨ni,nj⟩,hd⟩:=hd
 have R:=R.trim
 have tr:Phi.trim φ τ τ.length=none:=if_neg (xeD _)
 generalize Phi.trim φ τ=φ at R tr
 refine ha B φ σ τ H _ _ R hd fun ts1 a1 ws1 H1 x1 k1 h1 h2 h3=>?_
 have n1:H1 a1≠none:=by rw[h2];exact fun z=>nomatch z
 have Rg:=R.setNew (i:=τ.length) (x:=.un) x1 h1 n1 (fun z=>nomatch z) trivial
 rw[List.set_eq_of_length_le (by rw[R.len];exact xeA _),List.set_eq_of_length_le (xeA _)] at Rg
 refine hb B _ σ τ H1 _ _ Rg k1 fun ts2 a2 ws2 H2 x2 k2 g1 g2 g3=>?_
 have n2:H2 a2≠none:=by rw[g2];exact fun z=>nomatch z
 have R1:=R.setNew (i:=i) (x:=.ow ts1) x1 h1 n1 (fun z=>nomatch z) ⟨a1,ws1,rfl,kP,xad R h1,h2,xO (fun c o e n=>⟨e,fun z=>n (by
  rcases z with z | ⟨k,z⟩
  ·exact .inl (.inl z)
  ·rcases zC z with ⟨_,q⟩ | ⟨_,q⟩
   ·exact .inr q
   ·exact .inl (.inr ⟨k,q⟩))⟩) _ _ h3⟩
 have to:∀a,SA B (φ.put τ.length a1) τ a→SA B (φ.put i a1) (τ.set i (.ow ts1)) a:=fun a z=>by
  rcases z with z | ⟨k,z,hk⟩
  ·exact .inl z
  ·have kn:k≠τ.length:=fun q=>by rw[q,yE (xeA _)] at hk;cases hk
   have ki:k≠i:=fun q=>ni (by rw[←q];exact hk)
   rw[j7 kn] at z
   exact .inr ⟨k,by rw[j7 ki];exact z,by rw[yf ki];exact hk⟩
 have of:∀a,SA B (φ.put i a1) (τ.set i (.ow ts1)) a→SA B (φ.put τ.length a1) τ a:=fun a z=>by
  rcases z with z | ⟨k,z,hk⟩
  ·exact .inl z
  ·have ki:k≠i:=fun q=>by
    by_cases hl:i<τ.length
    ·rw[q,yz hl] at hk;cases hk
    ·rw[q,yE (by rw[xd2];omega)] at hk;cases hk
   rw[j7 ki] at z
   rw[yf ki] at hk
   have kn:k≠τ.length:=fun q=>by rw[q,yE (xeA _)] at hk;cases hk
   exact .inr ⟨k,by rw[j7 kn];exact z,hk⟩
 have x2':HX B (φ.put i a1) (τ.set i (.ow ts1)) H1 H2:=⟨fun a o e n=>x2.keep a o e fun z=>n (to a z),fun a z=>x2.st a (of a z)⟩
 have R2:=R1.setNew (i:=j) (x:=.ow ts2) x2' g1 n2 (fun z=>nomatch z) ⟨a2,ws2,rfl,kP,xad R1 g1,g2,xO (fun c o e n=>⟨e,fun z=>n (by
  rcases z with z | ⟨k,z⟩
  ·exact .inl (.inl z)
  ·rcases zC z with ⟨_,q⟩ | ⟨_,q⟩
   ·exact .inr q
   ·rcases zC q with ⟨_,q⟩ | ⟨_,q⟩
    ·exact .inl (.inr ⟨τ.length,by rw[q];exact kP⟩)
    ·exact .inl (.inr ⟨k,by rw[j7 (fun kn=>by rw[kn,tr] at q;cases q)];exact q⟩))⟩) _ _ g3⟩
 exact⟨_,_,rfl,e.nx _ _ _ H2 R2 k2⟩
def p8 (i:Nat)(d:DE)(sp:TSp):DE:=fun τ KK=>match nth τ i with | .sc _=>d τ fun t=>(match t with | .int k=>0≤k∧sp [] KK | _=>False) | _=>False
theorem oG {b f:Bool}{i:Nat}{te:TE}{d:DE}{sp:TSp}(h:OkE K b te d):OkE K true (lN (spT 0 true f sp) (zL (lN (sO K) (zL (fb i) (zL te dY))) dY)) (p8 i d sp):=fun B φ σ τ H Q KK R hd q=>by
 have en:=R.ent i
 unfold p8 at hd
 revert en hd
 cases hi:nth τ i with
 | sc ns =>
  intro hd ⟨a,e1,hl,so,_⟩
  refine⟨_,e1,h B φ σ τ H _ _ R hd fun t v H1 x1 k1 r1=>?_⟩
  cases t with
  | int k =>
   cases (show v=.int k from r1)
   have sq:SqL K H1 a (ns.map V.int):=by
    rcases so with ⟨o,q⟩ | q
    ·exact .inl (.inr ⟨o,x1.keep a _ q (gS R q)⟩)
    ·exact q H1
   refine⟨a,ns,k,rfl,sq,hl,k1.1,fun p n b hp hok=>?_⟩
   have x2:=x1.trans (HX.new (R.hx x1) hp (.lst [.int n,.bl b]))
   have R2:=R.hx x2
   refine⟨fun c=>Av B φ c∨c=p,fun c=>SA B φ τ c∨c=p,[],KK,[],⟨p,rfl,.inr rfl⟩,fun c z=>?_,fun c z=>z.elim (fun z=>.inl (R.sAv z)) .inr,fun c z=>?_,rfl,rfl,k1.2,fun t v H' k e s r _=>?_⟩
   ·rcases z with z | rfl
    ·exact R2.dom z
    ·rw[xM];exact fun z=>nomatch z
   ·rcases z with z | rfl
    ·exact x2.st c z
    ·exact⟨n,b,xM,hok⟩
   ·refine q t v H' ⟨fun c o hc nc=>?_,fun c z=>s c (.inl z)⟩ k (xZ (fun c o e n=>⟨e,fun z=>n (.inl z)⟩) _ _ r)
    refine e c o (x2.keep c o hc nc) fun z=>?_
    rcases z with z | rfl
    ·exact nc z
    ·rw[x1.none hp] at hc;cases hc
  | _=>exact k1.elim
 | _=>exact fun z _=>z.elim
end
end L2
namespace L2
open PySem PySem.Spec PyProof.Rows
section
variable {P:Program} {w:World} {K:PySem.W.Frag} {mg:Str→Option Value} {base:Heap} {N:List Str} {qual:Str} {scope:Scope} {f:Addr} {cd:Value} {A:Around} {outer:List Env} {s:Shared} {H H':Hp} {E:XK}
end
end L2
namespace L2
open PySem PySem.Spec PySem.Calls PyProof.Rows
section
variable {prog:Program} {w:World} {A:Around} {E:Value→Shared→Prop} {s:Shared} {K:PySem.W.Frag} {ea C:Addr}
end
end L2
namespace L2
open PySem PySem.Spec PySem.Calls PyProof.Rows
section
variable {P:Program} {w:World}
variable {X:Cx} {pins:List (Addr×Obj)} {σ:St} {H H':Hp} {s s':Shared} {ea C:Addr}
end
end L2
namespace L2
open PySem PySem.Spec PySem.Calls PyProof.Rows
section
variable {X:Cx} {pins:List (Addr×Obj)} {σ:St} {H H':Hp} {s s':Shared} {ea C:Addr}
end
end L2
namespace L2
open PySem PySem.Spec PySem.Calls PyProof.Rows
end L2
namespace L2
open PySem PySem.Spec PySem.Calls PyProof.Rows
section
variable {X:Cx} {pins:List (Addr×Obj)} {σ:St} {H:Hp} {s:Shared} {c P:Addr} {params:Arguments} {body:Expr} {scope:Scope} {pos:Pos} {clos:List (Str×Addr)} {E:Value→Shared→Prop} {Q:Value→Shared→Prop} {q:Str}
end
end L2
namespace L2
open PySem PySem.Spec PySem.Calls PyProof.Rows
section
variable {X:Cx} {pins:List (Addr×Obj)} {σ:St} {H:Hp} {s:Shared}
end
end L2
namespace L2
open PySem PySem.Spec PyProof.Rows
section
variable {K:PySem.W.Frag} {B:FB} {φ:Phi} {σ:St} {τ:TSt} {H H' H'':Hp} {EX:Hp→Prop}
end
section
variable {P:Program} {w:World} {K:PySem.W.Frag} {mg:Str→Option Value} {base:Heap} {k n:Nat} {x qual:Str} {st:Stmt} {f:Addr} {fd:FuncData} {N ps:List Str} {C:Addr} {R:List Tr→Prop}
end
section
variable {K:PySem.W.Frag}
theorem xcq {T:TS}{D:DS}{H:Hp}{g:V}{ea:Addr}{j:Int}{Q:VK}(hd:OkS K true T D)(h:D { nx:=fun _=>False,rt:=fun t=>t=.lst [.int j] } [.un,.ob ea,.un,.un])
  (q:∀H2 a,(∀b o,H b=some o→H2 b=some o)→H a=none→H2 a=some (.lst [.int j])→Q (.ref a) H2):T { nx:=fun _ H'=>Q .non H',rt:=Q } [some g,some (.ref ea),none,none] H:=by
 refine hd ⟨fun _=>False,fun _=>False,H,[]⟩ (fun _=>none) _ _ H _ _ ⟨fun _ z=>z.elim,fun _ z=>z.elim,fun a o e _=>e,fun a z=>?_,fun i j a ts _ z=>(nomatch z),fun i a z=>(nomatch z),rfl,fun i=>?_,fun p z=>absurd z (by simp)⟩ h ⟨fun _ _ _ _ _ z=>z.elim,fun _ _ _ _ _ z=>z.elim,fun _ _ _ _ _ z=>z.elim,fun t v H2 r x e fl=>?_⟩
 ·rcases z with z | ⟨i,z,_⟩
  ·exact z.elim
  ·cases z
 ·match i with
  | 0=>trivial
  | 1=>rfl
  | 2=>trivial
  | 3=>trivial
  | n+4=>trivial
 ·obtain⟨a,ts,ws,rfl,rfl,h1,h2,h3⟩:=fl rfl
  cases e
  obtain⟨v,vs,rfl,e1,e2⟩:=h3
  cases e1;cases e2
  exact q H2 a (fun b o e=>x.ext b o e fun z=>z) h1 h2
end
section
variable {X:Cx} {ea C D:Addr}
end
end L2
namespace L2
open PySem PySem.Spec PyProof.Rows
section
variable {P:Program} {w:World} {K:PySem.W.Frag} {mg:Str→Option Value} {base:Heap} {k:Nat} {x qual:Str} {st:Stmt} {f:Addr} {fd:FuncData} {N ps:List Str}
end
end L2
namespace L2
open PySem PySem.Spec PyProof.Rows
section
variable {X:Cx} {pos:Pos}
end
section
variable {K:PySem.W.Frag} {fr:Bool}
end
end L2
namespace L2
open PySem
def drT (a b:Int):Tr:=.tup [.int a,.int b]
def tn (a b c d:Int):Int:=a*d-b*c
end L2
namespace Trn
abbrev D2:=Int×Int
def cr (p q:D2):Int:=p.1*q.2-p.2*q.1
def sc (m:Int)(p:D2):D2:=(m*p.1,m*p.2)
def ad (p q:D2):D2:=(p.1+q.1,p.2+q.2)
def sb (p q:D2):D2:=(p.1-q.1,p.2-q.2)
def InC (u v x:D2):Prop:=0≤cr u x∧0≤cr x v
end Trn
namespace Trn
def Bx (n:Int)(p:D2):Prop:=(-n≤p.1∧p.1≤n)∧-n≤p.2∧p.2≤n
end Trn
namespace Trn
def gd (p:D2):Int:=(Int.gcd p.1 p.2:Nat)
theorem aB {p:D2}(h:p≠(0,0)):0<gd p:=by
 unfold gd
 have:0<Int.gcd p.1 p.2:=Int.gcd_pos_iff.mpr (by
  by_cases c:p.1=0
  ·exact .inr fun z=>h (Prod.ext c z)
  ·exact .inl c)
 omega
end Trn
namespace L2
open PySem Trn
def drD (p:D2):Tr:=drT p.1 p.2
theorem _root_.Trn.Bx.mono {n m:Int}{u:D2}(h:Bx n u)(hm:n≤m):Bx m u:=by unfold Bx at *;omega
theorem fy {α:Type}(ts:List α)(x y:α):atT (ts++[x,y]) (-2)=some x:=by
 show(if 1<(ts++[x,y]).length then getT (ts++[x,y]) ((ts++[x,y]).length-1-1) else none)=_
 have e:(ts++[x,y]).length=ts.length+2:=by simp
 rw[e,if_pos (by omega),jo,show ts.length+2-1-1=ts.length by omega]
 simp
end L2
namespace L2
open PySem
end L2
namespace L2
open PySem
def k0 (r:Pol.R3):Int:=r.1
def k1 (r:Pol.R3):Int:=r.2.1
def k2 (r:Pol.R3):Int:=r.2.2
def xaV (a b:F2):Prop:=a.2=1∧b.2=1∧¬(a.1=0∧b.1=0)
theorem mX {α:Type}(ts:List α):jK ts none (some (-1))=ts.take (ts.length-1):=by
 unfold jK
 have e:HT.sIx ts.length ts.length (some (-1))=ts.length-1:=by
  show(if (-1:Int)<0 then((-1:Int)+(ts.length:Int)).toNat else min (-1:Int).toNat ts.length)=_
  rw[if_pos (by decide)];omega
 rw[e,HT.gY,xdD,xeK]
instance (a b:F2):Decidable (xaV a b):=by unfold xaV;infer_instance
end L2
namespace L2
open PySem Trn
theorem LF0.grow {rows rows':List Pol.R3}(h:LF0 rows)(hl:rows'.length≤8)(l3:3≤rows'.length)(m:∀r∈rows,r∈rows')(hx:∀r∈rows',r∈rows∨Extra r):LF0 rows' :=
 ⟨l3,hl,fun r hr=>(hx r hr).elim (h.sm r) fun z=>by unfold Extra at z;omega,fun r hr=>(hx r hr).elim (h.dir r) fun z=>z.2,fun u v hn=>let ⟨r,hr,p⟩:=h.gr u v hn;⟨r,m r hr,p⟩,fun p hz hk=>h.near p hz fun r hr=>hk r (m r hr)⟩
theorem LF0.ins {rows:List Pol.R3}(h:LF0 rows){r:Pol.R3}(hr:Extra r)(hl:rows.length≤7)(k:Nat):LF0 (rows.take k++[r]++rows.drop k):=by
 have mem:∀x,x∈rows.take k++[r]++rows.drop k↔x∈rows∨x=r:=fun x=>by
  have:=List.take_append_drop k rows
  rw[xd_,xd_,xel]
  conv=>rhs;lhs;rw[←this,xd_]
  constructor
  ·rintro((z | z) | z)
   ·exact .inl (.inl z)
   ·exact .inr z
   ·exact .inl (.inr z)
  ·rintro((z | z) | z)
   ·exact .inl (.inl z)
   ·exact .inr z
   ·exact .inl (.inr z)
 have len:(rows.take k++[r]++rows.drop k).length=rows.length+1:=by
  simp only[xdU,xd4,xdW,xd3];omega
 have:=h.l3
 exact h.grow (by omega) (by omega) (fun x hx=>(mem x).mpr (.inl hx)) fun x hx=>((mem x).mp hx).imp id fun z=>by rw[z];exact hr
def bg:List (Int×Int):=[(1,0),(-1,0),(0,1),(0,-1)]
def lA (i:Nat)(rows:List Pol.R3):Prop:=rows.length=i∧∀(j:Nat) (r:Pol.R3) (d:Int×Int),rows[j]? = some r→bg[j]? = some d→∃b c:Int,((1≤b∧b≤4)∧0≤c∧c≤3*b)∧r=(d.1*b,d.2*b,c)
theorem sj {i:Nat}{d:Int×Int}(h:bg[i]? = some d):(-1≤d.1∧d.1≤1)∧(-1≤d.2∧d.2≤1):=by
 have:=xei h
 simp only[bg,xec,xep,xeV] at this
 rcases this with rfl | rfl | rfl | rfl<;>decide
theorem lA.step {i:Nat}{rows:List Pol.R3}(h:lA i rows){d:Int×Int}(hd:bg[i]? = some d){b c:Int}(hb:(1≤b∧b≤4)∧0≤c∧c≤3*b):lA (i+1) (rows++[(d.1*b,d.2*b,c)]):=by
 refine⟨by rw[xdU,h.1];rfl,fun j r d' hr hd'=>?_⟩
 by_cases hj:j<i
 ·rw[xdN (by rw[h.1];exact hj)] at hr
  exact h.2 j r d' hr hd'
 ·have hl:=(xdQ.mp hr).1
  rw[xdU,h.1,xd3] at hl
  have:j=i:=by omega
  subst this
  rw[List.getElem?_append_right (by rw[h.1];exact xeA _),h.1,Nat.sub_self] at hr
  rw[hd] at hd'
  cases hr;cases hd'
  exact⟨b,c,hb,rfl⟩
theorem lA.lf {rows:List Pol.R3}(h:lA 4 rows):LF0 rows:=by
 obtain⟨hl,h⟩:=h
 rcases rows with _ | ⟨r1,_ | ⟨r2,_ | ⟨r3,_ | ⟨r4,_ | ⟨r5,rs⟩⟩⟩⟩⟩
 ·cases hl
 ·cases hl
 ·cases hl
 ·cases hl
 ·obtain⟨b2,c2,h2,e2⟩:=h 0 r1 (1,0) rfl rfl
  obtain⟨b1,c1,h1,e1⟩:=h 1 r2 (-1,0) rfl rfl
  obtain⟨b4,c4,h4,e4⟩:=h 2 r3 (0,1) rfl rfl
  obtain⟨b3,c3,h3,e3⟩:=h 3 r4 (0,-1) rfl rfl
  have e1:r2=(-b1,0,c1):=by rw[e1];simp
  have e2:r1=(b2,0,c2):=by rw[e2];simp
  have e3:r4=(0,-b3,c3):=by rw[e3];simp
  have e4:r3=(0,b4,c4):=by rw[e4];simp
  have m1:(-b1,0,c1)∈[r1,r2,r3,r4]:=by rw[←e1];simp
  have m2:(b2,0,c2)∈[r1,r2,r3,r4]:=by rw[←e2];simp
  have m3:(0,-b3,c3)∈[r1,r2,r3,r4]:=by rw[←e3];simp
  have m4:(0,b4,c4)∈[r1,r2,r3,r4]:=by rw[←e4];simp
  have four:∀r∈[r1,r2,r3,r4],r=(b2,0,c2)∨r=(-b1,0,c1)∨r=(0,b4,c4)∨r=(0,-b3,c3):=fun r hr=>by
   simp only[xec,xep,xeV] at hr
   rw[←e1,←e2,←e3,←e4];exact hr
  refine⟨by simp,by simp,fun r hr=>?_,fun r hr=>?_,fun u v hn=>?_,fun p hz hk=>?_⟩
  ·rcases four r hr with h | h | h | h<;>subst h<;>simp only<;>omega
  ·rcases four r hr with h | h | h | h
   ·subst h;exact .inl (by simp only;omega)
   ·subst h;exact .inl (by simp only;omega)
   ·subst h;exact .inr (by simp only;omega)
   ·subst h;exact .inr (by simp only;omega)
  ·rcases xdl u 0 with c | c | c
   ·refine⟨_,m1,?_⟩
    simp only
    have:=xdr (show 0<b1 by omega) (show 0 < -u by omega)
    grind
   ·rcases xdl v 0 with d | d | d
    ·refine⟨_,m3,?_⟩
     simp only
     have:=xdr (show 0<b3 by omega) (show 0 < -v by omega)
     grind
    ·omega
    ·refine⟨_,m4,?_⟩
     simp only
     have:=xdr (show 0<b4 by omega) d
     grind
   ·refine⟨_,m2,?_⟩
    simp only
    have:=xdr (show 0<b2 by omega) c
    grind
  ·have k1:=hk _ m1
   have k2:=hk _ m2
   have k3:=hk _ m3
   have k4:=hk _ m4
   simp only[Pol.val] at k1 k2 k3 k4
   have e1:=xbb (c:=c1) (x:=-p.1) h1.1.1 (by omega) hz (by grind)
   have e2:=xbb (c:=c2) (x:=p.1) h2.1.1 (by omega) hz (by grind)
   have e3:=xbb (c:=c3) (x:=-p.2.1) h3.1.1 (by omega) hz (by grind)
   have e4:=xbb (c:=c4) (x:=p.2.1) h4.1.1 (by omega) hz (by grind)
   omega
 ·simp at hl
def kC (sw:Bool)(s t:Int)(r:Pol.R3):Pol.R3:=if sw=true then(r.2.1*s,r.1*t,r.2.2) else(r.1*s,r.2.1*t,r.2.2)
theorem LF0.turned {rows:List Pol.R3}(h:LF0 rows)(sw:Bool){s t:Int}(hs:s=1∨s = -1)(ht:t=1∨t = -1):LF0 (rows.map (kC sw s t)):=by
 have val:∀(r p:Pol.R3),Pol.val (kC sw s t r) p=Pol.val r (if sw=true then(t*p.2.1,s*p.1,p.2.2) else(s*p.1,t*p.2.1,p.2.2)):=fun r p=>by
  unfold kC
  split<;>simp only[Pol.val]<;>grind
 refine⟨by rw[xdZ];exact h.l3,by rw[xdZ];exact h.l8,fun r hr=>?_,fun r hr=>?_,fun u v hn=>?_,fun p hz hk=>?_⟩
 ·obtain⟨q,hq,rfl⟩:=xeg.mp hr
  have:=h.sm q hq
  unfold kC
  split<;>simp only<;>rcases hs with rfl | rfl<;>rcases ht with rfl | rfl<;>omega
 ·obtain⟨q,hq,rfl⟩:=xeg.mp hr
  have:=h.dir q hq
  unfold kC
  split<;>simp only<;>rcases hs with rfl | rfl<;>rcases ht with rfl | rfl<;>omega
 ·cases sw with
  | true =>
   obtain⟨r,hr,p⟩:=h.gr (t*v) (s*u) (by rcases hs with rfl | rfl<;>rcases ht with rfl | rfl<;>omega)
   refine⟨_,xeh hr,?_⟩
   show 0<r.2.1*s*u+r.1*t*v
   grind
  | false =>
   obtain⟨r,hr,p⟩:=h.gr (s*u) (t*v) (by rcases hs with rfl | rfl<;>rcases ht with rfl | rfl<;>omega)
   refine⟨_,xeh hr,?_⟩
   show 0<r.1*s*u+r.2.1*t*v
   grind
 ·have:=h.near (if sw=true then(t*p.2.1,s*p.1,p.2.2) else(s*p.1,t*p.2.1,p.2.2)) (by split<;>exact hz) fun r hr=>by rw[←val];exact hk _ (xeh hr)
  cases sw with
  | true=>simp only[if_true] at this;rcases hs with rfl | rfl<;>rcases ht with rfl | rfl<;>omega
  | false=>simp only[Bool.false_eq_true,xeS] at this;rcases hs with rfl | rfl<;>rcases ht with rfl | rfl<;>omega
def cE:TSp:=fun ts KK=>ts=[]∧∀rows,LF0 rows→KK (.lst (rows.map trR))
def wp (p:D2):P2:=((p.1,1),(p.2,1))
def wpT (p:D2):Tr:=pT (wp p)
def yI (i:Nat):List D2:=(List.range 25).map fun(j:Nat)=>((-12+(i:Int),-12+(j:Int)):D2)
def lI:List D2:=(List.range 25).flatMap yI
theorem q8 (i:Nat):((List.range i).flatMap yI).length=25*i:=by
 induction i with
 | zero=>rfl
 | succ i ih =>
  rw[xeq,xdI,xdU,ih,xdJ,List.flatMap_nil,xdz]
  show 25*i+((List.range 25).map _).length=_
  rw[xdZ,List.length_range]
  omega
def kH (rows:List Pol.R3)(p:D2):Bool:=rows.all fun r=>decide (r.1*p.1+r.2.1*p.2≤r.2.2)
def wK (rows:List Pol.R3):List D2:=lI.filter (kH rows)
def h_ (p q r:D2):Bool:=decide ((q.1-p.1)*(r.2-p.2)>(q.2-p.2)*(r.1-p.1))
def kG:List D2→D2→List D2
 | b::a::s,p=>if h_ a b p=true then b::a::s else kG (a::s) p
 | s,_=>s
def chR (ps:List D2):List D2:=ps.foldl (fun s p=>p::kG s p) []
def half (ps:List D2):List D2:=(chR ps).reverse.take ((chR ps).length-1)
def uD (ps:List D2):List D2:=if 1<ps.length then half ps++half ps.reverse else ps
theorem rp {p x:D2}:∀ {s:List D2},x∈kG s p→x∈s
 | [],h=>h
 | [_],h=>h
 | b::a::s,h=>by
  unfold kG at h
  split at h
  ·exact h
  ·exact xed _ (rp h)
theorem kL {p:D2}:∀ {s:List D2},(kG s p).length≤s.length
 | []=>xeA _
 | [_]=>xeA _
 | b::a::s=>by
  unfold kG
  split
  ·exact xeA _
  ·have:=kL (p:=p) (s:=a::s)
   simp only[xdV] at *
   omega
theorem az {ps:List D2}{i:Nat}{p:D2}(h:ps[i]? = some p):chR (ps.take (i+1))=p::kG (chR (ps.take i)) p:=Pol.vy (fun s p=>p::kG s p) [] h
theorem tP {P:D2→Prop}{ps:List D2}(h:∀p∈ps,P p):∀x∈chR ps,P x:=by
 have go:∀(ps:List D2) (s:List D2),(∀p∈ps,P p)→(∀x∈s,P x)→∀x∈ps.foldl (fun s p=>p::kG s p) s,P x:=fun ps=>by
  induction ps with
  | nil=>exact fun s _ hs=>hs
  | cons p ps ih =>
   intro s hp hs
   exact ih _ (fun q hq=>hp q (xed _ hq)) fun x hx=>(xec.mp hx).elim (fun e=>by rw[e];exact hp p xee) fun hx=>hs x (rp hx)
 exact go ps [] h fun x hx=>by simp at hx
theorem sL (ps:List D2):(chR ps).length≤ps.length:=by
 have go:∀(ps:List D2) (s:List D2),(ps.foldl (fun s p=>p::kG s p) s).length≤s.length+ps.length:=fun ps=>by
  induction ps with
  | nil=>exact fun s=>xeA _
  | cons p ps ih =>
   intro s
   have a:=ih (p::kG s p)
   have b:=kL (p:=p) (s:=s)
   rw[xdL,xdV]
   rw[xdV] at a
   omega
 have:=go ps []
 rw[xd0,Nat.zero_add] at this
 exact this
theorem vv (ps:List D2):(half ps).length≤ps.length:=by
 have:=sL ps
 unfold half
 rw[xd4,xd1]
 omega
theorem dE (ps:List D2):(uD ps).length≤2*ps.length:=by
 unfold uD
 split
 ·have a:=vv ps
  have b:=vv ps.reverse
  rw[xd1] at b
  rw[xdU]
  omega
 ·omega
theorem nP {ps:List D2}(h:ps.length<3):uD ps=ps:=by
 unfold uD
 rcases ps with _ | ⟨a,_ | ⟨b,_ | ⟨c,r⟩⟩⟩
 ·rfl
 ·rfl
 ·rfl
 ·simp at h
  omega
def oB (p q:D2):Prop:=p.1<q.1∨p.1=q.1∧p.2<q.2
def xba (p q:D2):Bool:=decide (p.1<q.1∨p.1=q.1∧p.2<q.2)
theorem sV:lI.Pairwise oB:=by
 unfold lI
 rw[List.pairwise_flatMap]
 refine⟨fun i _=>?_,?_⟩
 ·unfold yI
  rw[List.pairwise_map]
  exact List.pairwise_lt_range.imp fun {a b} h=>.inr ⟨rfl,by simp only;omega⟩
 ·refine List.pairwise_lt_range.imp fun {a b} h x hx y hy=>?_
  obtain⟨_,_,rfl⟩:=xeg.mp hx
  obtain⟨_,_,rfl⟩:=xeg.mp hy
  exact .inl (by simp only;omega)
theorem se (rows:List Pol.R3):(wK rows).Pairwise oB:=sV.filter _
theorem ng {p:D2}(h:p∈lI):Bx 12 p:=by
 obtain⟨i,hi,h⟩:=List.mem_flatMap.mp h
 obtain⟨j,hj,rfl⟩:=xeg.mp h
 have:=xek.mp hi
 have:=xek.mp hj
 unfold Bx
 simp only
 omega
theorem mi {rows:List Pol.R3}{p:D2}(h:p∈wK rows):Bx 12 p:=ng (xef.mp h).1
theorem rG:lI.length=625:=q8 25
theorem gQ (rows:List Pol.R3):(wK rows).length≤625:=by rw[←rG];exact xdY _ _
theorem cP {ps:List D2}(h:ps.Pairwise oB){i:Nat}{p:D2}(hp:ps[i]? = some p){q:D2}(hq:q∈ps.take i):oB q p:=by
 obtain⟨j,hj,rfl⟩:=List.mem_iff_getElem.mp hq
 have hi:=(xdQ.mp hp).1
 rw[xd4] at hj
 rw[xdO hi] at hp
 cases hp
 rw[List.getElem_take]
 exact List.pairwise_iff_getElem.mp h j i (by omega) hi (by omega)
theorem xa4 {p q:D2}(h:oB q p):q≠p:=fun e=>by
 rw[e] at h
 unfold oB at h
 omega
theorem rD (f:D2→Tr)(ps:List D2):jK ((chR ps).reverse.map f) none (some (-1))=(half ps).map f:=by
 rw[mX,xdZ,xd1,←List.map_take];rfl
theorem xaR (a b:Int):fmin (a,1) (b,1)=(a-b,1):=by
 show lfr (a*1-b*1) (1*1)=(a-b,1)
 rw[Int.mul_one,Int.mul_one,sJ (by decide)]
 exact Fra.be _
theorem xaW (a b:Int):oi (a,1) (b,1)=(a*b,1):=by
 show lfr (a*b) (1*1)=(a*b,1)
 rw[sJ (by decide)]
 exact Fra.be _
theorem cJ (p q r:D2):dn (wp p) (wp q) (wp r)=(q.1-p.1)*(r.2-p.2)-(q.2-p.2)*(r.1-p.1):=by
 unfold dn wp
 simp only[xaR,xaW]
theorem xcS {k:Nat}{a:Int}(h:Bk k a)(hk:1≤k):Fk k (a,1):=⟨h,(show Bk 1 (1:Int) by unfold Bk;decide).mono hk,by show(0:Int)<1;decide⟩
theorem xbc {p:D2}(h:Bx 1000 p):Pk 30 (wp p):=by
 have b:∀a:Int,-1000≤a∧a≤1000→Fk 30 (a,1):=fun a ha=>xcS (by unfold Bk;omega) (by decide)
 exact⟨b _ h.1,b _ h.2⟩
def fM (p q:P2):Bool:=if p.1=q.1 then cq p.2 q.2 else cq p.1 q.1
theorem bK (p q:D2):fM (wp p) (wp q)=xba p q:=by
 unfold fM wp cq xba
 simp only[Prod.mk.injEq,and_true,Int.mul_one]
 split
 ·rename_i e
  rw[e]
  simp
 ·rename_i e
  by_cases h:p.1<q.1
  ·simp[h]
  ·simp[h,e]
theorem xbL (d:Nat)(p:D2):Sm (d+2) (wpT p):=by
 have s:∀(d:Nat) (a:Int),Sm (d+1) (fT (a,1)):=fun d a=>.inr ⟨_,.inl rfl,by simp,fun u hu=>by
  simp only[xec,xep,xeV] at hu
  rcases hu with rfl | rfl<;>(cases d<;>first | rfl | exact .inl rfl)⟩
 exact .inr ⟨_,.inl rfl,by simp,fun u hu=>by
  simp only[xec,xep,xeV] at hu
  rcases hu with rfl | rfl<;>exact s _ _⟩
theorem pU {ps:List D2}(h:ps.length≤100000):Sm 4 (.lst (ps.map wpT)):=.inr ⟨_,.inr rfl,by rw[xdZ];exact h,fun u hu=>by
 obtain⟨p,_,rfl⟩:=xeg.mp hu
 exact xbL 1 p⟩
def bc:TSp:=fun ts KK=>∃p q r:D2,ts=[drD p,drD q,drD r]∧(Bx 1000 p∧Bx 1000 q∧Bx 1000 r)∧KK (.bl (h_ p q r))
def fU:TSp:=fun ts KK=>∃ps:List D2,ts=[.lst (ps.map drD)]∧(∀p∈ps,Bx 1000 p)∧ps.length≤1000∧KK (.lst ((half ps).map drD))
def jf:TSp:=fun ts KK=>∃rows:List Pol.R3,ts=[.tup (rows.map trR)]∧xw rows=true∧KK (.lst ((wK rows).map drD))
def gR:TSp:=fun ts KK=>∃p:D2,ts=[drD p]∧KK (wpT p)
def fj:TSp:=fun ts KK=>∃rows:List Pol.R3,ts=[.tup (rows.map trR)]∧xw rows=true∧KK (.lst ((wK rows).map wpT))
def lW:TSp:=fun ts KK=>∃rows:List Pol.R3,ts=[.tup (rows.map trR)]∧xw rows=true∧KK (.lst ((uD (wK rows)).map wpT))
def nZ:TSp:=fun ts KK=>∃p q:P2,ts=[pT p,pT q]∧Pk 900 p∧Pk 900 q∧KK (.bl (fM p q))
def aK:TSp:=fun ts KK=>∃ps:List D2,ts=[.lst (ps.map wpT)]∧(∀p∈ps,Bx 1000 p)∧ps.length≤1000∧KK (.lst ((chR ps).reverse.map wpT))
def nG:TSp:=fun ts KK=>∃ps:List D2,ts=[.lst (ps.map wpT)]∧(∀p∈ps,Bx 1000 p)∧ps.Pairwise oB∧ps.length≤1000∧KK (.lst ((uD ps).map wpT))
def tS:TSp:=fun ts KK=>∃rows:List Pol.R3,ts=[.tup (rows.map trR)]∧xw rows=true∧KK (.lst ((wK rows).map wpT))
end L2
namespace L2
open PySem
theorem xH {X:Cx}(K:PySem.W.Frag)(i:Nat){x:Str}{n:Int}{j p q r}(e:X.K=K:=by rfl)(hN:X.N[i]? = some x:=by rfl)(hv:Vis X.env.scope x:=by first | exact Or.inl rfl | exact Or.inr (Or.inl rfl) | exact Or.inr (Or.inr rfl))(hd:(x == ("__debug__" : Str))=false:=by decide)
  (hcd:(x == ("__classdict__" : Str))=false:=by decide):PE X (.Subscript (.Name x p) (.Constant (.int n) j q) r) (tOp (rIx K) (fb i) (tC (.int n))):=uE (wF K e) (pv i hN hv hd hcd) xc (fun _ _=>rfl)
theorem xI {K:PySem.W.Frag}{i:Nat}{n:Int}:OkE K true (tOp (rIx K) (fb i) (tC (.int n))) (d2 fIx (lM i) (dC (Tr.int n))):=rJ xa (xa8 (t:=Tr.int _))
theorem yT {X:Cx}{e te}(a:PE X e te)(h:starEach [e] X.env=(false,eval e X.env)::starEach [] X.env:=by rfl):PA X [e] (zL te dY):=xS a wo h
theorem x9 {X:Cx}{e te f tf}(a:PE X e te)(b:PE X f tf)(h:starEach [f] X.env=(false,eval f X.env)::starEach [] X.env:=by rfl)(g:starEach [e,f] X.env=(false,eval e X.env)::starEach [f] X.env:=by rfl):PA X [e,f] (zL te (zL tf dY)):=xS a (xS b wo h) g
theorem xN {K:PySem.W.Frag}{b:Bool}{te:TE}{de:DE}(h:OkE K b te de):OkA K b 1 (zL te dY) (tu de xap):=xT h zJ
theorem xG {K:PySem.W.Frag}{b:Bool}{te tf:TE}{de df:DE}(h:OkE K b te de)(g:OkE K b tf df):OkA K b 2 (zL te (zL tf dY)) (tu de (tu df xap)):=xT h (xT g zJ)
theorem xo {K:PySem.W.Frag}{i:Int}:OkE K true (tC (.int i)) (dC (.int i)):=xa8
theorem kD {K:PySem.W.Frag}{i:Bool}:OkE K true (tC (.bl i)) (dC (.bl i)):=xa8
theorem ym {N P:List Str}{sc:Scope}(h:sc.kind=.function∧sc.isCoroutine=false∧sc.isGenerator=false∧N.Nodup∧N.take P.length=P∧(∀x∈P,sc.names.lookup x=some .local∨sc.names.lookup x=some .cell)∧∀y∈sc.names,y.2≠.free:=by decide +kernel):xt N P sc:=⟨h.1,h.2.1,h.2.2.1,h.2.2.2.1,h.2.2.2.2.1,h.2.2.2.2.2.1,h.2.2.2.2.2.2⟩
theorem y9 {X:Cx}(i:Nat){x:Str}{pos:Pos}(hN:X.N.Nodup)(hi:X.N[i]? = some x:=by rfl)(hx:X.env.scope.names.lookup x=some .local:=by rfl):PG X (.Name x pos) (jN i):=ye hN hi (.inl hx) (.inr hx)
theorem yW {X:Cx}(i:Nat){x:Str}{e:Expr}{te:TE}{pos pos':Pos}(hN:X.N.Nodup)(he:PE X e te)(hi:X.N[i]? = some x:=by rfl)(hx:X.env.scope.names.lookup x=some .local:=by rfl)(hs:swapsWith e (some (.Name x pos')) pos.line X.env=pure false:=by rfl):PS X (.Assign [.Name x pos'] e pos) (oA te (jN i)):=fN hN hi (.inl hx) he hs (.inr hx)
end L2
namespace K31
open PySem L2 Trn
def top (i:Nat):Stmt:=PySem.Challenge.pw_roundcuts_k31_whole_places_and_hulls.main.body.getD i (.Pass ⟨0,0,0,0⟩)
abbrev qB:Stmt:=top 4
abbrev uf:Stmt:=top 5
abbrev zi:Stmt:=top 6
abbrev gc:Stmt:=top 7
abbrev wJ:Stmt:=top 10
abbrev vh:Stmt:=top 11
abbrev qN:Stmt:=top 12
abbrev uz:Stmt:=top 13
abbrev vL:Stmt:=top 14
abbrev gI:Stmt:=top 15
abbrev zk:Stmt:=top 16
abbrev vg:Stmt:=top 17
abbrev qF:Stmt:=top 18
abbrev gA:Stmt:=top 20
abbrev jl:Stmt:=top 21
abbrev qQ:Stmt:=top 22
abbrev qR:Stmt:=top 23
abbrev um:Stmt:=top 24
abbrev w9:Stmt:=top 26
abbrev wU:Stmt:=top 27
abbrev qy:Stmt:=top 28
abbrev u5:Stmt:=top 29
abbrev zD:Stmt:=top 31
abbrev uj:Stmt:=top 32
abbrev y3:Stmt:=top 33
abbrev rA:Stmt:=top 34
abbrev vP:Stmt:=top 35
abbrev wC:Stmt:=top 36
abbrev vX:Stmt:=top 38
abbrev qM:Stmt:=top 39
abbrev uY:Stmt:=top 40
abbrev u7:Stmt:=top 41
abbrev wL:Stmt:=top 42
abbrev uG:Stmt:=top 43
abbrev yB:Stmt:=top 44
abbrev vO:Stmt:=top 45
abbrev uT:Stmt:=top 46
abbrev wV:Stmt:=top 47
abbrev qL:Stmt:=top 48
abbrev u6:Stmt:=top 49
abbrev uS:Stmt:=top 50
abbrev vZ:Stmt:=top 51
abbrev uJ:Stmt:=top 52
abbrev uu:Stmt:=top 53
abbrev wc:Stmt:=top 54
abbrev jS:Stmt:=top 55
theorem sW:xt ["thing"] ["thing"] (xg qB):=ym
theorem fc:xt ["things"] ["things"] (xg uf):=ym
theorem y_:xt ["one", "other"] ["one", "other"] (xg zi):=ym
theorem dU:xt ["top", "bottom", "shared"] ["top", "bottom"] (xg gc):=ym
theorem jC:xt ["rows"] ["rows"] (xg wJ):=ym
theorem gz:xt ["rows"] ["rows"] (xg vh):=ym
theorem vR:xt ["piece", "rows", "row"] ["piece", "rows"] (xg qN):=ym
theorem fW:xt ["piece"] ["piece"] (xg uz):=ym
theorem zf:xt ["piece", "row", "left", "at", "corner", "before", "crossing"] ["piece", "row"] (xg vL):=ym
theorem z_:xt ["row", "corner", "a", "b", "c", "x", "y", "bottom"] ["row", "corner"] (xg gI):=ym
theorem yh:xt ["row", "one", "other", "one_off", "other_off", "x", "y", "bottom", "shared"] ["row", "one", "other"] (xg zk):=ym
theorem zh:xt ["piece", "start", "at", "corner"] ["piece"] (xg vg):=ym
theorem s_:xt ["one", "other"] ["one", "other"] (xg qF):=ym
theorem bC:xt ["thing"] ["thing"] (xg gA):=ym
theorem tx:xt ["one", "other"] ["one", "other"] (xg jl):=ym
theorem uy:xt ["rows", "first", "left", "right"] ["rows"] (xg qQ):=ym
theorem ux:xt ["first", "rows", "sign", "last", "row"] ["first", "rows", "sign"] (xg qR):=ym
theorem vH:xt ["first", "rows", "row"] ["first", "rows"] (xg um):=ym
theorem sd:xt ["thing"] ["thing"] (xg w9):=ym
theorem zj:xt ["thing", "a", "b", "c"] ["thing"] (xg wU):=ym
theorem rR:xt ["place"] ["place"] (xg qy):=ym
theorem gH:xt ["thing"] ["thing"] (xg u5):=ym
theorem jh:xt ["field"] ["field"] (xg zD):=ym
theorem wO:xt ["point", "x", "y"] ["point"] (xg uj):=ym
theorem vb:xt ["field", "points"] ["field"] (xg y3):=ym
theorem sQ:xt ["field", "points"] ["field"] (xg rA):=ym
theorem uP:xt ["points", "bend", "point"] ["points"] (xg vP):=ym
theorem jk:xt ["one", "other", "third"] ["one", "other", "third"] (xg wC):=ym
theorem wA:xt ["_law_state_here", "_law_many", "_law_found", "_law_stirred"] ["_law_state_here", "_law_many"] (xg vX):=ym
theorem yC:xt ["_law_state_here", "_law_rows", "_law_a", "_law_b", "_law_many", "_law_turn", "_law_x", "_law_y"] ["_law_state_here"] (xg qM):=ym
theorem uv:xt ["_law_state_here", "_law_long", "_law_rows"] ["_law_state_here"] (xg uY):=ym
theorem yb:xt ["_law_state_here", "_law_rows", "_law_way", "_law_u", "_law_v", "_law_found", "_law_a", "_law_b", "_law_c"] ["_law_state_here"] (xg u7):=ym
theorem jB:xt ["_law_script", "_law_k"] ["_law_script", "_law_k"] (xg wL):=ym
theorem qf:xt ["_law_script", "_law_k", "_law_cell"] ["_law_script", "_law_k"] (xg uG):=ym
theorem yr:xt ["_law_rows", "_law_found", "_law_x", "_law_y"] ["_law_rows"] (xg yB):=ym
theorem dD:xt ["_law_one", "_law_other"] ["_law_one", "_law_other"] (xg vO):=ym
theorem gK:xt ["_law_one", "_law_other"] ["_law_one", "_law_other"] (xg uT):=ym
theorem uM:xt ["_law_one", "_law_other"] ["_law_one", "_law_other"] (xg wV):=ym
theorem vY:xt ["_law_top", "_law_bottom", "_law_by"] ["_law_top", "_law_bottom"] (xg qL):=ym
theorem gC:xt ["_law_one", "_law_other"] ["_law_one", "_law_other"] (xg u6):=ym
theorem gN:xt ["_law_one", "_law_other"] ["_law_one", "_law_other"] (xg uS):=ym
theorem q_:xt ["_law_one", "_law_other", "_law_third", "_law_ahead_here"] ["_law_one", "_law_other", "_law_third"] (xg vZ):=ym
theorem ue:xt ["_law_places", "_law_found", "_law_place"] ["_law_places"] (xg uJ):=ym
theorem uI:xt ["_law_places", "_law_some", "_law_place"] ["_law_places"] (xg uu):=ym
theorem km:xt ["_law_found", "_law_due"] ["_law_found", "_law_due"] (xg wc):=ym
theorem je:xt ["_law_script", "_law_k", "_law_field_here", "_law_places", "_law_due", "_law_turn", "_law_found", "_law_around"] ["_law_script"] (xg jS):=ym
abbrev bn:List Str:=["len", "range", "max", "min", "abs", "isinstance", "tuple", "list", "int", "bool", "str", "dict", "all", "zip", "enumerate", "ValueError"]
section
variable {P:Program} {w:World} {K:PySem.W.Frag} {mg:Str→Option Value} {base:Heap} {f:Addr} {fd:FuncData}
theorem kW (B:Blt mg bn)(F:Fun K "_law_cell_at" "_law_cell_at" wL f fd)(m:mg "_law_cell_at" = some (.ref f))(b:Binds K fd ["_law_script", "_law_k"] []):Own P w K mg base 1 "_law_cell_at" ["_law_script", "_law_k"] (pG K):=by
 refine j6 F jB m b (fun vs H Q E h=>?_) (fun cdv A outer s H vs Q E hr h=>?_)
 ·obtain⟨a,ns,k,rfl,_⟩:=h
  rfl
 obtain⟨a,ns,k,rfl,hS,h63,h0,q⟩:=h
 refine⟨_,(xf (zg (xW xab (pv 1) (xx (yx K) rfl (B.get "len") wY (xS (pv 0) wo)) (xV _)) (xi (xD (uE (wx K) (pv 0) (pv 1) (fun _ _=>rfl)))) x_)
  (xi (xD xc))),?_⟩
 refine⟨_,rfl,_,rfl,a,_,rfl,.inl hS,_,_,rfl,rfl,_,rfl,?_⟩
 have hl:(ns.map V.int).length=ns.length:=xdZ _
 refine xcg (fun c=>?_) (fun c=>?_)
 ·have c':=xeU c
  rw[hl] at c'
  obtain⟨v,hv⟩:=bQ h0 c'
  exact⟨_,rfl,_,rfl,a,_,_,_,rfl,rfl,hS,hv,q v⟩
 ·exact q 0
theorem gT (F:Fun K "_law_state" "_law_state" uG f fd)(m:mg "_law_state" = some (.ref f))(b:Binds K fd ["_law_script", "_law_k"] [])(wD:Own P w K mg base 1 "_law_cell_at" ["_law_script", "_law_k"] (pG K)) :
  Own P w K mg base 2 "_law_state" ["_law_script", "_law_k"] (sO K):=by
 refine j6 F qf m b (fun vs H Q E h=>?_) (fun cdv A outer s H vs Q E hr h=>?_)
 ·obtain⟨a,ns,k,rfl,_⟩:=h
  rfl
 obtain⟨a,ns,k,rfl,hS,h63,h0,q⟩:=h
 refine⟨_,(xf (fN (i:=2) qf.nd rfl (Or.inl rfl) (xq wD hr (xS (pv 0) (xS (pv 1) wo))))
  (xf (zg (xW xbC (pv 2) (xu p7 xc xc) (xV _)) (xi (xD (zY (xS (xu zE (pv 2) (xu p7 xc xc)) (xS qh wo))))) x_)
  (xi (xD (zY (xS (xu jW (pv 2) xc) (xS qh wo))))))),?_⟩
 refine⟨_,rfl,_,rfl,a,ns,k,rfl,hS,h63,h0,fun n=>?_⟩
 have pw:xcm 10 18:=⟨by decide,by decide,by decide⟩
 refine⟨_,rfl,_,_,rfl,rfl,pw,_,_,rfl,rfl,_,rfl,?_⟩
 refine xcg (fun c=>?_) (fun c=>?_)
 ·have c':n≥10 ^ (18:Int).toNat:=xeU c
  refine⟨_,rfl,_,_,rfl,rfl,pw,_,_,rfl,rfl,(by show 2≤sizeLine;decide),fun p hp=>q p _ _ hp ⟨?_,fun z=>by cases z⟩⟩
  show 0≤n-10 ^ (18:Int).toNat
  omega
 ·refine⟨_,rfl,_,_,rfl,rfl,(by show(0:Int)<2147483647;decide),(by show 2≤sizeLine;decide),fun p hp=>q p _ _ hp ⟨?_,fun _=>?_⟩⟩
  ·show 0≤n % 2147483647
   omega
  ·show n % 2147483647<2147483647
   omega
theorem fG (F:Fun K "_law_take" "_law_take" vX f fd)(m:mg "_law_take" = some (.ref f))(b:Binds K fd ["_law_state_here", "_law_many"] []):Own P w K mg base 1 "_law_take" ["_law_state_here", "_law_many"] pC:=by
 refine j6 F wA m b (fun vs H Q E h=>?_) (fun cdv A outer s H vs Q E hr h=>?_)
 ·obtain⟨p,k,rfl,_⟩:=h
  rfl
 obtain⟨p,many,rfl,⟨n,bb,hp,hn,hb⟩,h0,h1,q⟩:=h
 refine⟨_,(xf (zg (wa (uE (wx K) (pv 0) xc (fun _ _=>rfl))) (xf (fN (i:=2) wA.nd rfl (Or.inl rfl) (xu jW (uE (wx K) (pv 0) xc (fun _ _=>rfl)) (pv 1)))
  (xf (ku (xu rf (uE (wx K) (pv 0) xc (fun _ _=>rfl)) (pv 1)) (c8 (pv 0) xc set_list))
  (xi (xD (pv 2))))) x_)
  (xf (ku (xu jW (xu ze (xu fw (uE (wx K) (pv 0) xc (fun _ _=>rfl)) xc) xc) xc) (c8 (pv 0) xc set_list))
  (xf (fN (i:=3) wA.nd rfl (Or.inl rfl) (xu jW (xu ze (xu ze (xu fw (uE (wx K) (pv 0) xc (fun _ _=>rfl)) (uE (wx K) (pv 0) xc (fun _ _=>rfl))) (xu fw xc (uE (wx K) (pv 0) xc (fun _ _=>rfl)))) xc) xc))
  (xf (fN (i:=3) wA.nd rfl (Or.inl rfl) (xu jW (xu ze (xu fw (pv 3) (pv 3)) (xu fw xc (pv 3))) xc))
  (xi (xD (xu jW (xu rf (pv 3) xc) (pv 1)))))))),?_⟩
 refine⟨_,rfl,p,_,_,_,rfl,rfl,SqL.of hp,rfl,bb,rfl,?_⟩
 have fin:∀(r n':Int),0≤r→r<many→xbW n' bb→Q (.int r) (upd H p (.lst [.int n',.bl bb])):=fun r n' h2 h3 h4=>q r _ h2 h3 ⟨fun b o hb k=>by rw[xC hb];exact k,n',bb,xM,h4⟩
 cases bb with
 | true =>
  refine tO ?_
  refine⟨_,rfl,p,_,_,_,rfl,rfl,SqL.of hp,rfl,_,rfl,_,_,rfl,rfl,h0,?_⟩
  refine⟨_,rfl,p,_,_,_,rfl,rfl,SqL.of hp,rfl,_,rfl,_,_,rfl,rfl,jc h0 h1,?_⟩
  refine⟨_,rfl,p,_,_,0,rfl,rfl,hp,rfl,?_⟩
  refine⟨_,rfl,?_⟩
  exact fin _ _ (xdg _ (by omega)) (xdf _ h0) ⟨Int.ediv_nonneg hn (by omega),fun z=>by cases z⟩
 | false =>
  refine sR ?_
  have hb':=hb rfl
  have cm:∀(i j:Int),0≤i→i<2147483700→xbe i j:=fun i j a b=>.inl ⟨by omega,by omega⟩
  refine⟨_,rfl,p,_,_,_,rfl,rfl,SqL.of hp,rfl,_,_,rfl,rfl,cm _ _ hn (by omega),_,_,rfl,rfl,_,_,rfl,rfl,(by show(0:Int)<2147483647;decide),?_⟩
  refine⟨_,rfl,p,_,_,0,rfl,rfl,hp,rfl,?_⟩
  have hz:∃z:Int,(n*48271+29) % 2147483647=z∧0≤z∧z<2147483647:=⟨_,rfl,by omega,by omega⟩
  obtain⟨z,ez,z0,z1⟩:=hz
  have hp':(upd H p (.lst [.int z,.bl false])) p=some (.lst [.int z,.bl false]):=xM
  show xbd _ _ _ _ (upd H p (.lst [.int ((n*48271+29) % 2147483647),.bl false]))
  rw[ez]
  refine⟨_,rfl,p,_,_,_,rfl,rfl,SqL.of hp',rfl,_,rfl,p,_,_,_,rfl,rfl,SqL.of hp',rfl,_,_,rfl,rfl,cm _ _ z0 (by omega),?_⟩
  refine⟨_,rfl,p,_,_,_,rfl,rfl,SqL.of hp',rfl,_,_,rfl,rfl,.inl ⟨by decide,by decide⟩,_,_,rfl,rfl,_,_,rfl,rfl,_,_,rfl,rfl,(by show(0:Int)<2147483629;decide),?_⟩
  have hy:∃y:Int,(z*z+39373*z+7) % 2147483629=y∧0≤y∧y<2147483629:=⟨_,rfl,xdg _ (by decide),xdf _ (by decide)⟩
  obtain⟨y,ey,y0,y1⟩:=hy
  show xbd _ _ _ [_,_,_,some (.int ((z*z+39373*z+7) % 2147483629))] _
  rw[ey]
  refine⟨_,rfl,_,rfl,_,_,rfl,rfl,cm _ _ y0 (by omega),_,rfl,_,_,rfl,rfl,.inl ⟨by decide,by decide⟩,_,_,rfl,rfl,_,_,rfl,rfl,(by show(0:Int)<2147483587;decide),?_⟩
  refine⟨_,rfl,_,_,rfl,rfl,jc (by decide) (by decide),_,rfl,_,_,rfl,rfl,h0,?_⟩
  exact fin _ _ (xdg _ (by omega)) (xdf _ h0) ⟨z0,fun _=>z1⟩
end
end K31
namespace K31
open PySem L2 Trn
section
variable {P:Program} {w:World} {K:PySem.W.Frag} {mg:Str→Option Value} {base:Heap} {f:Addr} {fd:FuncData}
theorem sX (B:Blt mg bn)(F:Fun K "is_whole" "is_whole" qB f fd)(m:mg "is_whole" = some (.ref f))(b:Binds K fd ["thing"] [])  :
  Own P w K mg base 1 "is_whole" ["thing"] (spT 1 false false pV):=by
 refine xA F sW m b rfl (fun _ _ _ _ _ _ hr=>⟨_,_,
  (xi (xD (aM (xx zB rfl (B.get "isinstance") yc (x9 (pv 0) (zH (v:=V.ty "int") rfl (B.get "int") lX rfl))) (f_ (xag (xx zB rfl (B.get "isinstance") yc (x9 (pv 0) (zH (v:=V.ty "bool") rfl (B.get "bool") af rfl)))))))),
  (xE (gx (vG xa) (lz (vG xa)))),fun ts KK hl h=>?_⟩)
 obtain⟨t,rfl,k⟩:=h
 cases t<;>exact k
theorem fC (B:Blt mg bn)(F:Fun K "are_whole" "are_whole" uf f fd)(m:mg "are_whole" = some (.ref f))(b:Binds K fd ["things"] [])(qC:Own P w K mg base 1 "is_whole" ["thing"] (spT 1 false false pV)) :
  Own P w K mg base 2 "are_whole" ["things"] (spT 1 false false fH):=by
 refine xA F fc m b rfl (fun _ _ _ _ _ _ hr=>⟨_,_,
  (xi (xD (xx (zX K rfl) rfl (B.get "all") hJ (yT (zG (yu (N:=["thing"]) (tau:=[none]) (XN:=["things"]) (xs:=xg uf) (by decide +kernel) rfl rfl) rfl (ui rfl) (zq K (pv 0)) (fun _ _ _ _=>(ye (i:=0) (show(["thing"]:List Str).Nodup by decide +kernel) rfl (Or.inl rfl))) (fun _ _ _ _=>zK) (fun _ _ _ _=>(xq qC hr (yT (pv 0))))))))),
  (xE (yp qY (xN (OkF.e (yU (yJ xa).c xl y4 (xF (xN xa))))))),fun ts KK hl h=>?_⟩)
 obtain⟨t,rfl,us,hs,hz,k⟩:=h
 rcases hs with rfl | rfl
 ·refine⟨hz,vq (fun x=>.bl (lJ x)) (fun x _ N hN=>⟨x,rfl,hN⟩) ⟨us.map lJ,by rw[xd8];rfl,?_⟩⟩
  simpa using k
 ·refine⟨hz,vq (fun x=>.bl (lJ x)) (fun x _ N hN=>⟨x,rfl,hN⟩) ⟨us.map lJ,by rw[xd8];rfl,?_⟩⟩
  simpa using k
theorem v5 (B:Blt mg bn)(F:Fun K "greatest_divisor" "greatest_divisor" zi f fd)(m:mg "greatest_divisor" = some (.ref f))(b:Binds K fd ["one", "other"] [])  :
  Own P w K mg base 1 "greatest_divisor" ["one", "other"] (spT 2 false false xaz):=by
 refine xA F y_ m b rfl (fun _ _ _ _ _ _ hr=>⟨_,_,
  (xf (v8 (i:=0) (j:=1) rfl y_.nd rfl rfl (by decide) rfl rfl (x9 (xx zT rfl (B.get "abs") qk (yT (pv 0))) (xx zT rfl (B.get "abs") qk (yT (pv 1)))) (by rfl))
  (xf (kQ PassesOwn.never (xW (ql hr.units) (pv 1) xc (xV _)) (xi (v8 (i:=0) (j:=1) rfl y_.nd rfl rfl (by decide) rfl rfl (x9 (pv 1) (xu gB (pv 0) (pv 1))) (by rfl))))
  (xi (xD (pv 0))))),
  (xk (uV (xG (yp qi (xN xa)) (yp qi (xN xa))))
  (xk (qb (xK (xh gq xa xo)) (uV (xG xa (xh aJ xa xa))))
  (xE xa))),fun ts KK hl h=>?_⟩)
 obtain⟨a,c,rfl,k⟩:=h
 refine qr (fun n τ=>∃x y:Int,τ=[.fz (.int x),.fz (.int y)]∧0≤x∧0≤y∧n=y.toNat∧Int.gcd x y=Int.gcd a c) c.natAbs ⟨_,_,rfl,by split<;>omega,by split<;>omega,by split<;>omega,?_⟩ ?_
 ·have e1:(if a<0 then -a else a)=(a.natAbs:Int):=by split<;>omega
  have e2:(if c<0 then -c else c)=(c.natAbs:Int):=by split<;>omega
  rw[e1,e2];simp[Int.gcd]
 ·rintro n τ N ⟨x,y,rfl,hx,hy,rfl,hg⟩ hN
  refine xY (b := !decide (y=0)) (fun c0=>?_) (fun c0=>?_)
  ·have c0:y≠0:=by simpa using c0
   have e:x.fmod y=x % y:=cY hy
   have l:=xdf x (show 0<y by omega)
   have l0:=xdg x c0
   refine⟨c0,hN (x % y).toNat _ (by omega) ⟨_,_,rfl,hy,by rw[e];exact l0,by rw[e],?_⟩⟩
   rw[e,←hg,cQ hx hy]
  ·have c0:y=0:=by simpa using c0
   subst c0
   have:(Int.gcd a c:Int)=x:=by rw[←hg];simp[Int.gcd];omega
   exact this▸k
theorem bj (B:Blt mg bn)(F:Fun K "lowest" "lowest" gc f fd)(m:mg "lowest" = some (.ref f))(b:Binds K fd ["top", "bottom"] [])(ya:Own P w K mg base 1 "greatest_divisor" ["one", "other"] (spT 2 false false xaz)) :
  Own P w K mg base 2 "lowest" ["top", "bottom"] (spT 2 false false xcH):=by
 refine xA F dU m b rfl (fun _ _ _ _ _ _ hr=>⟨_,_,
  (xf (yW 2 dU.nd (xq ya hr (x9 (pv 0) (pv 1))))
  (xi (xD (yj (x9 (xu ua (pv 0) (pv 2)) (xu ua (pv 1) (pv 2))))))),
  (xk (yg (xF (xG xa xa)))
  (xE (yn (b:=true) (xG (xh v_ xa xa) (xh v_ xa xa))))),fun ts KK hl h=>?_⟩)
 obtain⟨t,bo,rfl,hb,bd,k⟩:=h
 have gp:(0:Int)<(Int.gcd t bo:Int):=by have:=xdh t hb;omega
 have gb:=nS (t:=t) hb bd
 refine⟨t,bo,rfl,⟨by omega,gb⟩,⟨by omega,gb⟩,?_⟩
 show KK (.tup [.int (t.fdiv (Int.gcd t bo)),.int (bo.fdiv (Int.gcd t bo))])
 rw[wt (by omega),wt (by omega)]
 exact k
theorem jg (B:Blt mg bn)(F:Fun K "corners_left" "corners_left" wJ f fd)(m:mg "corners_left" = some (.ref f))(b:Binds K fd ["rows"] [])(vK:Own P w K mg base 3 "places_of" ["piece"] (spT 1 false true ff))(uZ:Own P w K mg base 5 "piece_left" ["rows"] (spT 1 false false j_)) :
  Own P w K mg base 6 "corners_left" ["rows"] (spT 1 false true kl):=by
 refine xA F jC m b rfl (fun _ _ _ _ _ _ hr=>⟨_,_,
  (xi (xD (xq vK hr (yT (xq uZ hr (yT (pv 0))))))),
  (qu (sA (xN (xF (xN xa))))),fun ts KK hl h=>?_⟩)
 obtain⟨t,rows,rfl,ht,hr,k⟩:=h
 have sm:=hr.small rows.length
 have pl:=hr.plen rows.length
 rw[xew (xeA _)] at sm pl
 exact⟨t,rows,rfl,ht,hr,_,rfl,sm,pl,k⟩
theorem gZ (B:Blt mg bn)(F:Fun K "piece_left" "piece_left" vh f fd)(m:mg "piece_left" = some (.ref f))(b:Binds K fd ["rows"] []){t_FAR:Tok}(jM:mg "FAR" = some (.int 60001 t_FAR))(qE:Own P w K mg base 4 "cut_down" ["piece", "rows"] (spT 2 false false rq)) :
  Own P w K mg base 5 "piece_left" ["rows"] (spT 1 false false j_):=by
 refine xA F gz m b rfl (fun _ _ _ _ _ _ hr=>⟨_,_,
  (xi (xD (xq qE hr (x9 (zY (xS (yj (xS (zU yK (vc (v:=V.int 60001) rfl jM ⟨_,rfl⟩)) (x9 (zU yK (vc (v:=V.int 60001) rfl jM ⟨_,rfl⟩)) xc))) (xS (yj (xS (vc (v:=V.int 60001) rfl jM ⟨_,rfl⟩) (x9 (zU yK (vc (v:=V.int 60001) rfl jM ⟨_,rfl⟩)) xc))) (x9 (yj (xS (vc (v:=V.int 60001) rfl jM ⟨_,rfl⟩) (x9 (vc (v:=V.int 60001) rfl jM ⟨_,rfl⟩) xc))) (yj (xS (zU yK (vc (v:=V.int 60001) rfl jM ⟨_,rfl⟩)) (x9 (vc (v:=V.int 60001) rfl jM ⟨_,rfl⟩) xc))))))) (pv 0))))),
  (xE (xF (xG (dQ (b:=true) (xT (yn (b:=true) (xT (yL xo) (xG (yL xo) xo))) (xT (yn (b:=true) (xT xo (xG (yL xo) xo))) (xG (yn (b:=true) (xT xo (xG xo xo))) (yn (b:=true) (xT (yL xo) (xG xo xo))))))) xa))),fun ts KK hl h=>?_⟩)
 obtain⟨t,rows,rfl,ht,hr,k⟩:=h
 exact⟨t,[],rows,rfl,ht,hr,k⟩
theorem d_ (B:Blt mg bn)(F:Fun K "cut_down" "cut_down" qN f fd)(m:mg "cut_down" = some (.ref f))(b:Binds K fd ["piece", "rows"] [])(v7:Own P w K mg base 3 "cut_piece" ["piece", "row"] (spT 2 false false k9)) :
  Own P w K mg base 4 "cut_down" ["piece", "rows"] (spT 2 false false rq):=by
 refine xA F vR m b rfl (fun _ _ _ _ _ _ hr=>⟨_,_,
  (xf (wd PassesOwn.never rfl (zq K (pv 1)) (y9 2 vR.nd) (xi (yW 0 vR.nd (xq v7 hr (x9 (pv 0) (pv 2))))))
  (xi (xD (pv 0)))),
  (xk (zb (yJ xa) xl.g (yg (xF (xG xa xa))))
  (xE xa)),fun ts KK hl h=>?_⟩)
 obtain⟨t,r0,rows,rfl,ht,hr,k⟩:=h
 have tk:∀i,((r0++rows).take (r0.length+i)).foldl Pol.yk Pol.box=(rows.take i).foldl Pol.yk (Pol.pieces r0):=fun i=>by rw[List.take_append,xew (by omega),show r0.length+i-r0.length=i by omega,xdK];rfl
 have main:pS (eName 2) (xcn 0 (lH k9 (tu (lM 0) (tu (lM 2) xap)))) { nx:=xb6 (lM 0) { nx:=fun x=>false=false∧KK Tr.non,rt:=KK },rt:=KK } (rows.map trR) [.fz (.lst ((Pol.pieces r0).map trR)),.fz t,.un]:=by
  refine zP (fun i τ=>∃x2,τ=[.fz (.lst (((rows.take i).foldl Pol.yk (Pol.pieces r0)).map trR)),.fz t,x2]) ⟨_,rfl⟩ ?_ ?_
  ·rintro i x τ N hx ⟨x2,rfl⟩ hN
   obtain⟨r,hri,rfl⟩:=u_ hx
   rw[Pol.vy _ _ hri] at hN
   have sm:=hr.small (r0.length+i)
   have pl:=hr.plen (r0.length+i)
   rw[tk] at sm pl
   exact⟨_,r,rfl,hr.sm r (xeb _ (xei hri)),sm,pl,hN _ ⟨_,rfl⟩⟩
  ·rintro τ ⟨x2,rfl⟩
   rw[xdZ,xew (xeA _)]
   unfold Pol.pieces at k ⊢
   rw[xdK] at k
   exact k
 rcases ht with rfl | rfl<;>exact main
theorem fE (B:Blt mg bn)(F:Fun K "places_of" "places_of" uz f fd)(m:mg "places_of" = some (.ref f))(b:Binds K fd ["piece"] [])(kO:Own P w K mg base 2 "lowest" ["top", "bottom"] (spT 2 false false xcH))(vf:Own P w K mg base 2 "from_least" ["piece"] (spT 1 false true j1)) :
  Own P w K mg base 3 "places_of" ["piece"] (spT 1 false true ff):=by
 refine xA F fW m b rfl (fun _ _ _ _ _ _ hr=>⟨_,_,
  (xi (xD (zG (yu (N:=["x", "y", "bottom"]) (tau:=[none,none,none]) (XN:=["piece"]) (xs:=xg uz) (by decide +kernel) rfl rfl) rfl (wZ (yM rfl (yM rfl (yM rfl qX)))) (zq K (xq vf hr (yT (pv 0)))) (fun _ _ _ _=>(zc K (n:=3) rfl (xy (ye (i:=0) (show(["x", "y", "bottom"]:List Str).Nodup by decide +kernel) rfl (Or.inl rfl)) (xy (ye (i:=1) (show(["x", "y", "bottom"]:List Str).Nodup by decide +kernel) rfl (Or.inl rfl)) (xy (ye (i:=2) (show(["x", "y", "bottom"]:List Str).Nodup by decide +kernel) rfl (Or.inl rfl)) yX))))) (fun _ _ _ _=>zK) (fun _ _ _ _=>(yj (x9 (xq kO hr (x9 (pv 0) (pv 2))) (xq kO hr (x9 (pv 1) (pv 2))))))))),
  (qu (yU (yJ (xF (xN xa))).c (zd (xr xl (xr xl (xr xl yq)))) y4 (yn (b:=true) (xG (xF (xG xa xa)) (xF (xG xa xa)))))),fun ts KK hl h=>?_⟩)
 obtain⟨l,rfl,sm,pl,k⟩:=h
 refine⟨l,rfl,fun v hv=>(sm v hv).1.b3,pl,?_,?_⟩
 ·rw[xdZ,qx];exact sqz (by omega)
 ·refine vq (fun x=>match kE x with | some v=>xbv v | none=>.non) (fun x hx N hN=>?_) ?_
  ·obtain⟨v,hv,rfl⟩:=xeg.mp hx
   have hb:=sm v (v9 hv)
   exact⟨rfl,_,_,rfl,by omega,hb.1.2.bd,_,_,rfl,by omega,hb.1.2.bd,hN⟩
  ·rw[xd8];exact k
theorem dz (B:Blt mg bn)(F:Fun K "cut_piece" "cut_piece" vL f fd)(m:mg "cut_piece" = some (.ref f))(b:Binds K fd ["piece", "row"] [])(wj:Own P w K mg base 2 "where_crossed" ["row", "one", "other"] (spT 3 false false aw))(zS:Own P w K mg base 1 "beyond" ["row", "corner"] (spT 2 false false sM)) :
  Own P w K mg base 3 "cut_piece" ["piece", "row"] (spT 2 false false k9):=by
 refine xA F zf m b rfl (fun _ _ _ _ _ _ hr=>⟨_,_,
  (xf (yW 2 zf.nd (zY wo))
  (xf (wd PassesOwn.never rfl (mB K rfl (B.get "enumerate") (yT (pv 0))) (zc K (n:=2) rfl (xy (y9 3 zf.nd) (xy (y9 4 zf.nd) yX))) (xf (yW 5 zf.nd (uE (wF K) (pv 0) (xu zE (pv 3) xc) (fun _ _=>rfl)))
  (xf (zg (xW (jU K hr.units) (xu xJ (xq zS hr (x9 (pv 1) (pv 5))) (xq zS hr (x9 (pv 1) (pv 4)))) xc (xV _)) (xf (yW 6 zf.nd (xq wj hr (xS (pv 1) (x9 (pv 5) (pv 4)))))
  (xi (zg (xW (mT hr.units) (pv 6) (pv 2) (by with_unfolding_all rfl)) (xi (y8 (kI PySem.F.plainAttrs_list PySem.F.slot_list_append PySem.F.type_list_append yZ (pv 2) (yT (pv 6))))) x_))) x_)
  (xi (zg (xW gJ (xq zS hr (x9 (pv 1) (pv 4))) xc (xV _)) (xi (y8 (kI PySem.F.plainAttrs_list PySem.F.slot_list_append PySem.F.type_list_append yZ (pv 2) (yT (pv 4))))) x_)))))
  (xi (xD (pv 2))))),
  (xk (wB (uO zJ))
  (xk (zb (aE (xN xa)) (zd (xr xl (xr xl yq))).g (xk (yg (rJ xa (xh zN xa xo)))
  (xk (yw (xK (xh j4 (xh xU (xF (xG xa xa)) (xF (xG xa xa))) xo)) (xk (yg (xF (xT xa (xG xa xa))))
  (yw (xK (xh xav xa vU)) (wM xa) xQ)) xQ)
  (yw (xK (xh gg (xF (xG xa xa)) xo)) (wM xa) xQ))))
  qd)),fun ts KK hl h=>?_⟩)
 obtain⟨l,r,rfl,hr,hl',hz,k⟩:=h
 refine zP (all:=vQ (l.map trR)) (fun i τ=>∃x3 x4 x5 x6,τ=[.fz (.lst (l.map trR)),.fz (trR r),.ow ((((Pol.cyc l).take i).foldl (Pol.xX r) []).map trR),x3,x4,x5,x6]∧(((Pol.cyc l).take i).foldl (Pol.xX r) []).length≤2*i)
  ⟨_,_,_,_,rfl,xeA _⟩ ?_ ?_
 ·rintro i x τ N hx ⟨x3,x4,x5,x6,rfl,hlen⟩ hN
  obtain⟨v,hv,rfl⟩:=aY hx
  obtain⟨u,hu,hc,ha⟩:=rK hv
  have hvm:=xei hv
  have hi:=(xdQ.mp hv).1
  have fold:=Pol.vy (Pol.xX r) [] hc
  generalize hacc:((Pol.cyc l).take i).foldl (Pol.xX r) []=acc at fold hlen ⊢
  have leaf:∀(ts:List Tr) (y6:TV),ts=(Pol.xX r acc (u,v)).map trR→N [.fz (.lst (l.map trR)),.fz (trR r),.ow ts,.fz (.int i),.fz (trR v),.fz (trR u),y6]:=fun ts y6 e=>by
   rw[fold] at hN
   refine hN _ ⟨_,_,_,y6,by rw[e],?_⟩
   ·have:=Pol.rE r acc (u,v)
    have s2:(Pol.seg r (u,v)).length≤2:=by unfold Pol.seg;split<;>split<;>simp
    omega
  have bu:=hl' u hu
  have bv:=hl' v hvm
  have len0:∀n:Nat,n≤acc.length+1→n<sizeLine:=fun n hn=>sqz (by omega)
  refine⟨rfl,?_⟩
  show tN (atT (l.map trR) ((i:Int)-1)) _
  rw[ha]
  refine⟨r,u,rfl,hr.b3,bu.1.b3,r,v,rfl,hr.b3,bv.1.b3,⟨(hr.val bu.1).bd,(hr.val bv.1).bd⟩,?_⟩
  refine xY (b:=decide (Pol.val r u*Pol.val r v<0)) (fun c=>?_) (fun c=>?_)
  ·have c:=xeU c
   refine⟨r,u,v,rfl,⟨hr,bu.1,bv.1⟩,⟨bu.2,bv.2⟩,c,⟨mz _,vk trR mz acc,(by show(1:Nat)≤60;decide)⟩,?_⟩
   refine xY (b := !((acc.map trR).any fun t=>teq t (trR (Pol.xm r u v)))) (fun d=>?_) (fun d=>?_)
   ·rw[nX] at d
    have d:Pol.xm r u v∉acc:=by simpa using d
    refine⟨len0 _ (by simp),r,v,rfl,hr.b3,bv.1.b3,?_⟩
    refine xY (b:=decide (Pol.val r v≤0)) (fun e=>?_) (fun e=>?_)
    ·have e:=xeU e
     exact⟨len0 _ (by simp),leaf _ _ (by simp[Pol.xX,c,d,e])⟩
    ·have e:=xeT e
     exact leaf _ _ (by simp[Pol.xX,c,d,e])
   ·rw[nX] at d
    have d:Pol.xm r u v∈acc:=by simpa using d
    refine⟨r,v,rfl,hr.b3,bv.1.b3,?_⟩
    refine xY (b:=decide (Pol.val r v≤0)) (fun e=>?_) (fun e=>?_)
    ·have e:=xeU e
     exact⟨len0 _ (by simp),leaf _ _ (by simp[Pol.xX,c,d,e])⟩
    ·have e:=xeT e
     exact leaf _ _ (by simp[Pol.xX,c,d,e])
  ·have c:=xeT c
   refine⟨r,v,rfl,hr.b3,bv.1.b3,?_⟩
   refine xY (b:=decide (Pol.val r v≤0)) (fun e=>?_) (fun e=>?_)
   ·have e:=xeU e
    exact⟨len0 _ (by simp),leaf _ _ (by simp[Pol.xX,c,e])⟩
   ·have e:=xeT e
    exact leaf _ _ (by simp[Pol.xX,c,e])
 ·rintro τ ⟨x3,x4,x5,x6,rfl,hlen⟩
  rw[ar,xew (by rw[Pol.lu];exact xeA _)]
  exact k
theorem mU (B:Blt mg bn)(F:Fun K "beyond" "beyond" gI f fd)(m:mg "beyond" = some (.ref f))(b:Binds K fd ["row", "corner"] [])  :
  Own P w K mg base 1 "beyond" ["row", "corner"] (spT 2 false false sM):=by
 refine xA F z_ m b rfl (fun _ _ _ _ _ _ hr=>⟨_,_,
  (xf (ku (pv 0) (zc K (n:=3) rfl (xy (y9 2 z_.nd) (xy (y9 3 z_.nd) (xy (y9 4 z_.nd) yX)))))
  (xf (ku (pv 1) (zc K (n:=3) rfl (xy (y9 5 z_.nd) (xy (y9 6 z_.nd) (xy (y9 7 z_.nd) yX)))))
  (xi (xD (xu zE (xu ze (xu xJ (pv 2) (pv 5)) (xu xJ (pv 3) (pv 6))) (xu xJ (pv 4) (pv 7))))))),
  (xk (qZ xa (zd (xr xl (xr xl (xr xl yq)))).g)
  (xk (qZ xa (zd (xr xl (xr xl (xr xl yq)))).g)
  (xE (xh zN (xh wk (xh xU xa xa) (xh xU xa xa)) (xh xU xa xa))))),fun ts KK hl h=>?_⟩)
 obtain⟨r,p,rfl,hr,hp,k⟩:=h
 exact⟨rfl,rfl,⟨hr.1.1,hp.1.1⟩,⟨hr.1.2,hp.1.2⟩,⟨hr.2,hp.2⟩,k⟩
theorem kF (B:Blt mg bn)(F:Fun K "where_crossed" "where_crossed" zk f fd)(m:mg "where_crossed" = some (.ref f))(b:Binds K fd ["row", "one", "other"] [])(ya:Own P w K mg base 1 "greatest_divisor" ["one", "other"] (spT 2 false false xaz))(zS:Own P w K mg base 1 "beyond" ["row", "corner"] (spT 2 false false sM)) :
  Own P w K mg base 2 "where_crossed" ["row", "one", "other"] (spT 3 false false aw):=by
 refine xA F yh m b rfl (fun _ _ _ _ _ _ hr=>⟨_,_,
  (xf (ku (yj (x9 (xx zT rfl (B.get "abs") qk (yT (xq zS hr (x9 (pv 0) (pv 1))))) (xx zT rfl (B.get "abs") qk (yT (xq zS hr (x9 (pv 0) (pv 2))))))) (zc K (n:=2) rfl (xy (ye (i:=3) yh.nd rfl (Or.inr rfl)) (xy (ye (i:=4) yh.nd rfl (Or.inr rfl)) yX))))
  (xf (ku (zG (yu (N:=["here", "there", "other_off", "one_off"]) (tau:=[none,none,some 4,some 3]) (XN:=["row", "one", "other", "one_off", "other_off", "x", "y", "bottom", "shared"]) (xs:=xg zk) (by decide +kernel) rfl rfl) rfl (wZ (yM rfl (yM rfl qX))) (mq K rfl (B.get "zip") (x9 (pv 1) (pv 2))) (fun _ _ _ _=>(zc K (n:=2) rfl (xy (ye (i:=0) (show(["here", "there", "other_off", "one_off"]:List Str).Nodup by decide +kernel) rfl (Or.inl rfl)) (xy (ye (i:=1) (show(["here", "there", "other_off", "one_off"]:List Str).Nodup by decide +kernel) rfl (Or.inl rfl)) yX)))) (fun _ _ _ _=>zK) (fun _ _ _ _=>(xu ze (xu xJ (pv 2) (pv 0)) (xu xJ (pv 3) (pv 1))))) (oK K (n:=3) rfl (xy (y9 5 yh.nd) (xy (y9 6 yh.nd) (xy (y9 7 yh.nd) yX)))))
  (xf (yW 8 yh.nd (xq ya hr (x9 (xq ya hr (x9 (pv 5) (pv 6))) (pv 7))))
  (xi (xD (yj (xS (xu ua (pv 5) (pv 8)) (x9 (xu ua (pv 6) (pv 8)) (xu ua (pv 7) (pv 8)))))))))),
  (xk (qZ (yn (b:=true) (xG (yp qi (xN (xF (xG xa xa)))) (yp qi (xN (xF (xG xa xa)))))) (zd (xr xl (xr xl yq))).g)
  (xk (qZ (OkF.e (yU (aV (xG xa xa)).c (zd (xr xl (xr xl yq))) y4 (xh wk (xh xU xa xa) (xh xU xa xa)))) (oo (xr xl (xr xl (xr xl yq)))).g)
  (xk (yg (xF (xG (xF (xG xa xa)) xa)))
  (xE (yn (b:=true) (xT (xh v_ xa xa) (xG (xh v_ xa xa) (xh v_ xa xa)))))))),fun ts KK hl h=>?_⟩)
 obtain⟨r,u,v,rfl,⟨hr,hu,hv⟩,⟨zu,zv⟩,hn,k⟩:=h
 have au:Bk 1000 (Pol.abs (Pol.val r u)):=((hr.val hu).mono (by decide)).abs
 have av:Bk 1000 (Pol.abs (Pol.val r v)):=((hr.val hv).mono (by decide)).abs
 have cu:∀ {i},Bk 800 i→CM (Pol.abs (Pol.val r v)) i:=fun h=>⟨av.bd,h.bd⟩
 have cv:∀ {i},Bk 800 i→CM (Pol.abs (Pol.val r u)) i:=fun h=>⟨au.bd,h.bd⟩
 obtain⟨b,_,_,_⟩:=Pol.vi zu zv hn
 have wz:0<(Pol.cw r u v).2.2:=by
  have h1:=Pol.pp b.pa zu
  have h2:=Pol.pp b.pb zv
  show 0<Pol.abs (Pol.val r v)*u.2.2+Pol.abs (Pol.val r u)*v.2.2
  omega
 have wb:Bd (Pol.cw r u v).2.2:=((av.mul hu.2).add (au.mul hv.2)).bd
 have gp:=Pol.vx wz
 have gb:Bd (Pol.ud (Pol.cw r u v):Int):=nS (by omega) wb
 refine⟨r,u,rfl,hr.b3,hu.b3,r,v,rfl,hr.b3,hv.b3,rfl,sqz (show(3:Nat)≤1000000 by decide),rfl,cu hu.1.1,cv hv.1.1,rfl,cu hu.1.2,cv hv.1.2,rfl,cu hu.2,cv hv.2,rfl,_,_,rfl,_,_,rfl,⟨?_,gb⟩,⟨?_,gb⟩,⟨?_,gb⟩,?_⟩
 ·show(Pol.ud (Pol.cw r u v):Int)≠0;omega
 ·show(Pol.ud (Pol.cw r u v):Int)≠0;omega
 ·show(Pol.ud (Pol.cw r u v):Int)≠0;omega
 show KK (.tup [.int ((Pol.cw r u v).1.fdiv (Pol.ud (Pol.cw r u v))),.int ((Pol.cw r u v).2.1.fdiv (Pol.ud (Pol.cw r u v))),.int ((Pol.cw r u v).2.2.fdiv (Pol.ud (Pol.cw r u v)))])
 rw[wt (by omega),wt (by omega),wt (by omega)]
 exact k
theorem gy (B:Blt mg bn)(F:Fun K "from_least" "from_least" vg f fd)(m:mg "from_least" = some (.ref f))(b:Binds K fd ["piece"] [])(qW:Own P w K mg base 1 "is_ahead" ["one", "other"] (spT 2 false false p9)) :
  Own P w K mg base 2 "from_least" ["piece"] (spT 1 false true j1):=by
 refine xA F zh m b rfl (fun _ _ _ _ _ _ hr=>⟨_,_,
  (xf (yW 1 zh.nd xc)
  (xf (wd PassesOwn.never rfl (mB K rfl (B.get "enumerate") (yT (pv 0))) (zc K (n:=2) rfl (xy (y9 2 zh.nd) (xy (y9 3 zh.nd) yX))) (xi (zg (wa (xq qW hr (x9 (pv 3) (uE (wF K) (pv 0) (pv 1) (fun _ _=>rfl))))) (xi (yW 1 zh.nd (pv 2))) x_)))
  (xi (xD (xu pF (qw (h9 K) (pv 0) (vS (pv 1)) jy) (qw (h9 K) (pv 0) jy (vS (pv 1)))))))),
  (xk (yg xo)
  (xk (zb (aE (xN xa)) (zd (xr xl (xr xl yq))).g (yw (zr (xF (xG xa (rJ xa xa)))) (yg xa) xQ))
  (qu (oN (pM xa (qv xa) qc) (pM xa qc (qv xa)))))),fun ts KK hl h=>?_⟩)
 obtain⟨l,rfl,hl',hz,k⟩:=h
 refine zP (all:=vQ (l.map trR)) (fun i τ=>∃x2 x3,τ=[.fz (.lst (l.map trR)),.fz (.int ((List.range i).foldl (yO l) 0:Nat)),x2,x3]∧((List.range i).foldl (yO l) 0<l.length∨l=[]))
  ⟨_,_,rfl,?_⟩ ?_ ?_
 ·cases l with
  | nil=>exact .inr rfl
  | cons a t=>exact .inl (by simp)
 ·rintro i x τ N hx ⟨x2,x3,rfl,hlen⟩ hN
  obtain⟨v,hv,rfl⟩:=aY hx
  have hvm:=xei hv
  have hi:=(xdQ.mp hv).1
  have fold:(List.range (i+1)).foldl (yO l) 0=yO l ((List.range i).foldl (yO l) 0) i:=by rw[xeq,xdK];rfl
  generalize hs:(List.range i).foldl (yO l) 0=s at fold hlen ⊢
  have hs':s<l.length:=hlen.resolve_right (fun z=>by rw[z] at hi;simp at hi)
  have eu:atT (l.map trR) (s:Int)=some (trR l[s]):=by rw[mW,xdR,xdO hs'];rfl
  refine⟨rfl,?_⟩
  show tN (atT (l.map trR) (s:Int)) _
  rw[eu]
  have ev:l.getD i (0,0,0)=v:=by rw[xdM,hv];rfl
  have es:l.getD s (0,0,0)=l[s]:=by rw[xdM,xdO hs'];rfl
  refine⟨v,l[s],rfl,hl' _ hvm,hl' _ (List.getElem_mem hs'),?_⟩
  refine xY (b:=ahead v l[s]) (fun c=>?_) (fun c=>?_)
  ·have f2:yO l s i=i:=by unfold yO;rw[ev,es,if_pos c]
   rw[fold,f2] at hN
   exact hN _ ⟨_,_,rfl,.inl hi⟩
  ·have c':¬ahead v l[s]=true:=by rw[c];exact xdd
   have f2:yO l s i=s:=by unfold yO;rw[ev,es,if_neg c']
   rw[fold,f2] at hN
   exact hN _ ⟨_,_,rfl,.inl hs'⟩
 ·rintro τ ⟨x2,x3,rfl,hlen⟩
  rw[ar]
  show(jK (l.map trR) (some ((qG l:Nat):Int)) none).length+(jK (l.map trR) none (some ((qG l:Nat):Int))).length≤sizeLine∧KK (.lst (jK (l.map trR) (some ((qG l:Nat):Int)) none++jK (l.map trR) none (some ((qG l:Nat):Int))))
  rw[cH,l_]
  refine⟨xbx (by simp;omega),?_⟩
  unfold yD at k
  rw[xd6,List.map_drop,List.map_take] at k
  exact k
theorem aa (B:Blt mg bn)(F:Fun K "is_ahead" "is_ahead" qF f fd)(m:mg "is_ahead" = some (.ref f))(b:Binds K fd ["one", "other"] [])  :
  Own P w K mg base 1 "is_ahead" ["one", "other"] (spT 2 false false p9):=by
 refine xA F s_ m b rfl (fun _ _ _ _ _ _ hr=>⟨_,_,
  (xi (xD (zw (jU K hr.units) (yj (x9 (xu xJ (xH K 0) (xH K 1)) (xu xJ (xH K 0) (xH K 1)))) (yj (x9 (xu xJ (xH K 1) (xH K 0)) (xu xJ (xH K 1) (xH K 0)))) (xV _)))),
  (xE (xh j4 (yn (b:=true) (xG (xh xU xI xI) (xh xU xI xI))) (yn (b:=true) (xG (xh xU xI xI) (xh xU xI xI))))),fun ts KK hl h=>?_⟩)
 obtain⟨p,q,rfl,hp,hq,k⟩:=h
 refine⟨⟨hp.1.1,hq.2⟩,⟨hp.1.2,hq.2⟩,⟨hq.1.1,hp.2⟩,⟨hq.1.2,hp.2⟩,[p.1*q.2.2,p.2.1*q.2.2],[q.1*p.2.2,q.2.1*p.2.2],rfl,rfl,?_⟩
 rw[xaB]
 exact k
theorem mF (B:Blt mg bn)(F:Fun K "is_row" "is_row" gA f fd)(m:mg "is_row" = some (.ref f))(b:Binds K fd ["thing"] [])(vV:Own P w K mg base 2 "are_whole" ["things"] (spT 1 false false fH)) :
  Own P w K mg base 3 "is_row" ["thing"] (spT 1 false false pW):=by
 refine xA F bC m b rfl (fun _ _ _ _ _ _ hr=>⟨_,_,
  (xf (zg (PW.pt (dj (va (wa (xx zB rfl (B.get "isinstance") yc (x9 (pv 0) (zH (v:=V.ty "tuple") rfl (B.get "tuple") vo rfl))))) (dj (xW (ql hr.units) (xx (yx K) rfl (B.get "len") wY (yT (pv 0))) xc (xV _)) (jw (va (wa (xq vV hr (yT (pv 0))))))))) (xi (xD qh)) x_)
  (xi (xD (xa5 (zw (ql hr.units) (xH K 0) xc (xV _)) (f_ (zw (ql hr.units) (xH K 0) xc (xV _))))))),
  (xk (yw (kg (we (zr (vG xa))) (kg (xK (xh gq (yp ve (xN xa)) xo)) (we (zr (xF (xN xa)))))) (xE kD) xQ)
  (xE (pk (xh gq xI xo) (xh gq xI xo)))),fun ts KK hl h=>?_⟩)
 obtain⟨t,rfl,k⟩:=h
 cases t with
 | tup us =>
  refine xY (b := !decide ((us.length:Int)=3)) (fun c=>?_) (fun c=>?_)
  ·have c:¬(us.length:Int)=3:=by simpa using c
   have e:fY (.tup us)=false:=by
    unfold fY
    cases e:kE (.tup us) with
    | none=>rfl
    | some r =>
     have:=vj e
     unfold trR at this
     injection this with this
     rw[this] at c
     exact absurd rfl c
   rw[e] at k
   exact k
  ·have c:us.length=3:=by simp at c;omega
   obtain⟨x,y,z,rfl⟩:∃x y z,us=[x,y,z]:=by
    match us,c with
    | [x,y,z],_=>exact⟨x,y,z,rfl⟩
   refine⟨_,rfl,_,.inl rfl,tZ c,?_⟩
   cases x with
   | int a =>
    cases y with
    | int b =>
     cases z with
     | int d =>
      show if (!decide (a=0))=true then KK (.bl true) else KK (.bl (!decide (b=0)))
      by_cases ha:a=0<;>by_cases hb:b=0<;>simp[ha,hb,fY,kE] at k ⊢<;>exact k
     | _=>exact k
    | _=>exact k
   | _=>exact k
 | _=>exact k
theorem tF (B:Blt mg bn)(F:Fun K "turn_to" "turn_to" jl f fd)(m:mg "turn_to" = some (.ref f))(b:Binds K fd ["one", "other"] [])  :
  Own P w K mg base 1 "turn_to" ["one", "other"] (spT 2 false false cz):=by
 refine xA F tx m b rfl (fun _ _ _ _ _ _ hr=>⟨_,_,
  (xi (xD (xu zE (xu xJ (xH K 0) (xH K 1)) (xu xJ (xH K 0) (xH K 1))))),
  (xE (xh zN (xh xU xI xI) (xh xU xI xI))),fun ts KK hl h=>?_⟩)
 obtain⟨a,b,c,d,x,y,rfl,hb,k⟩:=h
 exact⟨⟨hb.1.1,hb.2.2⟩,⟨hb.1.2,hb.2.1⟩,k⟩
theorem sT (B:Blt mg bn)(F:Fun K "go_round" "go_round" qQ f fd)(m:mg "go_round" = some (.ref f))(b:Binds K fd ["rows"] [])(vz:Own P w K mg base 2 "furthest" ["first", "rows", "sign"] (spT 3 false false du))(ub:Own P w K mg base 2 "points_back" ["first", "rows"] (spT 2 false false l7))(yY:Own P w K mg base 1 "turn_to" ["one", "other"] (spT 2 false false cz)) :
  Own P w K mg base 3 "go_round" ["rows"] (spT 1 false false aP):=by
 refine xA F uy m b rfl (fun _ _ _ _ _ _ hr=>⟨_,_,
  (xf (zg (xW (vF hr.units) (xx (yx K) rfl (B.get "len") wY (yT (pv 0))) xc (xV _)) (xi (xD qh)) x_)
  (xf (yW 1 uy.nd (xH K 0))
  (xf (yW 2 uy.nd (xq vz hr (xS (pv 1) (x9 (pv 0) xc))))
  (xf (yW 3 uy.nd (xq vz hr (xS (pv 1) (x9 (pv 0) (zU yK xc)))))
  (xf (zg (PW.pt (dj (nh (nR (pv 2))) (jw (nh (nR (pv 3)))))) (xi (xD qh)) x_)
  (xi (xD (xa5 (zw fJ (xq yY hr (x9 (pv 2) (pv 3))) xc (xV _)) (f_ (xq ub hr (x9 (pv 1) (pv 0)))))))))))),
  (xk (yw (xK (xh os_eq (yp ve (xN xa)) xo)) (xE kD) xQ)
  (xk (yg xI)
  (xk (yg (xF (xT xa (xG xa xo))))
  (xk (yg (xF (xT xa (xG xa (yL xo)))))
  (xk (yw (kg (zr (mj xa)) (zr (mj xa))) (xE kD) xQ)
  (xE (pk (xh dP (xF (xG xa xa)) xo) (xF (xG xa xa))))))))),fun ts KK hl h=>?_⟩)
 obtain⟨rows,rfl,hx,k⟩:=h
 cases rows with
 | nil=>exact k
 | cons r t =>
  have hr:=hx r xee
  refine⟨r,r::t,1,rfl,.inl rfl,hr,hx,r,r::t,-1,rfl,.inr rfl,hr,hx,?_⟩
  have e:Pol.wX (r::t)=match Pol.far r 1 (r::t),Pol.far r (-1) (r::t) with
   | some l,some k=>decide (0<Pol.turn l k) || Pol.back r (r::t)
   | _,_=>false:=rfl
  rw[e] at k
  cases e1:Pol.far r 1 (r::t) with
  | none=>rw[e1] at k;exact k
  | some l =>
   cases e2:Pol.far r (-1) (r::t) with
   | none=>rw[e1,e2] at k;exact k
   | some q =>
    rw[e1,e2] at k
    have hl2:=hx l (Pol.kT e1).mem
    have hq2:=hx q (Pol.kT e2).mem
    refine⟨l.1,l.2.1,q.1,q.2.1,_,_,rfl,⟨⟨hl2.1.1.bd,hl2.1.2.bd⟩,hq2.1.1.bd,hq2.1.2.bd⟩,?_⟩
    have k:KK (.bl (decide (0<Pol.turn l q) || Pol.back r (r::t))):=k
    refine xY (b:=decide (0<Pol.turn l q)) (fun c=>?_) (fun c=>?_)
    ·rw[c] at k;exact k
    ·rw[c,Bool.false_or] at k
     exact⟨r,r::t,rfl,hr,hx,k⟩
theorem ak (B:Blt mg bn)(F:Fun K "furthest" "furthest" qR f fd)(m:mg "furthest" = some (.ref f))(b:Binds K fd ["first", "rows", "sign"] [])(yY:Own P w K mg base 1 "turn_to" ["one", "other"] (spT 2 false false cz)) :
  Own P w K mg base 2 "furthest" ["first", "rows", "sign"] (spT 3 false false du):=by
 refine xA F ux m b rfl (fun _ _ _ _ _ _ hr=>⟨_,_,
  (xf (yW 3 ux.nd xaA)
  (xf (wd PassesOwn.never rfl (zq K (pv 1)) (y9 4 ux.nd) (xi (zg (PW.pt (dO (xW fJ (xu xJ (pv 2) (xq yY hr (x9 (pv 0) (pv 4)))) xc (xV _)) (kY (PW.pt (dj (nh (nR (pv 3))) (jw (xW fJ (xu xJ (pv 2) (xq yY hr (x9 (pv 3) (pv 4)))) xc (xV _)))))))) (xi (yW 3 ux.nd (pv 4))) x_)))
  (xi (xD (pv 3))))),
  (xk (yg (xa8 (t:=Tr.non)))
  (xk (zb (yJ xa) xl.g (yw (kZ (xK (xh dP (xh xU xa (xF (xG xa xa))) xo)) (kg (zr (mj xa)) (xK (xh dP (xh xU xa (xF (xG xa xa))) xo)))) (yg xa) xQ))
  (xE xa))),fun ts KK hl h=>?_⟩)
 obtain⟨r,rows,s,rfl,hs,hr,hx,k⟩:=h
 have tb:∀ {p q:Pol.R3},B3k 900 p→B3k 900 q→Bk 1801 (Pol.turn p q):=fun hp hq=>(hp.1.1.mul hq.1.2).sub (hp.1.2.mul hq.1.1)
 have sb:Bd s:=by rcases hs with rfl | rfl<;>exact oy (by decide) (by decide)
 refine zP (all:=rows.map trR) (fun i τ=>∃x4,τ=[.fz (trR r),.fz (.tup (rows.map trR)),.fz (.int s),.fz (xbj ((rows.take i).foldl (Pol.zp r s) none)),x4]∧∀y,(rows.take i).foldl (Pol.zp r s) none=some y→B3k 900 y) ⟨_,rfl,fun y hy=>by cases hy⟩ ?_ ?_
 ·rintro i x τ N hxi ⟨x4,rfl,hb⟩ hN
  obtain⟨y,hyi,rfl⟩:=u_ hxi
  have hy:=hx y (xei hyi)
  have fold:=Pol.vy (Pol.zp r s) none hyi
  generalize hacc:(rows.take i).foldl (Pol.zp r s) none=acc at fold hb ⊢
  have leaf:∀o:Option Pol.R3,o=Pol.zp r s acc y→N [.fz (trR r),.fz (.tup (rows.map trR)),.fz (.int s),.fz (xbj o),.fz (trR y)]:=fun o e=>by
   rw[fold] at hN
   refine hN _ ⟨_,by rw[e],?_⟩
   ·unfold Pol.zp
    split
    ·intro z hz;cases hz;exact hy
    ·exact hb
  refine⟨r.1,r.2.1,y.1,y.2.1,_,_,rfl,⟨⟨hr.1.1.bd,hr.1.2.bd⟩,hy.1.1.bd,hy.1.2.bd⟩,⟨sb,(tb hr hy).bd⟩,?_⟩
  refine xY (b:=decide (0<s*Pol.turn r y)) (fun c=>?_) (fun c=>?_)
  ·have c:=xeU c
   cases acc with
   | none=>exact leaf (some y) (by unfold Pol.zp;rw[if_pos ⟨c,rfl⟩])
   | some z =>
    have hz:=hb z rfl
    refine⟨z.1,z.2.1,y.1,y.2.1,_,_,rfl,⟨⟨hz.1.1.bd,hz.1.2.bd⟩,hy.1.1.bd,hy.1.2.bd⟩,⟨sb,(tb hz hy).bd⟩,?_⟩
    refine xY (b:=decide (0<s*Pol.turn z y)) (fun d=>?_) (fun d=>?_)
    ·exact leaf (some y) (by unfold Pol.zp;rw[if_pos ⟨c,d⟩])
    ·refine leaf (some z) ?_
     unfold Pol.zp
     rw[if_neg (fun w=>by have w2:decide (0<s*Pol.turn z y)=true:=w.2;rw[d] at w2;cases w2)]
  ·have c:=xeT c
   exact leaf acc (by unfold Pol.zp;rw[if_neg fun w=>c w.1])
 ·rintro τ ⟨x4,rfl,_⟩
  rw[xdZ,xew (xeA _)]
  exact k
theorem jT (B:Blt mg bn)(F:Fun K "points_back" "points_back" um f fd)(m:mg "points_back" = some (.ref f))(b:Binds K fd ["first", "rows"] [])(yY:Own P w K mg base 1 "turn_to" ["one", "other"] (spT 2 false false cz)) :
  Own P w K mg base 2 "points_back" ["first", "rows"] (spT 2 false false l7):=by
 refine xA F vH m b rfl (fun _ _ _ _ _ _ hr=>⟨_,_,
  (xf (wd PassesOwn.never rfl (zq K (pv 1)) (y9 2 vH.nd) (xi (zg (PW.pt (dO (xW (vF hr.units) (xq yY hr (x9 (pv 0) (pv 2))) xc (xV _)) (kY (xW (jU K hr.units) (xu ze (xu xJ (xH K 0) (xH K 2)) (xu xJ (xH K 0) (xH K 2))) xc (xV _))))) (xi (xD qh)) x_)))
  (xi (xD qh))),
  (xk (zb (yJ xa) xl.g (yw (kZ (xK (xh os_eq (xF (xG xa xa)) xo)) (xK (xh j4 (xh wk (xh xU xI xI) (xh xU xI xI)) xo))) (xE kD) xQ))
  (xE kD)),fun ts KK hl h=>?_⟩)
 obtain⟨r,rows,rfl,hr,hx,k⟩:=h
 refine zP (all:=rows.map trR) (fun i τ=>∃x2,τ=[.fz (trR r),.fz (.tup (rows.map trR)),x2]∧∀y∈rows.take i,¬(Pol.turn r y=0∧Pol.dot r y<0)) ⟨_,rfl,fun y hy=>by simp at hy⟩ ?_ ?_
 ·rintro i x τ N hxi ⟨x2,rfl,hb⟩ hN
  obtain⟨y,hyi,rfl⟩:=u_ hxi
  have hym:=xei hyi
  have hy:=hx y hym
  have leaf:¬(Pol.turn r y=0∧Pol.dot r y<0)→N [.fz (trR r),.fz (.tup (rows.map trR)),.fz (trR y)]:=fun c=>hN _ ⟨_,rfl,fun z hz=>by
   rw[xex,hyi] at hz
   rcases xd_.mp hz with q | q
   ·exact hb z q
   ·have:z=y:=by simpa using q
    rw[this];exact c⟩
  refine⟨r.1,r.2.1,y.1,y.2.1,_,_,rfl,⟨⟨hr.1.1.bd,hr.1.2.bd⟩,hy.1.1.bd,hy.1.2.bd⟩,?_⟩
  refine xY (b:=decide (Pol.turn r y=0)) (fun c=>?_) (fun c=>?_)
  ·have c:=xeU c
   refine⟨⟨hr.1.1.bd,hy.1.1.bd⟩,⟨hr.1.2.bd,hy.1.2.bd⟩,?_⟩
   refine xY (b:=decide (Pol.dot r y<0)) (fun d=>?_) (fun d=>?_)
   ·have d:=xeU d
    have:Pol.back r rows=true:=by unfold Pol.back;rw[List.any_eq_true];exact⟨y,hym,by simp[c,d]⟩
    rw[this] at k
    exact k
   ·have d:=xeT d
    exact leaf fun w=>d w.2
  ·have c:=xeT c
   exact leaf fun w=>c w.1
 ·rintro τ ⟨x2,rfl,hb⟩
  rw[xdZ,xew (xeA _)] at hb
  have:Pol.back r rows=false:=by
   unfold Pol.back
   rw[List.any_eq_false]
   intro y hy w
   simp at w
   exact hb y hy w
  rw[this] at k
  exact k
theorem sH (B:Blt mg bn)(F:Fun K "is_field" "is_field" w9 f fd)(m:mg "is_field" = some (.ref f))(b:Binds K fd ["thing"] [])(qI:Own P w K mg base 3 "go_round" ["rows"] (spT 1 false false aP))(jz:Own P w K mg base 1 "is_near" ["place"] (spT 1 false false nN))(wW:Own P w K mg base 6 "corners_left" ["rows"] (spT 1 false true kl))(wQ:Own P w K mg base 4 "is_field_row" ["thing"] (spT 1 false false jv)) :
  Own P w K mg base 7 "is_field" ["thing"] (spT 1 false false rn):=by
 refine xA F sd m b rfl (fun _ _ _ _ _ _ hr=>⟨_,_,
  (xf (zg (PW.pt (dj (va (wa (xx zB rfl (B.get "isinstance") yc (x9 (pv 0) (zH (v:=V.ty "tuple") rfl (B.get "tuple") vo rfl))))) (jw (va (bV gJ gJ xc (xx (yx K) rfl (B.get "len") wY (yT (pv 0))) xc))))) (xi (xD qh)) x_)
  (xf (zg (PW.pt (dj (va (wa (xx (zX K rfl) rfl (B.get "all") hJ (yT (zG (yu (N:=["row"]) (tau:=[none]) (XN:=["thing"]) (xs:=xg w9) (by decide +kernel) rfl rfl) rfl (ui rfl) (zq K (pv 0)) (fun _ _ _ _=>(ye (i:=0) (show(["row"]:List Str).Nodup by decide +kernel) rfl (Or.inl rfl))) (fun _ _ _ _=>zK) (fun _ _ _ _=>(xq wQ hr (yT (pv 0))))))))) (jw (va (wa (xq qI hr (yT (pv 0)))))))) (xi (xD qh)) x_)
  (xi (xD (xx (zX K rfl) rfl (B.get "all") hJ (yT (zG (yu (N:=["place"]) (tau:=[none]) (XN:=["thing"]) (xs:=xg w9) (by decide +kernel) rfl rfl) rfl (ui rfl) (zq K (xq wW hr (yT (pv 0)))) (fun _ _ _ _=>(ye (i:=0) (show(["place"]:List Str).Nodup by decide +kernel) rfl (Or.inl rfl))) (fun _ _ _ _=>zK) (fun _ _ _ _=>(xq jz hr (yT (pv 0))))))))))),
  (xk (yw (kg (we (zr (vG xa))) (we (xK (bI gg gg xo (yp ve (xN xa)) xo)))) (xE kD) xQ)
  (xk (yw (kg (we (zr (yp qY (xN (OkF.e (yU (yJ xa).c xl y4 (xF (xN xa)))))))) (we (zr (xF (xN xa))))) (xE kD) xQ)
  (xE (yp qY (xN (OkF.e (yU (yJ (xF (xN xa))).c xl y4 (xF (xN xa))))))))),fun ts KK hl h=>?_⟩)
 obtain⟨t,rfl,k⟩:=h
 cases t with
 | tup us =>
  refine xY (b:=decide ((3:Int)≤us.length)) (fun c1=>?_) (fun c1=>?_)
  ·have c1:=xeU c1
   refine xY (b := !decide ((us.length:Int)≤8)) (fun c2=>?_) (fun c2=>?_)
   ·have c2:8<us.length:=by simp at c2;omega
    have e:isField (.tup us)=false:=by
     show(match rowsOf us with | some rows=>xw rows | none=>false)=false
     cases e:rowsOf us with
     | none=>rfl
     | some rows =>
      show xw rows=false
      unfold xw
      rw[uc e,xdZ] at c2
      rw[xeP (by omega)];rfl
    rw[e] at k
    exact k
   ·have c2:us.length≤8:=by simp at c2;omega
    refine⟨sqz (by omega),vq (fun x=>.bl (yG x)) (fun x _ N hN=>⟨x,rfl,hN⟩) ⟨us.map yG,by rw[xd8];rfl,?_⟩⟩
    rw[xdx]
    show if (!us.all yG)=true then _ else _
    refine xY (fun c=>?_) (fun c=>?_)
    ·rw[rQ (by simpa using c)] at k
     exact k
    ·have c:us.all yG=true:=by simpa using c
     obtain⟨rows,rfl,hrows⟩:=sS c
     rw[xdZ] at c1 c2
     have ea:(rows.all fun r=>decide ((r.1≠0∨r.2.1≠0)∧Pol.fZ r))=true:=by
      rw[xdw];intro r hr;exact xeQ (hrows r hr)
     have ef:isField (.tup (rows.map trR))=(Pol.wX rows&&(Pol.pieces rows).all gU):=by
      show(match rowsOf (rows.map trR) with | some rows=>xw rows | none=>false)=_
      rw[qD]
      show xw rows=_
      unfold xw
      rw[ea,xeQ (by omega)];simp
     rw[ef] at k
     have ok:vI rows:=⟨fun r hr=>(hrows r hr).1,fun r hr=>tj (hrows r hr).2,by omega⟩
     refine⟨rows,rfl,fun r hr=>(ok.sm r hr).mono (by decide),?_⟩
     refine xY (b := !Pol.wX rows) (fun d=>?_) (fun d=>?_)
     ·have d:Pol.wX rows=false:=by simpa using d
      rw[d] at k
      exact k
     ·have d:Pol.wX rows=true:=by simpa using d
      rw[d,Bool.true_and] at k
      have sm:=ok.small rows.length
      have pl:=ok.plen rows.length
      rw[xew (xeA _)] at sm pl
      refine⟨_,rows,rfl,.inl rfl,ok,?_,?_⟩
      ·rw[xdZ,qx];exact sqz (by have:(Pol.pieces rows).length≤100000:=pl;omega)
      ·refine vq (fun x=>match x with | .tup [.tup [.int n,.int d],.tup [.int n2,.int d2]]=>.bl (nearF n d&&nearF n2 d2) | _=>.non) (fun x hx N hN=>?_) ?_
       ·obtain⟨v,hv,rfl⟩:=xeg.mp hx
        have hb:=sm v (v9 hv)
        have ld:∀i,Bd (fX i v.2.2):=fun i=>oT hb.2 hb.1.2.bd
        refine⟨[(rF v.1 v.2.2,fX v.1 v.2.2),(rF v.2.1 v.2.2,fX v.2.1 v.2.2)],rfl,(show(2:Nat)≤1000 by decide),fun f hf=>?_,?_⟩
        ·simp only[xec,xep,xeV] at hf
         rcases hf with rfl | rfl<;>exact ld _
        ·have e:([(rF v.1 v.2.2,fX v.1 v.2.2),(rF v.2.1 v.2.2,fX v.2.1 v.2.2)].all fun f=>nearF f.1 f.2)=(nearF (rF v.1 v.2.2) (fX v.1 v.2.2)&&nearF (rF v.2.1 v.2.2) (fX v.2.1 v.2.2)):=by simp
         rw[e];exact hN
       ·refine⟨(yD (Pol.pieces rows)).map gU,by rw[xd8,xd8];rfl,?_⟩
        rw[xdx]
        have e:=gX gU (Pol.pieces rows)
        show KK (.bl ((yD (Pol.pieces rows)).all gU))
        rw[e];exact k
  ·have c1:us.length<3:=by have:=xeT c1;omega
   have e:isField (.tup us)=false:=by
    show(match rowsOf us with | some rows=>xw rows | none=>false)=false
    cases e:rowsOf us with
    | none=>rfl
    | some rows =>
     show xw rows=false
     unfold xw
     rw[uc e,xdZ] at c1
     rw[xeP (by omega)];rfl
   rw[e] at k
   exact k
 | _=>exact k
theorem jA (B:Blt mg bn)(F:Fun K "is_field_row" "is_field_row" wU f fd)(m:mg "is_field_row" = some (.ref f))(b:Binds K fd ["thing"] [])(gL:Own P w K mg base 3 "is_row" ["thing"] (spT 1 false false pW)) :
  Own P w K mg base 4 "is_field_row" ["thing"] (spT 1 false false jv):=by
 refine xA F zj m b rfl (fun _ _ _ _ _ _ hr=>⟨_,_,
  (xf (zg (va (wa (xq gL hr (yT (pv 0))))) (xi (xD qh)) x_)
  (xf (ku (pv 0) (zc K (n:=3) rfl (xy (y9 1 zj.nd) (xy (y9 2 zj.nd) (xy (y9 3 zj.nd) yX)))))
  (xi (xD (aM (zw gJ (xx zT rfl (B.get "abs") qk (yT (pv 1))) xc (xV _)) (aM (zw gJ (xx zT rfl (B.get "abs") qk (yT (pv 2))) xc (xV _)) (f_ (zw gJ (xx zT rfl (B.get "abs") qk (yT (pv 3))) xc (xV _))))))))),
  (xk (yw (we (zr (xF (xN xa)))) (xE kD) xQ)
  (xk (qZ xa (zd (xr xl (xr xl (xr xl yq)))).g)
  (xE (gx (xh gg (yp qi (xN xa)) xo) (gx (xh gg (yp qi (xN xa)) xo) (xh gg (yp qi (xN xa)) xo)))))),fun ts KK hl h=>?_⟩)
 obtain⟨t,rfl,k⟩:=h
 refine⟨t,rfl,?_⟩
 unfold fY
 unfold yG at k
 cases e:kE t with
 | none=>rw[e] at k;exact k
 | some r =>
  rw[e] at k
  cases vj e
  have k:KK (.bl (decide ((r.1≠0∨r.2.1≠0)∧Pol.fZ r))):=k
  refine xY (b := !decide (r.1≠0∨r.2.1≠0)) (fun c=>?_) (fun c=>?_)
  ·have c:¬(r.1≠0∨r.2.1≠0):=by simpa using c
   rw[xeP fun w=>c w.1] at k
   exact k
  ·have c:r.1≠0∨r.2.1≠0:=by simp at c;omega
   refine⟨rfl,?_⟩
   have ab:∀i m:Int,(if i<0 then -i else i)≤m↔-m≤i∧i≤m:=fun i m=>by split<;>omega
   refine xY (b:=decide ((if r.1<0 then -r.1 else r.1)≤30)) (fun d=>?_) (fun d=>?_)
   ·have d:=(ab _ _).mp (xeU d)
    refine xY (b:=decide ((if r.2.1<0 then -r.2.1 else r.2.1)≤30)) (fun d2=>?_) (fun d2=>?_)
    ·have d2:=(ab _ _).mp (xeU d2)
     show KK (.bl (decide ((if r.2.2<0 then -r.2.2 else r.2.2)≤1000)))
     have e3:decide ((r.1≠0∨r.2.1≠0)∧Pol.fZ r)=decide ((if r.2.2<0 then -r.2.2 else r.2.2)≤1000):=by
      rw[decide_eq_decide,ab]
      exact⟨fun w=>w.2.2,fun w=>⟨c,⟨d,d2⟩,w⟩⟩
     rw[←e3];exact k
    ·have d2:=fun w=>xeT d2 ((ab _ _).mpr w)
     rw[xeP fun w=>d2 w.2.1.2] at k
     exact k
   ·have d:=fun w=>xeT d ((ab _ _).mpr w)
    rw[xeP fun w=>d w.2.1.1] at k
    exact k
theorem tz (B:Blt mg bn)(F:Fun K "is_near" "is_near" qy f fd)(m:mg "is_near" = some (.ref f))(b:Binds K fd ["place"] [])  :
  Own P w K mg base 1 "is_near" ["place"] (spT 1 false false nN):=by
 refine xA F rR m b rfl (fun _ _ _ _ _ _ hr=>⟨_,_,
  (xi (xD (xx (zX K rfl) rfl (B.get "all") hJ (yT (zG (yu (N:=["top", "bottom"]) (tau:=[none,none]) (XN:=["place"]) (xs:=xg qy) (by decide +kernel) rfl rfl) rfl (wZ (yM rfl (yM rfl qX))) (zq K (pv 0)) (fun _ _ _ _=>(zc K (n:=2) rfl (xy (ye (i:=0) (show(["top", "bottom"]:List Str).Nodup by decide +kernel) rfl (Or.inl rfl)) (xy (ye (i:=1) (show(["top", "bottom"]:List Str).Nodup by decide +kernel) rfl (Or.inl rfl)) yX)))) (fun _ _ _ _=>zK) (fun _ _ _ _=>(zw gJ (xx zT rfl (B.get "abs") qk (yT (pv 0))) (xu xJ xc (pv 1)) (xV _)))))))),
  (xE (yp qY (xN (OkF.e (yU (yJ xa).c (zd (xr xl (xr xl yq))) y4 (xh gg (yp qi (xN xa)) (xh xU xo xa))))))),fun ts KK hl h=>?_⟩)
 obtain⟨fs,rfl,hz,hb,k⟩:=h
 refine⟨by rw[xdZ];exact sqz (by omega),?_⟩
 have ab:∀i m:Int,decide ((if i<0 then -i else i)≤12*m)=nearF i m:=fun i m=>by
  unfold nearF
  rw[decide_eq_decide];split<;>omega
 refine vq (fun x=>match x with | .tup [.int n,.int d]=>.bl (nearF n d) | _=>.non) (fun x hx N hN=>?_) ?_
 ·obtain⟨f,hf,rfl⟩:=xeg.mp hx
  refine⟨rfl,⟨oy (by decide) (by decide),hb f hf⟩,?_⟩
  show N (.bl (decide ((if f.1<0 then -f.1 else f.1)≤12*f.2)))
  rw[ab];exact hN
 ·refine⟨fs.map fun f=>nearF f.1 f.2,by rw[xd8,xd8];rfl,?_⟩
  rw[xdx];exact k
theorem gw (B:Blt mg bn)(F:Fun K "need_field" "need_field" u5 f fd)(m:mg "need_field" = some (.ref f))(b:Binds K fd ["thing"] [])(qT:Own P w K mg base 7 "is_field" ["thing"] (spT 1 false false rn)) :
  Own P w K mg base 8 "need_field" ["thing"] (spT 1 false false jZ):=by
 refine xA F gH m b rfl (fun _ _ _ _ _ _ hr=>⟨_,_,
  (xi (zg (va (wa (xq qT hr (yT (pv 0))))) (xi cj) x_)),
  (yw (we (zr (xF (xN xa)))) mS xQ),fun ts KK hl h=>?_⟩)
 obtain⟨t,rfl,hf,k⟩:=h
 refine⟨t,rfl,?_⟩
 rw[hf]
 exact⟨rfl,k⟩
end
end K31
namespace K31
open PySem L2 Trn
section
variable {P:Program} {w:World} {K:PySem.W.Frag} {mg:Str→Option Value} {base:Heap} {f:Addr} {fd:FuncData}
theorem ji (B:Blt mg bn)(F:Fun K "whole_points" "whole_points" y3 f fd)(m:mg "whole_points" = some (.ref f))(b:Binds K fd ["field"] [])(u4:Own P w K mg base 8 "need_field" ["thing"] (spT 1 false false jZ)) :
  Own P w K mg base 9 "whole_points" ["field"] (spT 1 false false jf):=by
 refine xA F vb m b rfl (fun _ _ _ _ _ _ hr=>⟨_,_,
  (xf (y8 (xq u4 hr (yT (pv 0))))
  (xf (sU (i:=1) vb.nd rfl (Or.inl rfl) (yu (N:=["x", "y"]) (tau:=[none,none]) (XN:=["field", "points"]) (xs:=xg y3) (by decide +kernel) rfl rfl) rfl (ui rfl) (xan (tid:=[some 0,none]) (by decide +kernel)) (ui rfl) (qm rfl (B.get "range") (x9 (zU yK xc) xc)) (fun _ _ _ _=>(ye (i:=0) (show(["x", "y"]:List Str).Nodup by decide +kernel) rfl (Or.inl rfl))) (fun _ _ _ _=>zK) (fun _ _ _ _=>(qm rfl (B.get "range") (x9 (zU yK xc) xc))) (fun _ _ _ _=>(ye (i:=1) (show(["x", "y"]:List Str).Nodup by decide +kernel) rfl (Or.inl rfl))) (fun _ _ _ _=>zK) (fun _ _ _ _=>(yj (x9 (pv 0) (pv 1)))))
  (xi (xD (cf (tX (N:=["x", "y", "field"]) (tau:=[none,none,some 0]) (XN:=["field", "points"]) (xs:=xg y3) (by decide +kernel) rfl rfl) rfl (wZ (yM rfl (yM rfl qX))) (zq K (pv 1)) (fun _ _ _ _=>(zc K (n:=2) rfl (xy (ye (i:=0) (show(["x", "y", "field"]:List Str).Nodup by decide +kernel) rfl (Or.inr rfl)) (xy (ye (i:=1) (show(["x", "y", "field"]:List Str).Nodup by decide +kernel) rfl (Or.inr rfl)) yX)))) (fun _ _ _ _=>(aj (wa (xx (zX K rfl) rfl (B.get "all") hJ (yT (zG (yu (N:=["a", "b", "c", "x", "y"]) (tau:=[none,none,none,some 0,some 1]) (XN:=["x", "y", "field"]) (xs:=_) (by kernel_rfl) rfl rfl) rfl (wZ (yM rfl (yM rfl (yM rfl qX)))) (zq K (pv 2)) (fun _ _ _ _=>(zc K (n:=3) rfl (xy (ye (i:=0) (show(["a", "b", "c", "x", "y"]:List Str).Nodup by decide +kernel) rfl (Or.inl rfl)) (xy (ye (i:=1) (show(["a", "b", "c", "x", "y"]:List Str).Nodup by decide +kernel) rfl (Or.inl rfl)) (xy (ye (i:=2) (show(["a", "b", "c", "x", "y"]:List Str).Nodup by decide +kernel) rfl (Or.inl rfl)) yX))))) (fun _ _ _ _=>zK) (fun _ _ _ _=>(zw gJ (xu ze (xu xJ (pv 0) (pv 3)) (xu xJ (pv 1) (pv 4))) (pv 2) (xV _))))))))) (fun _ _ _ _=>(yj (x9 (pv 0) (pv 1))))))))),
  (xk (cX (xF (xN xa)))
  (xk (yg (OkF.e (nL (vn (xG (yL xo) xo)).c xl y4 (vn (xG (yL xo) xo)) xl y4 (yn (b:=true) (xG xa xa)))))
  (xE (OkF.e (yU (yJ xa).c (zd (xr xl (xr xl yq))) (zr (yp qY (xN (OkF.e (yU (yJ xa).c (zd (xr xl (xr xl (xr xl yq)))) y4 (xh gg (xh wk (xh xU xa xa) (xh xU xa xa)) xa)))))) (yn (b:=true) (xG xa xa))))))),fun ts KK hl h=>?_⟩)
 obtain⟨rows,rfl,hf,k⟩:=h
 have l8:=(xa_ hf).1.2
 have rg:∀n:Nat,bG (-12) n=(List.range n).map fun(j:Nat)=>Tr.int (-12+(j:Int)):=fun n=>rfl
 refine xR (fun τ=>τ=[.fz (.tup (rows.map trR)),.un]) ?_ (fun N hN=>⟨_,rfl,aq hf,hN _ rfl⟩)
 rintro _ rfl
 refine xR (fun τ=>τ=[.fz (.tup (rows.map trR)),.fz (.lst (lI.map drD))]) ?_ (fun N hN=>?_)
 rotate_left
 ·refine⟨⟨by decide,by decide,by decide,by decide⟩,?_⟩
  refine fA (fun i acc=>i≤25∧acc=((List.range i).flatMap yI).map drD) _ 0 [] (fun j x acc hx hG N2 hN2=>?_) ⟨by decide,rfl⟩ (fun acc hG=>?_)
  ·rw[Nat.zero_add] at hG hN2
   obtain⟨_,rfl⟩:=hG
   have hj:=(xdQ.mp hx).1
   rw[zm] at hj
   rw[qs hj] at hx
   have hj:j<25:=hj
   cases hx
   have gl:=q8 j
   refine⟨⟨by decide,by decide,by decide,by decide⟩,by rw[xdZ,zm,gl];exact sqz (show 25*j+25≤1000000 by omega),?_⟩
   refine fi (fun t=>match t with | .int z=>drD (-12+(j:Int),z) | t=>t) _ _ (fun t ht N h=>?_) (hN2 _ ⟨by omega,?_⟩)
   ·obtain⟨z,_,rfl⟩:=xeg.mp ht
    exact h
   ·rw[xeq,xdI,xd6,xdJ,List.flatMap_nil,xdz]
    congr 1
  ·obtain⟨_,rfl⟩:=hG
   exact hN _ rfl
 rintro _ rfl
 refine⟨by rw[xdZ,rG];exact sqz (by decide),uN (kH rows) drD (fun p hp N M h1 h0=>?_) k⟩
 have bp:=ng hp
 refine⟨rfl,by rw[xdZ];exact sqz (by omega),u9 (fun r=>.bl (decide (r.1*p.1+r.2.1*p.2≤r.2.2))) (fun r hr N h=>?_) ?_⟩
 ·have br:=((xa_ hf).2.1 r hr).2
  unfold Pol.fZ at br
  unfold Bx at bp
  exact⟨rfl,yl (by omega) (by omega),yl (by omega) (by omega),h⟩
 ·refine⟨rows.map fun r=>decide (r.1*p.1+r.2.1*p.2≤r.2.2),by rw[xd8];rfl,?_⟩
  have e:(rows.map fun r=>decide (r.1*p.1+r.2.1*p.2≤r.2.2)).all id=kH rows p:=by rw[xdx];rfl
  rw[e]
  exact xY h1 h0
theorem jO (B:Blt mg bn)(F:Fun K "whole_place" "whole_place" uj f fd)(m:mg "whole_place" = some (.ref f))(b:Binds K fd ["point"] [])  :
  Own P w K mg base 1 "whole_place" ["point"] (spT 1 false false gR):=by
 refine xA F wO m b rfl (fun _ _ _ _ _ _ hr=>⟨_,_,
  (xf (ku (pv 0) (zc K (n:=2) rfl (xy (y9 1 wO.nd) (xy (y9 2 wO.nd) yX))))
  (xi (xD (yj (x9 (yj (x9 (pv 1) xc)) (yj (x9 (pv 2) xc))))))),
  (xk (qZ xa (zd (xr xl (xr xl yq))).g)
  (xE (yn (b:=true) (xG (yn (b:=true) (xG xa xo)) (yn (b:=true) (xG xa xo)))))),fun ts KK hl h=>?_⟩)
 obtain⟨p,rfl,k⟩:=h
 exact⟨rfl,k⟩
theorem k_ (B:Blt mg bn)(F:Fun K "whole_places" "whole_places" zD f fd)(m:mg "whole_places" = some (.ref f))(b:Binds K fd ["field"] [])(yV:Own P w K mg base 1 "whole_place" ["point"] (spT 1 false false gR))(yH:Own P w K mg base 9 "whole_points" ["field"] (spT 1 false false jf)) :
  Own P w K mg base 10 "whole_places" ["field"] (spT 1 false true fj):=by
 refine xA F jh m b rfl (fun _ _ _ _ _ _ hr=>⟨_,_,
  (xi (xD (zG (yu (N:=["point"]) (tau:=[none]) (XN:=["field"]) (xs:=xg zD) (by decide +kernel) rfl rfl) rfl (ui rfl) (zq K (xq yH hr (yT (pv 0)))) (fun _ _ _ _=>(ye (i:=0) (show(["point"]:List Str).Nodup by decide +kernel) rfl (Or.inl rfl))) (fun _ _ _ _=>zK) (fun _ _ _ _=>(xq yV hr (yT (pv 0))))))),
  (qu (yU (yJ (xF (xN xa))).c xl y4 (xF (xN xa)))),fun ts KK hl h=>?_⟩)
 obtain⟨rows,rfl,hf,k⟩:=h
 have wl:=gQ rows
 refine⟨rows,rfl,hf,by rw[xdZ];exact sqz (by omega),u9 wpT (fun p hp N h=>⟨p,rfl,h⟩) k⟩
theorem oX (B:Blt mg bn)(F:Fun K "hull" "hull" rA f fd)(m:mg "hull" = some (.ref f))(b:Binds K fd ["field"] [])(yH:Own P w K mg base 9 "whole_points" ["field"] (spT 1 false false jf))(yV:Own P w K mg base 1 "whole_place" ["point"] (spT 1 false false gR))(ug:Own P w K mg base 2 "half_hull" ["points"] (spT 1 false false fU)) :
  Own P w K mg base 10 "hull" ["field"] (spT 1 false true lW):=by
 refine xA F sQ m b rfl (fun _ _ _ _ _ _ hr=>⟨_,_,
  (xf (yW 1 sQ.nd (xq yH hr (yT (pv 0))))
  (xf (zg (xW fJ (xx (yx K) rfl (B.get "len") wY (yT (pv 1))) xc (xV _)) (xi (yW 1 sQ.nd (xu (mK K) (xq ug hr (yT (pv 1))) (xq ug hr (yT (pI K (pv 1) (vS (zU yK xc)))))))) x_)
  (xi (xD (zG (yu (N:=["point"]) (tau:=[none]) (XN:=["field", "points"]) (xs:=xg rA) (by decide +kernel) rfl rfl) rfl (ui rfl) (zq K (pv 1)) (fun _ _ _ _=>(ye (i:=0) (show(["point"]:List Str).Nodup by decide +kernel) rfl (Or.inl rfl))) (fun _ _ _ _=>zK) (fun _ _ _ _=>(xq yV hr (yT (pv 0))))))))),
  (xk (yg (xF (xN xa)))
  (xk (yw (xK (xh dP (yp ve (xN xa)) xo)) (yg (bh (xF (xN xa)) (xF (xN (OkF.e (t_ xa (yL xo))))))) xQ)
  (qu (yU (yJ xa).c xl y4 (xF (xN xa)))))),fun ts KK hl h=>?_⟩)
 obtain⟨rows,rfl,hf,k⟩:=h
 have wl:=gQ rows
 have bx:∀p∈wK rows,Bx 1000 p:=fun p hp=>(mi hp).mono (by decide)
 have hl2:=dE (wK rows)
 refine xR (fun τ=>τ=[.fz (.tup (rows.map trR)),.fz (.lst ((wK rows).map drD))]) ?_ (fun N hN=>⟨rows,rfl,hf,hN _ rfl⟩)
 rintro _ rfl
 refine xR (fun τ=>τ=[.fz (.tup (rows.map trR)),.fz (.lst ((uD (wK rows)).map drD))]) ?_ (fun N hN=>?_)
 ·rintro _ rfl
  exact⟨by rw[xdZ];exact sqz (by omega),u9 wpT (fun p hp N h=>⟨p,rfl,h⟩) k⟩
 refine xY (b:=decide ((((wK rows).map drD).length:Int)>1)) (fun c=>?_) (fun c=>?_)
 ·have c:=xeU c
  rw[xdZ] at c
  have a:=vv (wK rows)
  have b':=vv (wK rows).reverse
  rw[xd1] at b'
  refine⟨wK rows,rfl,bx,by omega,rfl,(wK rows).reverse,by rw[List.map_reverse],fun p hp=>bx p (List.mem_reverse.mp hp),by rw[xd1];omega,?_⟩
  refine⟨xbx (by rw[xdZ,xdZ];omega),?_⟩
  show N [.fz (.tup (rows.map trR)),.fz (.lst ((half (wK rows)).map drD++(half (wK rows).reverse).map drD))]
  rw[←xd6]
  have e:uD (wK rows)=half (wK rows)++half (wK rows).reverse:=if_pos (by omega)
  rw[←e]
  exact hN _ rfl
 ·have c:=xeT c
  rw[xdZ] at c
  have e:uD (wK rows)=wK rows:=if_neg (by omega)
  rw[e] at hN
  exact hN _ rfl
theorem dw (B:Blt mg bn)(F:Fun K "half_hull" "half_hull" vP f fd)(m:mg "half_hull" = some (.ref f))(b:Binds K fd ["points"] [])(wG:Own P w K mg base 1 "is_left_turn" ["one", "other", "third"] (spT 3 false false bc)) :
  Own P w K mg base 2 "half_hull" ["points"] (spT 1 false false fU):=by
 refine xA F uP m b rfl (fun _ _ _ _ _ _ hr=>⟨_,_,
  (xf (yW 1 uP.nd (zY wo))
  (xf (wd PassesOwn.never rfl (zq K (pv 0)) (y9 2 uP.nd) (xf (kQ PassesOwn.never (PW.pt (dO (xW fJ (xx (yx K) rfl (B.get "len") wY (yT (pv 1))) xc (xV _)) (kY (va (wa (xq wG hr (xS (uE (wF K) (pv 1) (zU yK xc) (fun _ _=>rfl)) (x9 (uE (wF K) (pv 1) (zU yK xc) (fun _ _=>rfl)) (pv 2))))))))) (xi (y8 (c9 PySem.F.plainAttrs_list PySem.F.slot_list_pop PySem.F.type_list_pop pX (pv 1)))))
  (xi (y8 (kI PySem.F.plainAttrs_list PySem.F.slot_list_append PySem.F.type_list_append yZ (pv 1) (yT (pv 2)))))))
  (xi (xD (qw (h9 K) (pv 1) jy (vS (zU yK xc))))))),
  (xk (wB (uO zJ))
  (xk (zb (yJ xa) xl.g (xk (qb (kZ (xK (xh dP (yp ve (xN vU)) xo)) (we (zr (xF (xT (rm (yL xo)) (xG (rm (yL xo)) xa)))))) me)
  (wM xa)))
  (xE (OkF.e (oF qc (qv (yL xo))))))),fun ts KK hl h=>?_⟩)
 obtain⟨ps,rfl,hp,hl',k⟩:=h
 have ba:∀ {i x},x∈chR (ps.take i)→Bx 1000 x:=fun {i x} hx=>tP (P:=fun x=>Bx 1000 x) (fun q hq=>hp q (xej hq)) x hx
 refine zP (all:=ps.map drD) (fun i τ=>∃x2:TV,τ=[.fz (.lst (ps.map drD)),.ow ((chR (ps.take i)).reverse.map drD),x2]) ⟨.un,rfl⟩ ?_ ?_
 ·rintro i x τ N hx ⟨x2,rfl⟩ hN
  obtain⟨p,hpi,rfl⟩:=u_ hx
  have bp:=hp p (xei hpi)
  have cl:=sL (ps.take i)
  have cl:(chR (ps.take i)).length≤1000:=by rw[xd4] at cl;omega
  have fold:=az hpi
  have bs:∀x∈chR (ps.take i),Bx 1000 x:=fun x hx=>ba hx
  show pH _ _ _ ([.fz (.lst (ps.map drD)),.ow ((chR (ps.take i)).reverse.map drD),.fz (drD p)]:TSt)
  refine xR (fun τ=>τ=[.fz (.lst (ps.map drD)),.ow ((kG (chR (ps.take i)) p).reverse.map drD),.fz (drD p)]) ?_ (fun N3 hN3=>?_)
  ·rintro _ rfl
   have pl:=kL (p:=p) (s:=chR (ps.take i))
   refine⟨by rw[xdZ,xd1];exact sqz (by omega),hN _ ⟨.fz (drD p),?_⟩⟩
   rw[fold,xer,xd6]
   rfl
  generalize chR (ps.take i)=s0 at *
  refine qr (fun n τ=>∃s:List D2,n=s.length∧(∀x∈s,Bx 1000 x)∧kG s p=kG s0 p∧τ=[.fz (.lst (ps.map drD)),.ow (s.reverse.map drD),.fz (drD p)]) _ ⟨s0,rfl,bs,rfl,rfl⟩ ?_
  rintro n τ N4 ⟨s,rfl,hs,e,rfl⟩ hN4
  have fin:s.length≤1→kG s p=s:=fun h=>by
   rcases s with _ | ⟨a,_ | ⟨b,r⟩⟩
   ·rfl
   ·rfl
   ·simp at h
  refine xY (b:=decide ((((s.reverse.map drD).length:Nat):Int)>1)) (fun c=>?_) (fun c=>?_)
  rotate_left
  ·have c:=xeT c
   rw[xdZ,xd1] at c
   rw[←e,fin (by omega)] at hN3
   exact sR (hN3 _ rfl)
  have c:=xeU c
  rw[xdZ,xd1] at c
  rcases s with _ | ⟨b,_ | ⟨a,s⟩⟩
  ·simp at c
  ·simp at c
  have at1:atT ((b::a::s).reverse.map drD) (-1)=some (drD b):=by
   rw[xer,xd6];exact g6 _ _
  have at2:atT ((b::a::s).reverse.map drD) (-2)=some (drD a):=by
   rw[xer,xer,xdy,xd6];exact fy _ _ _
  show tN (atT ((b::a::s).reverse.map drD) (-2)) _
  rw[at2]
  show tN (atT ((b::a::s).reverse.map drD) (-1)) _
  rw[at1]
  refine⟨a,b,p,rfl,⟨hs a (by simp),hs b (by simp),bp⟩,?_⟩
  refine xY (b := !h_ a b p) (fun d=>?_) (fun d=>?_)
  ·have d:h_ a b p=false:=by simpa using d
   refine⟨by simp,?_⟩
   have el:((b::a::s).reverse.map drD).dropLast=(a::s).reverse.map drD:=by
    rw[xer,xd6];simp
   show N4 [.fz (.lst (ps.map drD)),.ow (((b::a::s).reverse.map drD).dropLast),.fz (drD p)]
   rw[el]
   refine hN4 _ _ ?_ ⟨a::s,rfl,fun x hx=>hs x (xed _ hx),?_,rfl⟩
   ·simp
   ·rw[←e]
    conv=>rhs;unfold kG
    rw[if_neg (by rw[d];exact xdd)]
  ·have d:h_ a b p=true:=by simpa using d
   have:kG (b::a::s) p=b::a::s:=by unfold kG;rw[if_pos d]
   rw[←e,this] at hN3
   exact hN3 _ rfl
 ·rintro τ ⟨x2,rfl⟩
  rw[xdZ,xew (xeA _)]
  show KK (.lst (jK ((chR ps).reverse.map drD) none (some (-1))))
  rw[mX,xdZ,xd1,←List.map_take]
  exact k
theorem k8 (B:Blt mg bn)(F:Fun K "is_left_turn" "is_left_turn" wC f fd)(m:mg "is_left_turn" = some (.ref f))(b:Binds K fd ["one", "other", "third"] [])  :
  Own P w K mg base 1 "is_left_turn" ["one", "other", "third"] (spT 3 false false bc):=by
 refine xA F jk m b rfl (fun _ _ _ _ _ _ hr=>⟨_,_,
  (xi (xD (zw fJ (xu xJ (xu zE (xH K 1) (xH K 0)) (xu zE (xH K 2) (xH K 0))) (xu xJ (xu zE (xH K 1) (xH K 0)) (xu zE (xH K 2) (xH K 0))) (xV _)))),
  (xE (xh dP (xh xU (xh zN xI xI) (xh zN xI xI)) (xh xU (xh zN xI xI) (xh zN xI xI)))),fun ts KK hl h=>?_⟩)
 obtain⟨p,q,r,rfl,⟨hp,hq,hr⟩,k⟩:=h
 unfold Bx at hp hq hr
 exact⟨yl (by omega) (by omega),yl (by omega) (by omega),k⟩
end
end K31
namespace K31
open PySem L2 Trn
section
variable {P:Program} {w:World} {K:PySem.W.Frag} {mg:Str→Option Value} {base:Heap} {f:Addr} {fd:FuncData}
theorem fm (B:Blt mg bn)(F:Fun K "_law_less" "_law_less" vO f fd)(m:mg "_law_less" = some (.ref f))(b:Binds K fd ["_law_one", "_law_other"] [])  :
  Own P w K mg base 1 "_law_less" ["_law_one", "_law_other"] (spT 2 false false p5):=by
 refine xA F dD m b rfl (fun _ _ _ _ _ _ hr=>⟨_,_,
  (xi (xD (zw (jU K hr.units) (xu xJ (xH K 0) (xH K 1)) (xu xJ (xH K 1) (xH K 0)) (xV _)))),
  (xE (xh j4 (xh xU xI xI) (xh xU xI xI))),fun ts KK hl h=>?_⟩)
 obtain⟨f,g,rfl,hf,hg,k⟩:=h
 exact⟨⟨hf.top.bd,hg.bot.bd⟩,⟨hg.top.bd,hf.bot.bd⟩,k⟩
theorem js (B:Blt mg bn)(F:Fun K "_law_divisor" "_law_divisor" wV f fd)(m:mg "_law_divisor" = some (.ref f))(b:Binds K fd ["_law_one", "_law_other"] [])  :
  Own P w K mg base 1 "_law_divisor" ["_law_one", "_law_other"] (spT 2 false false xaz):=by
 refine xA F uM m b rfl (fun _ _ _ _ _ _ hr=>⟨_,_,
  (xf (kQ PassesOwn.never (xW (ql hr.units) (pv 1) xc (xV _)) (xi (v8 (i:=0) (j:=1) rfl uM.nd rfl rfl (by decide) rfl rfl (x9 (pv 1) (xu gB (pv 0) (pv 1))) (by rfl))))
  (xi (xD (xx zT rfl (B.get "abs") qk (yT (pv 0)))))),
  (xk (qb (xK (xh gq xa xo)) (uV (xG xa (xh aJ xa xa))))
  (xE (yp qi (xN xa)))),fun ts KK hl h=>?_⟩)
 obtain⟨a,c,rfl,k⟩:=h
 refine qr (fun n τ=>∃x y:Int,τ=[.fz (.int x),.fz (.int y)]∧n=y.natAbs∧Fra.gd x y=Fra.gd a c) c.natAbs ⟨_,_,rfl,rfl,rfl⟩ ?_
 rintro n τ N ⟨x,y,rfl,rfl,hg⟩ hN
 refine xY (b := !decide (y=0)) (fun c0=>?_) (fun c0=>?_)
 ·have c0:y≠0:=by simpa using c0
  exact⟨c0,hN (x.fmod y).natAbs _ (Fra.r9 c0) ⟨_,_,rfl,rfl,by rw[Fra.oj];exact hg⟩⟩
 ·have c0:y=0:=by simpa using c0
  subst c0
  rw[Fra.o9] at hg
  have k:KK (.int (Fra.gd a c)):=k
  rw[←hg] at k
  exact k
theorem sI (B:Blt mg bn)(F:Fun K "_law_low" "_law_low" qL f fd)(m:mg "_law_low" = some (.ref f))(b:Binds K fd ["_law_top", "_law_bottom"] [])(wN:Own P w K mg base 1 "_law_divisor" ["_law_one", "_law_other"] (spT 2 false false xaz)) :
  Own P w K mg base 2 "_law_low" ["_law_top", "_law_bottom"] (spT 2 false false oC):=by
 refine xA F vY m b rfl (fun _ _ _ _ _ _ hr=>⟨_,_,
  (xf (yW 2 vY.nd (xq wN hr (x9 (pv 0) (pv 1))))
  (xf (zg (xW (jU K hr.units) (pv 1) xc (xV _)) (xi (yW 2 vY.nd (xu zE xc (pv 2)))) x_)
  (xi (xD (yj (x9 (xu ua (pv 0) (pv 2)) (xu ua (pv 1) (pv 2)))))))),
  (xk (yg (xF (xG xa xa)))
  (xk (yw (xK (xh j4 xa xo)) (yg (xh zN xo xa)) xQ)
  (xE (yn (b:=true) (xG (xh v_ xa xa) (xh v_ xa xa)))))),fun ts KK hl h=>?_⟩)
 obtain⟨t,b,rfl,hb,bd,k⟩:=h
 refine⟨t,b,rfl,?_⟩
 have gp:=Fra.aB (a:=t) (b:=b) (.inr hb)
 have gb:Bd (Fra.gd t b):=nS hb bd
 refine xY (b:=decide (b<0)) (fun c=>?_) (fun c=>?_)
 ·have c:=xeU c
  rw[oQ c] at k
  have gn:Bd (0-Fra.gd t b):=by unfold Bd at *;omega
  have e1:∀x:Int,x.fdiv (0-Fra.gd t b)=(-x) / Fra.gd t b:=fun x=>by
   have h:=Int.neg_fdiv_neg (-x) (Fra.gd t b)
   rw[Int.neg_neg] at h
   rw[show 0-Fra.gd t b = -(Fra.gd t b) by omega,h,wt (by omega)]
  have e2:Fra.low (-t) (-b)=((-t) / Fra.gd t b,(-b) / Fra.gd t b):=by
   unfold Fra.low
   rw[show Fra.gd (-t) (-b)=Fra.gd t b by unfold Fra.gd;simp]
  rw[e2,←e1,←e1] at k
  exact⟨⟨by show(0-Fra.gd t b)≠0;omega,gn⟩,⟨by show(0-Fra.gd t b)≠0;omega,gn⟩,k⟩
 ·have c:=xeT c
  rw[sJ (by omega)] at k
  refine⟨⟨by show Fra.gd t b≠0;omega,gb⟩,⟨by show Fra.gd t b≠0;omega,gb⟩,?_⟩
  show KK (.tup [.int (t.fdiv (Fra.gd t b)),.int (b.fdiv (Fra.gd t b))])
  rw[wt (by omega),wt (by omega)]
  exact k
theorem gE (B:Blt mg bn)(F:Fun K "_law_times" "_law_times" u6 f fd)(m:mg "_law_times" = some (.ref f))(b:Binds K fd ["_law_one", "_law_other"] [])(zW:Own P w K mg base 2 "_law_low" ["_law_top", "_law_bottom"] (spT 2 false false oC)) :
  Own P w K mg base 3 "_law_times" ["_law_one", "_law_other"] (spT 2 false false mw):=by
 refine xA F gC m b rfl (fun _ _ _ _ _ _ hr=>⟨_,_,
  (xi (xD (xq zW hr (x9 (xu xJ (xH K 0) (xH K 1)) (xu xJ (xH K 0) (xH K 1)))))),
  (xE (xF (xG (xh xU xI xI) (xh xU xI xI)))),fun ts KK hl h=>?_⟩)
 obtain⟨f,g,rfl,hf,hg,k⟩:=h
 exact⟨⟨hf.top.bd,hg.top.bd⟩,⟨hf.bot.bd,hg.bot.bd⟩,_,_,rfl,by have:=Pol.pp hf.pos hg.pos;omega,(hf.bot.mul hg.bot).bd,k⟩
theorem gm (B:Blt mg bn)(F:Fun K "_law_minus" "_law_minus" uS f fd)(m:mg "_law_minus" = some (.ref f))(b:Binds K fd ["_law_one", "_law_other"] [])(zW:Own P w K mg base 2 "_law_low" ["_law_top", "_law_bottom"] (spT 2 false false oC)) :
  Own P w K mg base 3 "_law_minus" ["_law_one", "_law_other"] (spT 2 false false mH):=by
 refine xA F gN m b rfl (fun _ _ _ _ _ _ hr=>⟨_,_,
  (xi (xD (xq zW hr (x9 (xu zE (xu xJ (xH K 0) (xH K 1)) (xu xJ (xH K 1) (xH K 0))) (xu xJ (xH K 0) (xH K 1)))))),
  (xE (xF (xG (xh zN (xh xU xI xI) (xh xU xI xI)) (xh xU xI xI)))),fun ts KK hl h=>?_⟩)
 obtain⟨f,g,rfl,hf,hg,k⟩:=h
 exact⟨⟨hf.top.bd,hg.bot.bd⟩,⟨hg.top.bd,hf.bot.bd⟩,⟨hf.bot.bd,hg.bot.bd⟩,_,_,rfl,by have:=Pol.pp hf.pos hg.pos;omega,(hf.bot.mul hg.bot).bd,k⟩
theorem y2 {k d:Nat}(B:Blt mg bn)(F:Fun K "_law_same" "_law_same" wc f fd)(m:mg "_law_same" = some (.ref f))(b:Binds K fd ["_law_found", "_law_due"] [])(zz:Own P w K mg base k "_law_same" ["_law_found", "_law_due"] (spT 2 false false (ph d))):Own P w K mg base (k+1) "_law_same" ["_law_found", "_law_due"] (spT 2 false false (ph (d+1))):=by
 refine xA F km m b rfl (fun _ _ _ _ _ _ hr=>⟨_,_,
  (xf (zg (wa (xx tW rfl (B.get "isinstance") yc (x9 (pv 1) (yj (x9 (zH (v:=V.ty "tuple") rfl (B.get "tuple") vo rfl) (zH (v:=V.ty "list") rfl (B.get "list") sG rfl)))))) (xf (zg (PW.pt (dj (xW (ql hr.units) (xx zB rfl (B.get "isinstance") yc (x9 (pv 0) (zH (v:=V.ty "tuple") rfl (B.get "tuple") vo rfl))) (xx zB rfl (B.get "isinstance") yc (x9 (pv 1) (zH (v:=V.ty "tuple") rfl (B.get "tuple") vo rfl))) (xV _)) (jw (xW (ql hr.units) (xx zB rfl (B.get "isinstance") yc (x9 (pv 0) (zH (v:=V.ty "list") rfl (B.get "list") sG rfl))) (xx zB rfl (B.get "isinstance") yc (x9 (pv 1) (zH (v:=V.ty "list") rfl (B.get "list") sG rfl))) (xV _))))) (xi (xD qh)) x_)
  (xf (zg (xW (ql hr.units) (xx (yx K) rfl (B.get "len") wY (yT (pv 0))) (xx (yx K) rfl (B.get "len") wY (yT (pv 1))) (xV _)) (xi (xD qh)) x_)
  (xi (xD (xx (zX K rfl) rfl (B.get "all") hJ (yT (zG (yu (N:=["_law_one", "_law_other"]) (tau:=[none,none]) (XN:=["_law_found", "_law_due"]) (xs:=xg wc) (by decide +kernel) rfl rfl) rfl (wZ (yM rfl (yM rfl qX))) (mq K rfl (B.get "zip") (x9 (pv 0) (pv 1))) (fun _ _ _ _=>(zc K (n:=2) rfl (xy (ye (i:=0) (show(["_law_one", "_law_other"]:List Str).Nodup by decide +kernel) rfl (Or.inl rfl)) (xy (ye (i:=1) (show(["_law_one", "_law_other"]:List Str).Nodup by decide +kernel) rfl (Or.inl rfl)) yX)))) (fun _ _ _ _=>zK) (fun _ _ _ _=>(xq zz hr (x9 (pv 0) (pv 1)) (xeA _)))))))))) x_)
  (xi (xD (aM (zw (vF hr.units) (pv 0) (pv 1) (xV _)) (f_ (zw (vF hr.units) (xx zB rfl (B.get "isinstance") yc (x9 (pv 0) (zH (v:=V.ty "bool") rfl (B.get "bool") af rfl))) (xx zB rfl (B.get "isinstance") yc (x9 (pv 1) (zH (v:=V.ty "bool") rfl (B.get "bool") af rfl))) (xV _))))))),
  (xk (yw (zr (oE xa)) (xk (yw (kg (xK (xh gq (vG xa) (vG xa))) (xK (xh gq (vG xa) (vG xa)))) (xE kD) xQ)
  (xk (yw (xK (xh gq (yp ve (xN xa)) (yp ve (xN xa)))) (xE kD) xQ)
  (xE (yp qY (xN (OkF.e (yU (aV (xG xa xa)).c (zd (xr xl (xr xl yq))) y4 (xF (xG xa xa))))))))) xQ)
  (xE (gx (xh os_eq xa xa) (xh os_eq (vG xa) (vG xa))))),fun ts KK hl h=>?_⟩)
 obtain⟨t,rfl,hs,k⟩:=h
 have hs:oP t=true∨∃(e:Nat) (us:List Tr),d=e+1∧(t=.tup us∨t=.lst us)∧us.length≤100000∧∀u∈us,Sm e u:=by
  cases d with
  | zero=>exact .inl hs
  | succ e=>exact hs.imp id fun⟨us,z⟩=>⟨e,us,rfl,z⟩
 rcases hs with hs | ⟨e,us,rfl,rfl | rfl,hz,hu⟩
 ·cases t with
  | non=>exact⟨⟨rfl,rfl,by show min 0 0≤64;decide⟩,⟨rfl,rfl,by show min 0 0≤64;decide⟩,k⟩
  | bl c =>
   refine⟨⟨rfl,rfl,by show min 0 0≤64;decide⟩,?_⟩
   cases c<;>exact⟨⟨rfl,rfl,by show min 0 0≤64;decide⟩,k⟩
  | int i =>
   show if decide (i=i)=true then _ else _
   rw[xeQ rfl]
   exact⟨⟨rfl,rfl,by show min 0 0≤64;decide⟩,k⟩
  | _=>cases hs
 ·refine⟨⟨rfl,rfl,by show min 0 0≤64;decide⟩,⟨rfl,rfl,by show min 0 0≤64;decide⟩,?_⟩
  refine xY (b := !decide ((us.length:Int)=us.length)) (fun c=>by simp at c) (fun _=>?_)
  show(tI us us).length<sizeLine∧_
  rw[dX]
  refine⟨by rw[xdZ];exact sqz (by omega),?_⟩
  refine u9 (f:=fun u=>Tr.tup [u,u]) (fun _=>.bl true) (fun u hum N hN=>⟨rfl,u,rfl,hu u hum,hN⟩) ?_
  refine⟨us.map fun _=>true,by rw[xd8];rfl,?_⟩
  have e:((us.map fun _=>true).all id)=true:=by rw[xdw];intro x hx;obtain⟨_,_,rfl⟩:=xeg.mp hx;rfl
  show KK (.bl ((us.map fun _=>true).all id))
  rw[e];exact k
 ·refine⟨⟨rfl,rfl,by show min 0 0≤64;decide⟩,⟨rfl,rfl,by show min 0 0≤64;decide⟩,?_⟩
  refine xY (b := !decide ((us.length:Int)=us.length)) (fun c=>by simp at c) (fun _=>?_)
  show(tI us us).length<sizeLine∧_
  rw[dX]
  refine⟨by rw[xdZ];exact sqz (by omega),?_⟩
  refine u9 (f:=fun u=>Tr.tup [u,u]) (fun _=>.bl true) (fun u hum N hN=>⟨rfl,u,rfl,hu u hum,hN⟩) ?_
  refine⟨us.map fun _=>true,by rw[xd8];rfl,?_⟩
  have e:((us.map fun _=>true).all id)=true:=by rw[xdw];intro x hx;obtain⟨_,_,rfl⟩:=xeg.mp hx;rfl
  show KK (.bl ((us.map fun _=>true).all id))
  rw[e];exact k
theorem fF (B:Blt mg bn)(F:Fun K "_law_same" "_law_same" wc f fd)(m:mg "_law_same" = some (.ref f))(b:Binds K fd ["_law_found", "_law_due"] []):Own P w K mg base 6 "_law_same" ["_law_found", "_law_due"] (spT 2 false false c_):=y2 B F m b (y2 B F m b (y2 B F m b (y2 B F m b (y2 B F m b (bR F km m b)))))
end
end K31
namespace K31
open PySem L2 Trn
section
variable {P:Program} {w:World} {K:PySem.W.Frag} {mg:Str→Option Value} {base:Heap} {f:Addr} {fd:FuncData}
theorem vA (B:Blt mg bn)(F:Fun K "_law_whole_places" "_law_whole_places" yB f fd)(m:mg "_law_whole_places" = some (.ref f))(b:Binds K fd ["_law_rows"] [])  :
  Own P w K mg base 1 "_law_whole_places" ["_law_rows"] (spT 1 false false tS):=by
 refine xA F yr m b rfl (fun _ _ _ _ _ _ hr=>⟨_,_,
  (xf (yW 1 yr.nd (zY wo))
  (xf (wd PassesOwn.never rfl (qm rfl (B.get "range") (x9 (zU yK xc) xc)) (ye (i:=2) yr.nd rfl (Or.inr rfl)) (xi (wd PassesOwn.never rfl (qm rfl (B.get "range") (x9 (zU yK xc) xc)) (ye (i:=3) yr.nd rfl (Or.inr rfl)) (xi (zg (xW (vF hr.units) (zG (yu (N:=["_law_row", "_law_x", "_law_y"]) (tau:=[none,some 2,some 3]) (XN:=["_law_rows", "_law_found", "_law_x", "_law_y"]) (xs:=xg yB) (by decide +kernel) rfl rfl) rfl (ui rfl) (zq K (pv 0)) (fun _ _ _ _=>(ye (i:=0) (show(["_law_row", "_law_x", "_law_y"]:List Str).Nodup by decide +kernel) rfl (Or.inl rfl))) (fun _ _ _ _=>(aj (xW fJ (xu ze (xu xJ (xH K 0) (pv 1)) (xu xJ (xH K 0) (pv 2))) (xH K 0) (xV _)))) (fun _ _ _ _=>(pv 0))) (zY wo) (xV _)) (xi (y8 (kI PySem.F.plainAttrs_list PySem.F.slot_list_append PySem.F.type_list_append yZ (pv 1) (yT (yj (x9 (yj (x9 (pv 2) xc)) (yj (x9 (pv 3) xc)))))))) x_)))))
  (xi (xD (pv 1))))),
  (xk (wB (uO zJ))
  (xk (zb (vn (xG (yL xo) xo)) xl.g (zb (vn (xG (yL xo) xo)) xl.g (yw (xK (xh os_eq (OkF.e (yU (yJ xa).c xl (xK (xh dP (xh wk (xh xU xI xa) (xh xU xI xa)) xI)) xa)) (dQ (b:=true) zJ))) (wM (yn (b:=true) (xG (yn (b:=true) (xG xa xo)) (yn (b:=true) (xG xa xo))))) xQ)))
  qd)),fun ts KK hl h=>?_⟩)
 obtain⟨rows,rfl,hf,k⟩:=h
 have l8:=(xa_ hf).1.2
 refine xR (fun τ=>τ=[.fz (.tup (rows.map trR)),.ow [],.un,.un]) ?_ (fun N hN=>hN _ rfl)
 rintro _ rfl
 refine xR (fun τ=>∃x2 x3:TV,τ=[.fz (.tup (rows.map trR)),.ow ((wK rows).map wpT),x2,x3]) ?_ (fun N hN=>?_)
 ·rintro _ ⟨x2,x3,rfl⟩
  exact k
 refine ur (bG (-12) 25) (fun i τ=>i≤25∧∃x2 x3:TV,τ=[.fz (.tup (rows.map trR)),.ow ((((List.range i).flatMap yI).filter (kH rows)).map wpT),x2,x3]) (fun KK h=>⟨⟨by decide,by decide,by decide,by decide⟩,h⟩) ⟨by decide,_,_,rfl⟩ ?_ (fun τ ⟨_,x2,x3,e⟩=>hN _ ⟨x2,x3,by rw[e,zm];rfl⟩)
 rintro i x τ N2 hx ⟨_,x2,x3,rfl⟩ hN2
 have hi:=(xdQ.mp hx).1
 rw[zm] at hi
 rw[qs hi] at hx
 cases hx
 have up:((List.range (i+1)).flatMap yI)=(List.range i).flatMap yI++yI i:=by
  rw[xeq,xdI,xdJ,List.flatMap_nil,xdz]
 have fl:(((List.range i).flatMap yI).filter (kH rows)).length≤625:=by
  have:=xdY (kH rows) ((List.range i).flatMap yI)
  rw[q8] at this
  omega
 show xbs _ _ _ _ ([.fz (.tup (rows.map trR)),.ow ((((List.range i).flatMap yI).filter (kH rows)).map wpT),.fz (.int (-12+(i:Int))),x3]:TSt)
 refine ur (bG (-12) 25) (fun j τ=>j≤25∧∃x3:TV,τ=[.fz (.tup (rows.map trR)),.ow ((((List.range i).flatMap yI).filter (kH rows)++((yI i).take j).filter (kH rows)).map wpT),.fz (.int (-12+(i:Int))),x3]) (fun KK h=>⟨⟨by decide,by decide,by decide,by decide⟩,h⟩) ⟨by decide,x3,by rw[List.take_zero,List.filter_nil,xdz]⟩ ?_ (fun τ ⟨_,x3,e⟩=>hN2 _ ⟨by omega,.fz (.int (-12+(i:Int))),x3,by
  rw[e,zm,xew (by show((List.range 25).map _).length≤25;simp),←xdF,←up]⟩)
 rintro j y τ N3 hy ⟨_,x3,rfl⟩ hN3
 have hj:=(xdQ.mp hy).1
 rw[zm] at hj
 rw[qs hj] at hy
 cases hy
 have gj:(yI i)[j]? = some (-12+(i:Int),-12+(j:Int)):=by
  show((List.range 25).map _)[j]? = _
  rw[xdR,List.getElem?_range hj];rfl
 have gl:((yI i).take j).length≤25:=by rw[xd4];omega
 have gl2:=xdY (kH rows) ((yI i).take j)
 have tk1:(yI i).take (j+1)=(yI i).take j++[(-12+(i:Int),-12+(j:Int))]:=by rw[xex,gj];rfl
 refine⟨by rw[xdZ];exact sqz (by omega),uN (fun r=>decide (r.1*(-12+(i:Int))+r.2.1*(-12+(j:Int))>r.2.2)) trR (fun r hr N M h1 h0=>?_) ?_⟩
 ·have br:=((xa_ hf).2.1 r hr).2
  unfold Pol.fZ at br
  exact⟨yl (by omega) (by omega),yl (by omega) (by omega),xY h1 h0⟩
 dsimp only[xbO,xap]
 refine lE (vk trR (fun r=>rfl) _) ?_
 rw[List.isEmpty_map,filter_empty]
 have ek:(rows.all fun r=>!decide (r.1*(-12+(i:Int))+r.2.1*(-12+(j:Int))>r.2.2))=kH rows (-12+(i:Int),-12+(j:Int)):=by
  unfold kH
  congr 1
  funext r
  by_cases z:r.1*(-12+(i:Int))+r.2.1*(-12+(j:Int))≤r.2.2
  ·rw[xeQ z,xeP (by omega)];rfl
  ·rw[xeP z,xeQ (by omega)];rfl
 refine xY (b:=rows.all fun r=>!decide (r.1*(-12+(i:Int))+r.2.1*(-12+(j:Int))>r.2.2)) (fun c=>?_) (fun c=>?_)
 ·rw[ek] at c
  refine⟨by rw[xdZ,xdU];exact sqz (by omega),hN3 _ ⟨by omega,.fz (.int (-12+(j:Int))),?_⟩⟩
  rw[tk1,xdF,xdH c,List.filter_nil]
  simp only[xd6,xdy]
  rfl
 ·rw[ek] at c
  refine hN3 _ ⟨by omega,.fz (.int (-12+(j:Int))),?_⟩
  rw[tk1,xdF,xdG (by rw[c];exact xdd),List.filter_nil,xdz]
  rfl
theorem gD (B:Blt mg bn)(F:Fun K "_law_ahead" "_law_ahead" uT f fd)(m:mg "_law_ahead" = some (.ref f))(b:Binds K fd ["_law_one", "_law_other"] [])(uA:Own P w K mg base 1 "_law_less" ["_law_one", "_law_other"] (spT 2 false false p5)) :
  Own P w K mg base 2 "_law_ahead" ["_law_one", "_law_other"] (spT 2 false false nZ):=by
 refine xA F gK m b rfl (fun _ _ _ _ _ _ hr=>⟨_,_,
  (xf (zg (xW (ql hr.units) (xH K 0) (xH K 1) (xV _)) (xi (xD (xq uA hr (x9 (xH K 0) (xH K 1))))) x_)
  (xi (xD (xq uA hr (x9 (xH K 0) (xH K 1)))))),
  (xk (yw (xK (xh gq xI xI)) (xE (xF (xG xI xI))) xQ)
  (xE (xF (xG xI xI)))),fun ts KK hl h=>?_⟩)
 obtain⟨p,q,rfl,hp,hq,k⟩:=h
 refine⟨⟨rfl,rfl,by show min 1 1≤64;decide⟩,?_⟩
 refine xY (b := !teq (fT p.1) (fT q.1)) (fun c=>?_) (fun c=>?_)
 ·rw[aX] at c
  have c:¬p.1=q.1:=by simpa using c
  unfold fM at k
  rw[if_neg c] at k
  exact⟨p.1,q.1,rfl,hp.1.mono (by decide),hq.1.mono (by decide),k⟩
 ·rw[aX] at c
  have c:p.1=q.1:=by simpa using c
  unfold fM at k
  rw[if_pos c] at k
  exact⟨p.2,q.2,rfl,hp.2.mono (by decide),hq.2.mono (by decide),k⟩
theorem dy (B:Blt mg bn)(F:Fun K "_law_bend" "_law_bend" vZ f fd)(m:mg "_law_bend" = some (.ref f))(b:Binds K fd ["_law_one", "_law_other", "_law_third"] [])(wq:Own P w K mg base 3 "_law_times" ["_law_one", "_law_other"] (spT 2 false false mw))(yP:Own P w K mg base 3 "_law_minus" ["_law_one", "_law_other"] (spT 2 false false mH)) :
  Own P w K mg base 4 "_law_bend" ["_law_one", "_law_other", "_law_third"] (spT 3 false false mN):=by
 refine xA F q_ m b rfl (fun _ _ _ _ _ _ hr=>⟨_,_,
  (xf (yW 3 q_.nd (xq wq hr (x9 (xq yP hr (x9 (xH K 1) (xH K 0))) (xq yP hr (x9 (xH K 2) (xH K 0))))))
  (xi (xD (uE (wF K) (xq yP hr (x9 (pv 3) (xq wq hr (x9 (xq yP hr (x9 (xH K 1) (xH K 0))) (xq yP hr (x9 (xH K 2) (xH K 0))))))) xc (fun _ _=>rfl))))),
  (xk (yg (xF (xG (xF (xG xI xI)) (xF (xG xI xI)))))
  (xE (rJ (xF (xG xa (xF (xG (xF (xG xI xI)) (xF (xG xI xI)))))) xo))),fun ts KK hl h=>?_⟩)
 obtain⟨p,q,w,rfl,hp,hq,hw,k⟩:=h
 have m:∀ {f g:F2},Fk 200 f→Fk 200 g→Fk 401 (fmin f g):=fun h1 h2=>h1.min h2
 have t:∀ {f g:F2},Fk 401 f→Fk 401 g→Fk 900 (oi f g):=fun h1 h2=>(h1.tim h2).mono (by decide)
 have u:∀ {k:Nat} {f:F2},Fk k f→k≤900→Fk 900 f:=fun h hk=>h.mono hk
 exact⟨q.1,p.1,rfl,u hq.1 (by decide),u hp.1 (by decide),w.2,p.2,rfl,u hw.2 (by decide),u hp.2 (by decide),_,_,rfl,u (m hq.1 hp.1) (by decide),u (m hw.2 hp.2) (by decide),
  q.2,p.2,rfl,u hq.2 (by decide),u hp.2 (by decide),w.1,p.1,rfl,u hw.1 (by decide),u hp.1 (by decide),_,_,rfl,u (m hq.2 hp.2) (by decide),u (m hw.1 hp.1) (by decide),
  _,_,rfl,t (m hq.1 hp.1) (m hw.2 hp.2),t (m hq.2 hp.2) (m hw.1 hp.1),k⟩
theorem h8 (B:Blt mg bn)(F:Fun K "_law_chain" "_law_chain" uJ f fd)(m:mg "_law_chain" = some (.ref f))(b:Binds K fd ["_law_places"] [])(vM:Own P w K mg base 4 "_law_bend" ["_law_one", "_law_other", "_law_third"] (spT 3 false false mN)) :
  Own P w K mg base 5 "_law_chain" ["_law_places"] (spT 1 false false aK):=by
 refine xA F ue m b rfl (fun _ _ _ _ _ _ hr=>⟨_,_,
  (xf (yW 1 ue.nd (zY wo))
  (xf (wd PassesOwn.never rfl (zq K (pv 0)) (y9 2 ue.nd) (xf (kQ PassesOwn.never (PW.pt (dO (xW fJ (xx (yx K) rfl (B.get "len") wY (yT (pv 1))) xc (xV _)) (kY (xW gJ (xq vM hr (xS (uE (wF K) (pv 1) (zU yK xc) (fun _ _=>rfl)) (x9 (uE (wF K) (pv 1) (zU yK xc) (fun _ _=>rfl)) (pv 2)))) xc (xV _))))) (xi (y8 (c9 PySem.F.plainAttrs_list PySem.F.slot_list_pop PySem.F.type_list_pop pX (pv 1)))))
  (xi (y8 (kI PySem.F.plainAttrs_list PySem.F.slot_list_append PySem.F.type_list_append yZ (pv 1) (yT (pv 2)))))))
  (xi (xD (pv 1))))),
  (xk (wB (uO zJ))
  (xk (zb (yJ xa) xl.g (xk (qb (kZ (xK (xh dP (yp ve (xN vU)) xo)) (xK (xh gg (xF (xT (rm (yL xo)) (xG (rm (yL xo)) xa))) xo))) me)
  (wM xa)))
  qd)),fun ts KK hl h=>?_⟩)
 obtain⟨ps,rfl,hp,hl',k⟩:=h
 have ba:∀ {i x},x∈chR (ps.take i)→Bx 1000 x:=fun {i x} hx=>tP (P:=fun x=>Bx 1000 x) (fun q hq=>hp q (xej hq)) x hx
 refine zP (all:=ps.map wpT) (fun i τ=>∃x2:TV,τ=[.fz (.lst (ps.map wpT)),.ow ((chR (ps.take i)).reverse.map wpT),x2]) ⟨.un,rfl⟩ ?_ ?_
 ·rintro i x τ N hx ⟨x2,rfl⟩ hN
  obtain⟨p,hpi,rfl⟩:=u_ hx
  have bp:=hp p (xei hpi)
  have cl:=sL (ps.take i)
  have cl:(chR (ps.take i)).length≤1000:=by rw[xd4] at cl;omega
  have fold:=az hpi
  have bs:∀x∈chR (ps.take i),Bx 1000 x:=fun x hx=>ba hx
  show pH _ _ _ ([.fz (.lst (ps.map wpT)),.ow ((chR (ps.take i)).reverse.map wpT),.fz (wpT p)]:TSt)
  refine xR (fun τ=>τ=[.fz (.lst (ps.map wpT)),.ow ((kG (chR (ps.take i)) p).reverse.map wpT),.fz (wpT p)]) ?_ (fun N3 hN3=>?_)
  ·rintro _ rfl
   have pl:=kL (p:=p) (s:=chR (ps.take i))
   refine⟨by rw[xdZ,xd1];exact sqz (by omega),hN _ ⟨.fz (wpT p),?_⟩⟩
   rw[fold,xer,xd6]
   rfl
  generalize chR (ps.take i)=s0 at *
  refine qr (fun n τ=>∃s:List D2,n=s.length∧(∀x∈s,Bx 1000 x)∧kG s p=kG s0 p∧τ=[.fz (.lst (ps.map wpT)),.ow (s.reverse.map wpT),.fz (wpT p)]) _ ⟨s0,rfl,bs,rfl,rfl⟩ ?_
  rintro n τ N4 ⟨s,rfl,hs,e,rfl⟩ hN4
  have fin:s.length≤1→kG s p=s:=fun h=>by
   rcases s with _ | ⟨a,_ | ⟨b,r⟩⟩
   ·rfl
   ·rfl
   ·simp at h
  refine xY (b:=decide ((((s.reverse.map wpT).length:Nat):Int)>1)) (fun c=>?_) (fun c=>?_)
  rotate_left
  ·have c:=xeT c
   rw[xdZ,xd1] at c
   rw[←e,fin (by omega)] at hN3
   exact sR (hN3 _ rfl)
  have c:=xeU c
  rw[xdZ,xd1] at c
  rcases s with _ | ⟨b,_ | ⟨a,s⟩⟩
  ·simp at c
  ·simp at c
  have at1:atT ((b::a::s).reverse.map wpT) (-1)=some (wpT b):=by
   rw[xer,xd6];exact g6 _ _
  have at2:atT ((b::a::s).reverse.map wpT) (-2)=some (wpT a):=by
   rw[xer,xer,xdy,xd6];exact fy _ _ _
  show tN (atT ((b::a::s).reverse.map wpT) (-2)) _
  rw[at2]
  show tN (atT ((b::a::s).reverse.map wpT) (-1)) _
  rw[at1]
  have k200:∀ {x:D2},Bx 1000 x→Pk 200 (wp x):=fun h=>⟨(xbc h).1.mono (by decide),(xbc h).2.mono (by decide)⟩
  have ls:h_ a b p=decide (¬dn (wp a) (wp b) (wp p)≤0):=by
   rw[cJ]
   unfold h_
   congr 1
   exact propext ⟨fun z=>by omega,fun z=>by omega⟩
  refine⟨wp a,wp b,wp p,rfl,k200 (hs a (by simp)),k200 (hs b (by simp)),k200 bp,?_⟩
  refine xY (b:=decide (dn (wp a) (wp b) (wp p)≤0)) (fun d=>?_) (fun d=>?_)
  ·have d:=xeU d
   have d:h_ a b p=false:=by rw[ls];exact xeP (fun z=>z d)
   refine⟨by simp,?_⟩
   have el:((b::a::s).reverse.map wpT).dropLast=(a::s).reverse.map wpT:=by
    rw[xer,xd6];simp
   show N4 [.fz (.lst (ps.map wpT)),.ow (((b::a::s).reverse.map wpT).dropLast),.fz (wpT p)]
   rw[el]
   refine hN4 _ _ ?_ ⟨a::s,rfl,fun x hx=>hs x (xed _ hx),?_,rfl⟩
   ·simp
   ·rw[←e]
    conv=>rhs;unfold kG
    rw[if_neg (by rw[d];exact xdd)]
  ·have d:=xeT d
   have d:h_ a b p=true:=by rw[ls];exact xeQ d
   have:kG (b::a::s) p=b::a::s:=by unfold kG;rw[if_pos d]
   rw[←e,this] at hN3
   exact hN3 _ rfl
 ·rintro τ ⟨x2,rfl⟩
  rw[xdZ,xew (xeA _)]
  exact k
theorem dR (B:Blt mg bn)(F:Fun K "_law_ring" "_law_ring" uu f fd)(m:mg "_law_ring" = some (.ref f))(b:Binds K fd ["_law_places"] [])(wy:Own P w K mg base 5 "_law_chain" ["_law_places"] (spT 1 false false aK))(uU:Own P w K mg base 2 "_law_ahead" ["_law_one", "_law_other"] (spT 2 false false nZ)) :
  Own P w K mg base 6 "_law_ring" ["_law_places"] (spT 1 false false nG):=by
 refine xA F uI m b rfl (fun _ _ _ _ _ _ hr=>⟨_,_,
  (xf (yW 1 uI.nd (zY wo))
  (xf (wd PassesOwn.never rfl (zq K (pv 0)) (ye (i:=2) uI.nd rfl (Or.inr rfl)) (xi (zg (xW (mT hr.units) (pv 2) (pv 1) (by with_unfolding_all rfl)) (xi (y8 (kI PySem.F.plainAttrs_list PySem.F.slot_list_insert PySem.F.type_list_insert dN (pv 1) (x9 (xx (yx K) rfl (B.get "len") wY (yT (zG (yu (N:=["_law_other", "_law_place"]) (tau:=[none,some 2]) (XN:=["_law_places", "_law_some", "_law_place"]) (xs:=xg uu) (by decide +kernel) rfl rfl) rfl (ui rfl) (zq K (pv 1)) (fun _ _ _ _=>(ye (i:=0) (show(["_law_other", "_law_place"]:List Str).Nodup by decide +kernel) rfl (Or.inl rfl))) (fun _ _ _ _=>(aj (wa (xq uU hr (x9 (pv 0) (pv 1)))))) (fun _ _ _ _=>(pv 0))))) (pv 2))))) x_)))
  (xf (zg (xW (jU K hr.units) (xx (yx K) rfl (B.get "len") wY (yT (pv 1))) xc (xV _)) (xi (xD (pv 1))) x_)
  (xi (xD (xu (mK K) (qw (og K) (xq wy hr (yT (pv 1))) jy (vS (zU yK xc))) (qw (og K) (xq wy hr (yT (pI K (pv 1) (vS (zU yK xc))))) jy (vS (zU yK xc))))))))),
  (xk (wB (uO zJ))
  (xk (zb (yJ xa) xl.g (yw (xK (xh xav xa vU)) (nQ (yp ve (xN (OkF.e (yU n_ xl (zr (xF (xG xa xa))) xa)))) xa) xQ))
  (xk (oz (i:=1) (yw (xK (xh j4 (yp ve (xN xa)) xo)) (xE xa) xQ))
  (xE (bh (pA (xF (xN xa)) qc (qv (yL xo))) (pA (xF (xN (OkF.e (t_ xa (yL xo))))) qc (qv (yL xo)))))))),fun ts KK hl h=>?_⟩)
 obtain⟨ps,rfl,hp,hs,hl',k⟩:=h
 refine xR (fun τ=>τ=[.fz (.lst (ps.map wpT)),.ow [],.un]) ?_ (fun N hN=>hN _ rfl)
 rintro _ rfl
 refine xR (fun τ=>∃x2:TV,τ=[.fz (.lst (ps.map wpT)),.ow (ps.map wpT),x2]) ?_ (fun N hN=>?_)
 rotate_left
 ·refine ur (ps.map wpT) (fun i τ=>∃x2:TV,τ=[.fz (.lst (ps.map wpT)),.ow ((ps.take i).map wpT),x2]) (fun KK h=>h) ⟨.un,rfl⟩ ?_ (fun τ ⟨x2,e⟩=>hN _ ⟨x2,by rw[e,xdZ,xew (xeA _)]⟩)
  rintro i x τ N2 hx ⟨x2,rfl⟩ hN2
  obtain⟨p,hpi,rfl⟩:=u_ hx
  have lt:=fun q hq=>cP (q:=q) hs hpi hq
  have tl:(ps.take i).length≤1000:=by rw[xd4];omega
  have k900:∀ {x:D2},x∈ps→Pk 900 (wp x):=fun h=>⟨(xbc (hp _ h)).1.mono (by decide),(xbc (hp _ h)).2.mono (by decide)⟩
  have pm:=xei hpi
  have tk1:ps.take (i+1)=ps.take i++[p]:=by rw[xex,hpi];rfl
  refine⟨⟨rfl,vk wpT (fun q=>xaw (wp q)) _,by show(2:Nat)≤60;decide⟩,?_⟩
  have no:(((ps.take i).map wpT).any fun u=>teq u (wpT p))=false:=by
   rw[List.any_eq_false]
   intro u hu
   obtain⟨q,hq,rfl⟩:=xeg.mp hu
   rw[show teq (wpT q) (wpT p)=decide (wp q=wp p) from xah _ _]
   intro z
   have z:=xeU z
   exact xa4 (lt q hq) (Prod.ext (xeO (fun w=>w.1.1) z) (xeO (fun w=>w.2.1) z))
  refine xY (b := !(((ps.take i).map wpT).any fun u=>teq u (wpT p))) (fun c=>?_) (fun c=>by rw[no] at c;cases c)
  refine⟨by rw[xdZ];exact sqz (by omega),uN (fun q=>xba q p) wpT (fun q hq N M h1 h0=>?_) ?_⟩
  ·exact⟨wp q,wp p,rfl,k900 (xej hq),k900 pm,by rw[bK];exact xY h1 h0⟩
  have fe:(ps.take i).filter (fun q=>xba q p)=ps.take i:=List.filter_eq_self.mpr fun q hq=>xeQ (lt q hq)
  rw[fe]
  refine⟨((ps.take i).map wpT).length,rfl,xeA _,by rw[xdZ];exact sqz (by omega),?_⟩
  rw[List.take_length,xdC,xdz]
  refine hN2 _ ⟨.fz (wpT p),?_⟩
  rw[tk1,xd6]
  rfl
 rintro _ ⟨x2,rfl⟩
 refine xR (fun τ=>τ=[.fz (.lst (ps.map wpT)),.fz (.lst (ps.map wpT)),x2]∧3≤ps.length) ?_ (fun N hN=>?_)
 rotate_left
 ·refine xY (b:=decide ((((ps.map wpT).length:Nat):Int)<3)) (fun c=>?_) (fun c=>?_)
  ·have c:=xeU c
   rw[xdZ] at c
   rw[nP (by omega)] at k
   exact k
  ·have c:=xeT c
   rw[xdZ] at c
   exact hN _ ⟨rfl,by omega⟩
 rintro _ ⟨rfl,l3⟩
 have a:=vv ps
 have b':=vv ps.reverse
 rw[xd1] at b'
 refine⟨ps,rfl,hp,hl',rfl,ps.reverse,by rw[List.map_reverse],fun p hp'=>hp p (List.mem_reverse.mp hp'),by rw[xd1];exact hl',?_⟩
 show bS (.lst (jK ((chR ps).reverse.map wpT) none (some (-1)))) (.lst (jK ((chR ps.reverse).reverse.map wpT) none (some (-1)))) KK
 rw[rD,rD]
 refine⟨xbx (by rw[xdZ,xdZ];omega),?_⟩
 rw[←xd6]
 have e:uD ps=half ps++half ps.reverse:=if_pos (by omega)
 rw[←e]
 exact k
end
end K31
namespace K31
open PySem L2 Trn
section
variable {P:Program} {w:World} {K:PySem.W.Frag} {mg:Str→Option Value} {base:Heap} {f:Addr} {fd:FuncData}
theorem ah (B:Blt mg bn)(F:Fun K "_law_box" "_law_box" qM f fd)(m:mg "_law_box" = some (.ref f))(b:Binds K fd ["_law_state_here"] [])(xB:Own P w K mg base 1 "_law_take" ["_law_state_here", "_law_many"] (spT 1 true false n5)) :
  Own P w K mg base 2 "_law_box" ["_law_state_here"] (spT 0 true false cE):=by
 refine jq F yC m b rfl (fun _ _ _ _ _ _ hr=>⟨_,_,
  (xf (yW 1 yC.nd (zY wo))
  (xf (wd PassesOwn.never rfl (zq K (zY (xS (yj (x9 xc xc)) (xS (yj (x9 (zU yK xc) xc)) (x9 (yj (x9 xc xc)) (yj (x9 xc (zU yK xc)))))))) (zc K (n:=2) rfl (xy (y9 2 yC.nd) (xy (y9 3 yC.nd) yX))) (xf (yW 4 yC.nd (xu ze xc (xq xB hr (x9 (pv 0) xc))))
  (xi (y8 (kI PySem.F.plainAttrs_list PySem.F.slot_list_append PySem.F.type_list_append yZ (pv 1) (yT (yj (xS (xu xJ (pv 2) (pv 4)) (x9 (xu xJ (pv 3) (pv 4)) (xq xB hr (x9 (pv 0) (xu ze (xu xJ xc (pv 4)) xc))))))))))))
  (xf (wd PassesOwn.never rfl (jI rfl (B.get "range") (yT (xq xB hr (x9 (pv 0) xc)))) (y9 5 yC.nd) (xf (v8 (i:=2) (j:=3) rfl yC.nd rfl rfl (by decide) rfl rfl (x9 (xu zE (xq xB hr (x9 (pv 0) xc)) xc) (xu zE (xq xB hr (x9 (pv 0) xc)) xc)) (by rfl))
  (xf (zg (PW.pt (dO (xW (vF hr.units) (pv 2) xc (xV _)) (kY (xW (vF hr.units) (pv 3) xc (xV _))))) (xi (yW 2 yC.nd xc)) x_)
  (xf (v8 (i:=6) (j:=7) rfl yC.nd rfl rfl (by decide) rfl rfl (x9 (xu zE (xq xB hr (x9 (pv 0) xc)) xc) (xu zE (xq xB hr (x9 (pv 0) xc)) xc)) (by rfl))
  (xi (y8 (kI PySem.F.plainAttrs_list PySem.F.slot_list_insert PySem.F.type_list_insert dN (pv 1) (x9 (xq xB hr (x9 (pv 0) (xu ze (xx (yx K) rfl (B.get "len") wY (yT (pv 1))) xc))) (yj (xS (pv 2) (x9 (pv 3) (xu zE (xu ze (xu ze (xu xJ (pv 2) (pv 6)) (xu xJ (pv 3) (pv 7))) (xq xB hr (x9 (pv 0) xc))) xc))))))))))))
  (xi (xD (pv 1)))))),
  (xk (wB (uO zJ))
  (xk (zb (yJ (dQ (b:=true) (xT (yn (b:=true) (xG xo xo)) (xT (yn (b:=true) (xG (yL xo) xo)) (xG (yn (b:=true) (xG xo xo)) (yn (b:=true) (xG xo (yL xo)))))))) (zd (xr xl (xr xl yq))).g (xk (yg (xh wk xo (yt (xN xo))))
  (wM (yn (b:=true) (xT (xh xU xa xa) (xG (xh xU xa xa) (yt (xN (xh wk (xh xU xo xa) xo)))))))))
  (xk (zb (qK (xN (yt (xN xo)))) xl.g (xk (uV (xG (xh zN (yt (xN xo)) xo) (xh zN (yt (xN xo)) xo)))
  (xk (yw (kZ (xK (xh os_eq xa xo)) (xK (xh os_eq xa xo))) (yg xo) xQ)
  (xk (uV (xG (xh zN (yt (xN xo)) xo) (xh zN (yt (xN xo)) xo)))
  (nQ (yt (xN (xh wk (yp ve (xN vU)) xo))) (yn (b:=true) (xT xa (xG xa (xh zN (xh wk (xh wk (xh xU xa xa) (xh xU xa xa)) (yt (xN xo))) xo)))))))))
  qd))),fun ts KK hl h=>?_⟩)
 obtain⟨rfl,k⟩:=h
 refine xR (fun τ=>τ=[.st,.ow [],.un,.un,.un,.un,.un,.un]) ?_ (fun N hN=>hN _ rfl)
 rintro _ rfl
 refine xR (fun τ=>∃(rows:List Pol.R3) (x2 x3 x4:TV),τ=[.st,.ow (rows.map trR),x2,x3,x4,.un,.un,.un]∧lA 4 rows) ?_ (fun N hN=>?_)
 rotate_left
 ·refine ur (bg.map dT) (fun i τ=>∃(rows:List Pol.R3) (x2 x3 x4:TV),τ=[.st,.ow (rows.map trR),x2,x3,x4,.un,.un,.un]∧lA i rows) (fun KK h=>h) ⟨[],_,_,_,rfl,rfl,fun j r d h=>by simp at h⟩ ?_ (fun τ ⟨rows,x2,x3,x4,e,h⟩=>hN _ ⟨rows,x2,x3,x4,e,h⟩)
  rintro i it τ N2 hx ⟨rows,x2,x3,x4,rfl,hu⟩ hN2
  obtain⟨d,hd,rfl⟩:=u_ hx
  have ds:=sj hd
  have hi:i<4:=(xdQ.mp hd).1
  refine⟨rfl,tk (by decide),fun r a1 a2=>⟨yl (by omega) (by omega),yl (by omega) (by omega),yl (by omega) (by omega),tk (by omega),fun q a5 a6=>⟨by rw[xdZ,hu.1];exact sqz (by omega),?_⟩⟩⟩
  have st:=hu.step hd (b:=1+r) (c:=q) (by omega)
  have e:rows.map trR++[Tr.tup [.int (d.1*(1+r)),.int (d.2*(1+r)),.int q]]=(rows++[(d.1*(1+r),d.2*(1+r),q)]).map trR:=by rw[xd6];rfl
  show N2 [.st,.ow (rows.map trR++[Tr.tup [.int (d.1*(1+r)),.int (d.2*(1+r)),.int q]]),_,_,_,_,_,_]
  rw[e]
  exact hN2 _ ⟨_,_,_,_,rfl,st⟩
 rintro _ ⟨four,x2,x3,x4,rfl,hB⟩
 have L0:=hB.lf
 have fl:=hB.1
 refine xR (fun τ=>∃(rows:List Pol.R3) (x2 x3 x4 x5 x6 x7:TV),τ=[.st,.ow (rows.map trR),x2,x3,x4,x5,x6,x7]∧LF0 rows) ?_ (fun N hN=>?_)
 ·rintro _ ⟨rows,x2,x3,x4,x5,x6,x7,rfl,h⟩
  exact k rows h
 refine⟨tk (by decide),fun n n0 n4=>⟨⟨by omega,by omega⟩,?_⟩⟩
 refine zP (fun i τ=>∃(rows:List Pol.R3) (x2 x3 x4 x5 x6 x7:TV),τ=[.st,.ow (rows.map trR),x2,x3,x4,x5,x6,x7]∧LF0 rows∧rows.length=4+i) ⟨four,_,_,_,_,_,_,rfl,L0,fl⟩ ?_ (fun τ ⟨rows,x2,x3,x4,x5,x6,x7,e,h,_⟩=>hN _ ⟨rows,x2,x3,x4,x5,x6,x7,e,h⟩)
 rintro i it τ N2 hx ⟨rows,x2,x3,x4,x5,x6,x7,rfl,h0,hl⟩ hN2
 have hi:i<n.toNat:=by have:=(xdQ.mp hx).1;rw[zm] at this;exact this
 show pH _ _ _ ([.st,.ow (rows.map trR),x2,x3,x4,.fz it,x6,x7]:TSt)
 refine xR (fun τ=>∃a b:Int,τ=[.st,.ow (rows.map trR),.fz (.int a),.fz (.int b),x4,.fz it,x6,x7]∧((-4≤a∧a≤4)∧(-4≤b∧b≤4))) ?_ (fun N3 hN3=>⟨tk (by decide),fun a a0 a1=>⟨tk (by decide),fun b b0 b1=>hN3 _ ⟨a-4,b-4,rfl,by omega⟩⟩⟩)
 rintro _ ⟨a,b,rfl,hab⟩
 refine xR (fun τ=>∃a b:Int,τ=[.st,.ow (rows.map trR),.fz (.int a),.fz (.int b),x4,.fz it,x6,x7]∧((-4≤a∧a≤4)∧(-4≤b∧b≤4))∧(a≠0∨b≠0)) ?_ (fun N3 hN3=>?_)
 rotate_left
 ·refine xY (b:=decide (a=0)) (fun c=>?_) (fun c=>?_)
  ·refine xY (b:=decide (b=0)) (fun d=>?_) (fun d=>?_)
   ·exact hN3 _ ⟨3,b,rfl,by omega,.inl (by decide)⟩
   ·exact hN3 _ ⟨a,b,rfl,by omega,.inr (xeT d)⟩
  ·exact sR (hN3 _ ⟨a,b,rfl,by omega,.inl (xeT c)⟩)
 rintro _ ⟨a,b,rfl,hab,hne⟩
 refine xR (fun τ=>∃x y:Int,τ=[.st,.ow (rows.map trR),.fz (.int a),.fz (.int b),x4,.fz it,.fz (.int x),.fz (.int y)]∧((-2≤x∧x≤2)∧(-2≤y∧y≤2))) ?_ (fun N3 hN3=>⟨tk (by decide),fun a a0 a1=>⟨tk (by decide),fun b b0 b1=>hN3 _ ⟨a-2,b-2,rfl,by omega⟩⟩⟩)
 rintro _ ⟨x,y,rfl,hxy⟩
 have ml:(rows.map trR).length=rows.length:=xdZ _
 refine⟨tk (by rw[ml];omega),fun kk k0 k1=>⟨yl (by omega) (by omega),yl (by omega) (by omega),tk (by decide),fun t t0 t4=>?_⟩⟩
 rw[ml] at k1
 have m1:=j5 hab.1.1 hab.1.2 hxy.1.1 hxy.1.2 (by decide) (by decide)
 have m2:=j5 hab.2.1 hab.2.2 hxy.2.1 hxy.2.2 (by decide) (by decide)
 refine⟨kk.toNat,by rw[Int.toNat_of_nonneg k0],by rw[ml];omega,by rw[ml];exact sqz (by omega),?_⟩
 have e:(rows.map trR).take kk.toNat++[Tr.tup [.int a,.int b,.int (a*x+b*y+t-1)]]++(rows.map trR).drop kk.toNat=(rows.take kk.toNat++[(a,b,a*x+b*y+t-1)]++rows.drop kk.toNat).map trR:=by
  rw[xd6,xd6,List.map_take,List.map_drop];rfl
 show N2 [.st,.ow ((rows.map trR).take kk.toNat++[Tr.tup [.int a,.int b,.int (a*x+b*y+t-1)]]++(rows.map trR).drop kk.toNat),_,_,_,_,_,_]
 rw[e]
 refine hN2 _ ⟨_,_,_,_,_,_,_,rfl,h0.ins ?_ (by omega) _,?_⟩
 ·unfold Extra
  simp only
  omega
 ·simp only[xdU,xd4,xdW,xd3]
  omega
theorem gG (B:Blt mg bn)(F:Fun K "_law_spike" "_law_spike" uY f fd)(m:mg "_law_spike" = some (.ref f))(b:Binds K fd ["_law_state_here"] [])(xB:Own P w K mg base 1 "_law_take" ["_law_state_here", "_law_many"] (spT 1 true false n5)) :
  Own P w K mg base 2 "_law_spike" ["_law_state_here"] (spT 0 true false cE):=by
 refine jq F uv m b rfl (fun _ _ _ _ _ _ hr=>⟨_,_,
  (xf (yW 1 uv.nd (xu ze xc (xq xB hr (x9 (pv 0) xc))))
  (xf (yW 2 uv.nd (zY (xS (yj (xS (zU yK xc) (x9 xc xc))) (x9 (yj (xS xc (x9 (xu xJ (zU yK xc) (pv 1)) xc))) (yj (xS xc (x9 (xu xJ xc (pv 1)) (xu xJ xc (pv 1)))))))))
  (xf (zg (xW (vF hr.units) (xq xB hr (x9 (pv 0) xc)) xc (xV _)) (xi (y8 (kI PySem.F.plainAttrs_list PySem.F.slot_list_append PySem.F.type_list_append yZ (pv 2) (yT (yj (xS (xq xB hr (x9 (pv 0) xc)) (x9 (xu ze xc (xq xB hr (x9 (pv 0) xc))) (xu ze xc (xq xB hr (x9 (pv 0) xc)))))))))) x_)
  (xi (xD (pv 2)))))),
  (xk (yg (xh wk xo (yt (xN xo))))
  (xk (wB (uO (xT (yn (b:=true) (xT (yL xo) (xG xo xo))) (xG (yn (b:=true) (xT xo (xG (xh xU (yL xo) xa) xo))) (yn (b:=true) (xT xo (xG (xh xU xo xa) (xh xU xo xa))))))))
  (xk (yw (xK (xh os_eq (yt (xN xo)) xo)) (wM (yn (b:=true) (xT (yt (xN xo)) (xG (xh wk xo (yt (xN xo))) (xh wk xo (yt (xN xo))))))) xQ)
  qd))),fun ts KK hl h=>?_⟩)
 obtain⟨rfl,k⟩:=h
 refine xR (fun τ=>∃l:Int,(1≤l∧l≤4)∧τ=[.st,.fz (.int l),.un]) ?_ (fun N hN=>⟨tk (by decide),fun r r0 r1=>hN _ ⟨1+r,by omega,rfl⟩⟩)
 rintro _ ⟨l,hl2,rfl⟩
 refine xR (fun τ=>τ=[.st,.fz (.int l),.ow ([(-1,0,0),(1,-2*l,0),(1,2*l,2*l)].map trR)]) ?_ (fun N hN=>⟨yl (by omega) (by omega),yl (by omega) (by omega),yl (by omega) (by omega),hN _ rfl⟩)
 rintro _ rfl
 have L0:=c5 (k:=l) hl2.1 (by omega)
 refine xR (fun τ=>∃rows,LF0 rows∧τ=[.st,.fz (.int l),.ow (rows.map trR)]) ?_ (fun N hN=>?_)
 ·rintro _ ⟨rows,h,rfl⟩
  exact k rows h
 refine⟨tk (by decide),fun r r0 r2=>?_⟩
 refine xY (b:=decide (r=1)) (fun _=>?_) (fun _=>hN _ ⟨_,L0,rfl⟩)
 refine⟨tk (by decide),fun a a0 a3=>⟨tk (by decide),fun b b0 b2=>⟨tk (by decide),fun c c0 c4=>⟨sqz (by show(3:Nat)≤1000000;decide),hN _ ⟨[(-1,0,0),(1,-2*l,0),(1,2*l,2*l)]++[(a,1+b,1+c)],L0.grow (by simp) (by simp) (fun r hr=>xea _ hr) (fun r hr=>(xd_.mp hr).imp id fun z=>?_),rfl⟩⟩⟩⟩⟩
 rw[xel.mp z]
 unfold Extra
 simp only
 omega
theorem gk (B:Blt mg bn)(F:Fun K "_law_field" "_law_field" u7 f fd)(m:mg "_law_field" = some (.ref f))(b:Binds K fd ["_law_state_here"] [])(qJ:Own P w K mg base 2 "_law_box" ["_law_state_here"] (spT 0 true false cE))(xB:Own P w K mg base 1 "_law_take" ["_law_state_here", "_law_many"] (spT 1 true false n5))(uQ:Own P w K mg base 2 "_law_spike" ["_law_state_here"] (spT 0 true false cE)) :
  Own P w K mg base 3 "_law_field" ["_law_state_here"] (spT 0 true false mx):=by
 refine jq F yb m b rfl (fun _ _ _ _ _ _ hr=>⟨_,_,
  (xf (yW 1 yb.nd (xq qJ hr (yT (pv 0))))
  (xf (zg (xW (vF hr.units) (xq xB hr (x9 (pv 0) xc)) xc (xV _)) (xi (yW 1 yb.nd (xq uQ hr (yT (pv 0))))) x_)
  (xf (yW 2 yb.nd (xq xB hr (x9 (pv 0) xc)))
  (xf (v8 (i:=3) (j:=4) rfl yb.nd rfl rfl (by decide) rfl rfl (x9 (xu zE (xq xB hr (x9 (pv 0) xc)) xc) (xu zE (xq xB hr (x9 (pv 0) xc)) xc)) (by rfl))
  (xf (yW 5 yb.nd (zY wo))
  (xf (wd PassesOwn.never rfl (zq K (pv 1)) (zc K (n:=3) rfl (xy (y9 6 yb.nd) (xy (y9 7 yb.nd) (xy (y9 8 yb.nd) yX)))) (xf (zg (xW (vF hr.units) (xu gB (pv 2) xc) xc (xV _)) (xi (v8 (i:=6) (j:=7) rfl yb.nd rfl rfl (by decide) rfl rfl (x9 (pv 7) (pv 6)) (by rfl))) x_)
  (xf (v8 (i:=6) (j:=7) rfl yb.nd rfl rfl (by decide) rfl rfl (x9 (xu xJ (pv 6) (uE (wF K) (zY (x9 xc (zU yK xc))) (xu gB (xu ua (pv 2) xc) xc) (fun _ _=>rfl))) (xu xJ (pv 7) (uE (wF K) (zY (x9 xc (zU yK xc))) (xu ua (pv 2) xc) (fun _ _=>rfl)))) (by rfl))
  (xi (y8 (kI PySem.F.plainAttrs_list PySem.F.slot_list_append PySem.F.type_list_append yZ (pv 5) (yT (yj (xS (pv 6) (x9 (pv 7) (xu ze (xu ze (pv 8) (xu xJ (pv 6) (pv 3))) (xu xJ (pv 7) (pv 4)))))))))))))
  (xi (xD (nk (sC K) rfl (B.get "tuple") vo (yT (pv 5))))))))))),
  (xk (yg (yt (b:=true) zJ))
  (xk (yw (xK (xh os_eq (yt (xN xo)) xo)) (yg (yt (b:=true) zJ)) xQ)
  (xk (yg (yt (xN xo)))
  (xk (uV (xG (xh zN (yt (xN xo)) xo) (xh zN (yt (xN xo)) xo)))
  (xk (wB (uO zJ))
  (xk (zb (yJ xa) (zd (xr xl (xr xl (xr xl yq)))).g (xk (yw (xK (xh os_eq (xh aJ xa xo) xo)) (uV (xG xa xa)) xQ)
  (xk (uV (xG (xh xU xa (rJ (dQ (b:=true) (xG xo (yL xo))) (xh aJ (xh v_ xa xo) xo))) (xh xU xa (rJ (dQ (b:=true) (xG xo (yL xo))) (xh v_ xa xo)))))
  (wM (yn (b:=true) (xT xa (xG xa (xh wk (xh wk xa (xh xU xa xa)) (xh xU xa xa)))))))))
  (xE oM))))))),fun ts KK hl h=>?_⟩)
 obtain⟨rfl,k⟩:=h
 refine xR (fun τ=>∃rows,LF0 rows∧τ=[.st,.fz (.lst (rows.map trR)),.un,.un,.un,.un,.un,.un,.un]) ?_ (fun N hN=>⟨rfl,fun rows h=>hN _ ⟨rows,h,rfl⟩⟩)
 rintro _ ⟨rows,h0,rfl⟩
 refine xR (fun τ=>∃rows,LF0 rows∧τ=[.st,.fz (.lst (rows.map trR)),.un,.un,.un,.un,.un,.un,.un]) ?_ (fun N hN=>⟨tk (by decide),fun r r0 r1=>xY (b:=decide (r=0)) (fun _=>⟨rfl,fun rows h=>hN _ ⟨rows,h,rfl⟩⟩) (fun _=>hN _ ⟨rows,h0,rfl⟩)⟩)
 clear h0
 rintro _ ⟨rows,h0,rfl⟩
 refine xR (fun τ=>∃w:Int,(0≤w∧w<8)∧τ=[.st,.fz (.lst (rows.map trR)),.fz (.int w),.un,.un,.un,.un,.un,.un]) ?_ (fun N hN=>⟨tk (by decide),fun w w0 w8=>hN _ ⟨w,⟨w0,w8⟩,rfl⟩⟩)
 rintro _ ⟨w,hw,rfl⟩
 refine xR (fun τ=>∃u v:Int,((-2≤u∧u≤2)∧(-2≤v∧v≤2))∧τ=[.st,.fz (.lst (rows.map trR)),.fz (.int w),.fz (.int u),.fz (.int v),.un,.un,.un,.un]) ?_ (fun N hN=>⟨tk (by decide),fun a a0 a1=>⟨tk (by decide),fun b b0 b1=>hN _ ⟨a-2,b-2,by omega,rfl⟩⟩⟩)
 rintro _ ⟨u,v,huv,rfl⟩
 refine xR (fun τ=>τ=[.st,.fz (.lst (rows.map trR)),.fz (.int w),.fz (.int u),.fz (.int v),.ow [],.un,.un,.un]) ?_ (fun N hN=>hN _ rfl)
 rintro _ rfl
 have w8:w=0∨w=1∨w=2∨w=3∨w=4∨w=5∨w=6∨w=7:=by omega
 obtain⟨s,hs,es⟩:∃s:Int,(s=1∨s = -1)∧atT [Tr.int 1,Tr.int (-1)] ((w.fdiv 2).fmod 2)=some (.int s):=by
  rcases w8 with rfl | rfl | rfl | rfl | rfl | rfl | rfl | rfl<;>first | exact⟨1,.inl rfl,rfl⟩ | exact⟨-1,.inr rfl,rfl⟩
 obtain⟨t,ht,et⟩:∃s:Int,(s=1∨s = -1)∧atT [Tr.int 1,Tr.int (-1)] (w.fdiv 4)=some (.int s):=by
  rcases w8 with rfl | rfl | rfl | rfl | rfl | rfl | rfl | rfl<;>first | exact⟨1,.inl rfl,rfl⟩ | exact⟨-1,.inr rfl,rfl⟩
 have LFx:=(h0.turned (decide (w.fmod 2=1)) hs ht).moved (u:=u) (v:=v) (by omega) (by omega)
 rw[xd8] at LFx
 refine xR (fun τ=>∃x6 x7 x8:TV,τ=[.st,.fz (.lst (rows.map trR)),.fz (.int w),.fz (.int u),.fz (.int v),.ow ((rows.map (kJ u v ∘ kC (decide (w.fmod 2=1)) s t)).map trR),x6,x7,x8]) ?_ (fun N hN=>?_)
 ·rintro _ ⟨x6,x7,x8,rfl⟩
  exact k _ LFx
 refine ur (rows.map trR) (fun i τ=>∃x6 x7 x8:TV,τ=[.st,.fz (.lst (rows.map trR)),.fz (.int w),.fz (.int u),.fz (.int v),.ow (((rows.take i).map (kJ u v ∘ kC (decide (w.fmod 2=1)) s t)).map trR),x6,x7,x8]) (fun KK h=>h) ⟨_,_,_,rfl⟩ ?_ (fun τ ⟨x6,x7,x8,e⟩=>hN _ ⟨x6,x7,x8,by rw[e,xdZ,xew (xeA _)]⟩)
 rintro i it τ N2 hx ⟨x6,x7,x8,rfl⟩ hN2
 obtain⟨r,hr,rfl⟩:=u_ hx
 have sm:=h0.sm r (xei hr)
 have l8:=h0.l8
 refine⟨rfl,?_⟩
 dsimp only[bP,cp,eName,xa7]
 show pH _ _ _ ([.st,.fz (.lst (rows.map trR)),.fz (.int w),.fz (.int u),.fz (.int v),.ow (((rows.take i).map (kJ u v ∘ kC (decide (w.fmod 2=1)) s t)).map trR),.fz (.int r.1),.fz (.int r.2.1),.fz (.int r.2.2)]:TSt)
 refine xR (fun τ=>∃a b:Int,(a=(if decide (w.fmod 2=1)=true then r.2.1 else r.1)∧b=(if decide (w.fmod 2=1)=true then r.1 else r.2.1))∧τ=[.st,.fz (.lst (rows.map trR)),.fz (.int w),.fz (.int u),.fz (.int v),.ow (((rows.take i).map (kJ u v ∘ kC (decide (w.fmod 2=1)) s t)).map trR),.fz (.int a),.fz (.int b),.fz (.int r.2.2)]) ?_ (fun N3 hN3=>⟨(show(2:Int)≠0 by decide),xY (b:=decide (w.fmod 2=1)) (fun c=>hN3 _ ⟨r.2.1,r.1,by rw[c];exact⟨rfl,rfl⟩,rfl⟩) (fun c=>hN3 _ ⟨r.1,r.2.1,by rw[c];exact⟨rfl,rfl⟩,rfl⟩)⟩)
 rintro _ ⟨a,b',⟨ea,eb⟩,rfl⟩
 have ab:(-14≤a∧a≤14)∧(-14≤b'∧b'≤14):=by
  rw[ea,eb]
  split<;>omega
 have s1:-1≤s∧s≤1:=by omega
 have t1:-1≤t∧t≤1:=by omega
 have as:=j5 ab.1.1 ab.1.2 s1.1 s1.2 (by decide) (by decide)
 have bt:=j5 ab.2.1 ab.2.2 t1.1 t1.2 (by decide) (by decide)
 have tr:kJ u v (kC (decide (w.fmod 2=1)) s t r)=(a*s,b'*t,r.2.2+a*s*u+b'*t*v):=by
  unfold kJ kC
  rw[ea,eb]
  split<;>rfl
 refine xR (fun τ=>τ=[.st,.fz (.lst (rows.map trR)),.fz (.int w),.fz (.int u),.fz (.int v),.ow (((rows.take i).map (kJ u v ∘ kC (decide (w.fmod 2=1)) s t)).map trR),.fz (.int (a*s)),.fz (.int (b'*t)),.fz (.int r.2.2)]) ?_ (fun N3 hN3=>?_)
 rotate_left
 ·refine⟨⟨(show(2:Int)≠0 by decide),kN (by decide)⟩,(show(2:Int)≠0 by decide),?_⟩
  show tN (atT [Tr.int 1,Tr.int (-1)] ((w.fdiv 2).fmod 2)) _
  rw[es]
  refine⟨yl (by omega) (by omega),⟨(show(4:Int)≠0 by decide),kN (by decide)⟩,?_⟩
  show tN (atT [Tr.int 1,Tr.int (-1)] (w.fdiv 4)) _
  rw[et]
  exact⟨yl (by omega) (by omega),hN3 _ rfl⟩
 rintro _ rfl
 refine⟨yl (by omega) (by omega),yl (by omega) (by omega),by simp only[xdZ,xd4];exact sqz (by omega),hN2 _ ⟨.fz (.int (a*s)),.fz (.int (b'*t)),.fz (.int r.2.2),?_⟩⟩
 rw[xex,hr]
 simp only[xd6,Option.toList,xd7,xd9,Function.comp,tr]
 rfl
end
end K31
namespace K31
open PySem L2 Trn
section
variable {P:Program} {w:World} {K:PySem.W.Frag} {mg:Str→Option Value} {base:Heap} {f:Addr} {fd:FuncData}
theorem xaa (B:Blt mg bn)(F:Fun K "law" "law" jS f fd)(u0:Own P w K mg base 3 "_law_field" ["_law_state_here"] (spT 0 true false mx))(za:Own P w K mg base 1 "_law_whole_places" ["_law_rows"] (spT 1 false false tS))(vN:Own P w K mg base 6 "_law_ring" ["_law_places"] (spT 1 false false nG))(uF:Own P w K mg base 2 "_law_state" ["_law_script", "_law_k"] (sO K))(wR:Own P w K mg base 10 "whole_places" ["field"] (spT 1 false true fj))(nH:Own P w K mg base 10 "hull" ["field"] (spT 1 false true lW))(zz:Own P w K mg base 6 "_law_same" ["_law_found", "_law_due"] (spT 2 false false c_)) :
  g_ P w K mg base CX0 11 f fd ["_law_script"] (rW K):=by
 refine bX F je rfl (fun _ _ _ _ _ _ hr=>⟨_,_,
  (xf (wd PassesOwn.never rfl (jI rfl (B.get "range") (yT (xx (mf rfl) rfl (B.get "max") xa2 (x9 xc (xx (bA rfl) rfl (B.get "min") xai (x9 (xx (yx K) rfl (B.get "len") wY (yT (pv 0))) xc)))))) (y9 1 je.nd) (xf (yW 2 je.nd (xq u0 hr (yT (xq uF hr (x9 (pv 0) (pv 1))))))
  (xf (yW 3 je.nd (xq za hr (yT (pv 2))))
  (xf (yW 4 je.nd (xq vN hr (yT (pv 3))))
  (xi (wd PassesOwn.never rfl (jI rfl (B.get "range") (yT xc)) (y9 5 je.nd) (xf (v8 (i:=6) (j:=7) rfl je.nd rfl rfl (by decide) rfl rfl (x9 (xq wR hr (yT (pv 2))) (xq nH hr (yT (pv 2)))) (by rfl))
  (xf (zg (PW.pt (dj (va (wa (xq zz hr (x9 (pv 6) (pv 3))))) (jw (va (wa (xq zz hr (x9 (pv 7) (pv 4)))))))) (xi (xD qh)) x_)
  (xf (y8 (kI PySem.F.plainAttrs_list PySem.F.slot_list_append PySem.F.type_list_append yZ (pv 6) (yT xc)))
  (xi (y8 (kI PySem.F.plainAttrs_list PySem.F.slot_list_append PySem.F.type_list_append yZ (pv 7) (yT xc)))))))))))))
  (xi (xD qh))),
  (xk (zb (qK (xN (yp lb (xG xo (yp lx (xG cO xo)))))) xl.g (xk (yg (oG xa))
  (xk (yg (xF (xN xa)))
  (xk (yg (xF (xN xa)))
  (zb (qK (xN xo)) xl.g (xk (cI (sA (xN xa)) (sA (xN xa)))
  (xk (yw (kg (we (zr (xF (xG vU (OkE.weak xa))))) (we (zr (xF (xG vU (OkE.weak xa)))))) (xE kD) xQ)
  (xk (wM xo)
  (wM xo)))))))))
  (xE kD)),fun ns hl=>?_⟩)
 refine xR (fun τ=>True) (fun τ _=>rfl) (fun N hN=>?_)
 refine ur _ (fun i τ=>∃(x1 x2 x3 x4 x5 x6 x7:TV),(x6≠.st∧x7≠.st)∧τ=[.sc ns,x1,x2,x3,x4,x5,x6,x7]) (fun KK h=>fun _=>⟨⟨by split<;>split<;>omega,by split<;>split<;>omega⟩,h⟩) ⟨.un,.un,.un,.un,.un,.un,.un,⟨(fun z=>nomatch z),(fun z=>nomatch z)⟩,rfl⟩ ?_ (fun τ _=>hN _ trivial)
 rintro i x τ N2 hx ⟨x1,x2,x3,x4,x5,x6,x7,hst,rfl⟩ hN2
 have hi:=(xdQ.mp hx).1
 rw[zm] at hi
 rw[qs hi] at hx
 cases hx
 dsimp only[bP,cp,eName,xa7]
 have hk:(0:Int)≤(0:Int)+i:=by omega
 generalize (0:Int)+i=kk at hk
 show pH _ _ _ ([.sc ns,.fz (.int kk),x2,x3,x4,x5,x6,x7]:TSt)
 refine xR (fun τ=>∃rows,LF rows∧τ=[.sc ns,.fz (.int kk),.fz (.tup (rows.map trR)),x3,x4,x5,x6,x7]) ?_ (fun N hN=>⟨hk,rfl,fun rows hF=>hN _ ⟨rows,hF,rfl⟩⟩)
 rintro _ ⟨rows,hF,rfl⟩
 have hf:=hF.isf
 have wl:=gQ rows
 have hl2:=dE (wK rows)
 refine xR (fun τ=>τ=[.sc ns,.fz (.int kk),.fz (.tup (rows.map trR)),.fz (.lst ((wK rows).map wpT)),x4,x5,x6,x7]) ?_ (fun N hN=>⟨rows,rfl,hf,hN _ rfl⟩)
 rintro _ rfl
 refine xR (fun τ=>τ=[.sc ns,.fz (.int kk),.fz (.tup (rows.map trR)),.fz (.lst ((wK rows).map wpT)),.fz (.lst ((uD (wK rows)).map wpT)),x5,x6,x7]) ?_ (fun N hN=>⟨wK rows,rfl,fun p hp=>(mi hp).mono (by decide),se rows,by omega,hN _ rfl⟩)
 rintro _ rfl
 refine ur _ (fun i τ=>∃(y5 y6 y7:TV),(y6≠.st∧y7≠.st)∧τ=[.sc ns,.fz (.int kk),.fz (.tup (rows.map trR)),.fz (.lst ((wK rows).map wpT)),.fz (.lst ((uD (wK rows)).map wpT)),y5,y6,y7]) (fun KK h=>⟨⟨by decide,by decide⟩,h⟩) ⟨_,_,_,hst,rfl⟩ ?_ (fun τ ⟨y5,y6,y7,hst,e⟩=>hN2 _ ⟨_,_,_,_,_,_,_,hst,e⟩)
 rintro j y τ N3 hy ⟨y5,y6,y7,hst,rfl⟩ hN3
 dsimp only[bP,cp,eName,xa7]
 show pH _ _ _ ([.sc ns,.fz (.int kk),.fz (.tup (rows.map trR)),.fz (.lst ((wK rows).map wpT)),.fz (.lst ((uD (wK rows)).map wpT)),.fz y,y6,y7]:TSt)
 refine xR (fun τ=>τ=[.sc ns,.fz (.int kk),.fz (.tup (rows.map trR)),.fz (.lst ((wK rows).map wpT)),.fz (.lst ((uD (wK rows)).map wpT)),.fz y,.ow ((wK rows).map wpT),.ow ((uD (wK rows)).map wpT)]) ?_ (fun N hN=>⟨hst,rows,rfl,hf,rows,rfl,hf,hN _ rfl⟩)
 rintro _ rfl
 refine xR (fun τ=>τ=[.sc ns,.fz (.int kk),.fz (.tup (rows.map trR)),.fz (.lst ((wK rows).map wpT)),.fz (.lst ((uD (wK rows)).map wpT)),.fz y,.ow ((wK rows).map wpT),.ow ((uD (wK rows)).map wpT)]) ?_ (fun N hN=>⟨_,rfl,pU (by omega),_,rfl,pU (by omega),hN _ rfl⟩)
 rintro _ rfl
 exact⟨by rw[xdZ];exact sqz (by omega),by rw[xdZ];exact sqz (by omega),hN3 _ ⟨.fz y,.ow ((wK rows).map wpT++[Tr.int 0]),.ow ((uD (wK rows)).map wpT++[Tr.int 0]),⟨(fun z=>nomatch z),(fun z=>nomatch z)⟩,rfl⟩⟩
end
end K31
namespace K31
open PySem L2 Trn
theorem all_mk {l:PySem.W.OpenLaw}{w:World}{K:PySem.W.Frag}{h:Heap}{mg:Str→Option Value}{fa:Addr}{fn:Addr}{od an:Option Addr}{sl:Array (Option Value)}{oc kV dc pm cd ct:Value}{tc1:Tok}(X:K.In h)(G:h.Ns mainGlobals mg)(hfa:mg "law" = some (.ref fa))
  (d1:DD K "is_whole" qB) (d2:DD K "greatest_divisor" zi) (d3:DD K "beyond" gI) (d4:DD K "is_ahead" qF) (d5:DD K "turn_to" jl) (d6:DD K "is_near" qy) (d7:DD K "whole_place" uj) (d8:DD K "is_left_turn" wC) (d9:DD K "_law_take" vX) (d10:DD K "_law_cell_at" wL) (d11:DD K "_law_whole_places" yB) (d12:DD K "_law_less" vO) (d13:DD K "_law_divisor" wV) (d14:DD K "are_whole" uf) (d15:DD K "lowest" gc) (d16:DD K "where_crossed" zk) (d17:DD K "from_least" vg) (d18:DD K "furthest" qR) (d19:DD K "points_back" um) (d20:DD K "half_hull" vP) (d21:DD K "_law_box" qM) (d22:DD K "_law_spike" uY) (d23:DD K "_law_state" uG) (d24:DD K "_law_ahead" uT) (d25:DD K "_law_low" qL) (d26:DD K "places_of" uz) (d27:DD K "cut_piece" vL) (d28:DD K "is_row" gA) (d29:DD K "go_round" qQ) (d30:DD K "_law_field" u7) (d31:DD K "_law_times" u6) (d32:DD K "_law_minus" uS) (d33:DD K "cut_down" qN) (d34:DD K "is_field_row" wU) (d35:DD K "_law_bend" vZ) (d36:DD K "piece_left" vh) (d37:DD K "_law_chain" uJ) (d38:DD K "corners_left" wJ) (d39:DD K "_law_ring" uu) (d40:DD K "_law_same" wc) (d41:DD K "is_field" w9) (d42:DD K "need_field" u5) (d43:DD K "whole_points" y3) (d44:DD K "whole_places" zD) (d45:DD K "hull" rA)
  (aN:PySem.W.nsIn K mainGlobals "law" = some (some (.ref fn))) (ln:K.lookup fn=some ⟨oc,od,.func (PySem.W.fnOf "law" "law" (zF jS) (yS jS) (xg jS) .none kV dc pm an cd ct),sl⟩) (cn:PySem.W.codeIn K cd "law" = true) (kn:PySem.W.keepIn K (.ref fn)=true)
  (z1:PySem.W.nsIn K mainGlobals "len" = some none)
  (z2:PySem.W.nsIn K mainGlobals "range" = some none)
  (z3:PySem.W.nsIn K mainGlobals "max" = some none)
  (z4:PySem.W.nsIn K mainGlobals "min" = some none)
  (z5:PySem.W.nsIn K mainGlobals "abs" = some none)
  (z6:PySem.W.nsIn K mainGlobals "isinstance" = some none)
  (z7:PySem.W.nsIn K mainGlobals "tuple" = some none)
  (z8:PySem.W.nsIn K mainGlobals "list" = some none)
  (z9:PySem.W.nsIn K mainGlobals "int" = some none)
  (z10:PySem.W.nsIn K mainGlobals "bool" = some none)
  (z11:PySem.W.nsIn K mainGlobals "str" = some none)
  (z12:PySem.W.nsIn K mainGlobals "dict" = some none)
  (z13:PySem.W.nsIn K mainGlobals "all" = some none)
  (z14:PySem.W.nsIn K mainGlobals "zip" = some none)
  (z15:PySem.W.nsIn K mainGlobals "enumerate" = some none)
  (z16:PySem.W.nsIn K mainGlobals "ValueError" = some none)
  (y1:PySem.W.nsIn K mainGlobals "FAR" = some (some (.int 60001 tc1))) :
  ∃fd:FuncData,(∀(s:Shared) (v:Value),BindsTo s fd ⟨[v],[]⟩ [("_law_script", v)])∧∀base:Heap,K.In base→base.Ns mainGlobals mg→g_ l.prog w K mg base CX0 11 fa fd ["_law_script"] (rW K):=by
 have e:=hfa.symm.trans (PySem.W.mg_of X G aN)
 cases e
 obtain⟨f1,e1,a1,F1⟩:=d1
 obtain⟨f2,e2,a2,F2⟩:=d2
 obtain⟨f3,e3,a3,F3⟩:=d3
 obtain⟨f4,e4,a4,F4⟩:=d4
 obtain⟨f5,e5,a5,F5⟩:=d5
 obtain⟨f6,e6,a6,F6⟩:=d6
 obtain⟨f7,e7,a7,F7⟩:=d7
 obtain⟨f8,e8,a8,F8⟩:=d8
 obtain⟨f9,e9,a9,F9⟩:=d9
 obtain⟨f10,e10,a10,F10⟩:=d10
 obtain⟨f11,e11,a11,F11⟩:=d11
 obtain⟨f12,e12,a12,F12⟩:=d12
 obtain⟨f13,e13,a13,F13⟩:=d13
 obtain⟨f14,e14,a14,F14⟩:=d14
 obtain⟨f15,e15,a15,F15⟩:=d15
 obtain⟨f16,e16,a16,F16⟩:=d16
 obtain⟨f17,e17,a17,F17⟩:=d17
 obtain⟨f18,e18,a18,F18⟩:=d18
 obtain⟨f19,e19,a19,F19⟩:=d19
 obtain⟨f20,e20,a20,F20⟩:=d20
 obtain⟨f21,e21,a21,F21⟩:=d21
 obtain⟨f22,e22,a22,F22⟩:=d22
 obtain⟨f23,e23,a23,F23⟩:=d23
 obtain⟨f24,e24,a24,F24⟩:=d24
 obtain⟨f25,e25,a25,F25⟩:=d25
 obtain⟨f26,e26,a26,F26⟩:=d26
 obtain⟨f27,e27,a27,F27⟩:=d27
 obtain⟨f28,e28,a28,F28⟩:=d28
 obtain⟨f29,e29,a29,F29⟩:=d29
 obtain⟨f30,e30,a30,F30⟩:=d30
 obtain⟨f31,e31,a31,F31⟩:=d31
 obtain⟨f32,e32,a32,F32⟩:=d32
 obtain⟨f33,e33,a33,F33⟩:=d33
 obtain⟨f34,e34,a34,F34⟩:=d34
 obtain⟨f35,e35,a35,F35⟩:=d35
 obtain⟨f36,e36,a36,F36⟩:=d36
 obtain⟨f37,e37,a37,F37⟩:=d37
 obtain⟨f38,e38,a38,F38⟩:=d38
 obtain⟨f39,e39,a39,F39⟩:=d39
 obtain⟨f40,e40,a40,F40⟩:=d40
 obtain⟨f41,e41,a41,F41⟩:=d41
 obtain⟨f42,e42,a42,F42⟩:=d42
 obtain⟨f43,e43,a43,F43⟩:=d43
 obtain⟨f44,e44,a44,F44⟩:=d44
 obtain⟨f45,e45,a45,F45⟩:=d45
 have F46:=p_ (st:=jS) ln cn kn
 have b1:=yR (p1 := "thing") F1 fun _ _ _ _ _ _ _=>rfl
 have b2:=zt (p1 := "one") (p2 := "other") F2 fun _ _ _ _ _ _ _ _=>rfl
 have b3:=zt (p1 := "row") (p2 := "corner") F3 fun _ _ _ _ _ _ _ _=>rfl
 have b4:=zt (p1 := "one") (p2 := "other") F4 fun _ _ _ _ _ _ _ _=>rfl
 have b5:=zt (p1 := "one") (p2 := "other") F5 fun _ _ _ _ _ _ _ _=>rfl
 have b6:=yR (p1 := "place") F6 fun _ _ _ _ _ _ _=>rfl
 have b7:=yR (p1 := "point") F7 fun _ _ _ _ _ _ _=>rfl
 have b8:=rh (p1 := "one") (p2 := "other") (p3 := "third") F8 fun _ _ _ _ _ _ _ _ _=>rfl
 have b9:=zt (p1 := "_law_state_here") (p2 := "_law_many") F9 fun _ _ _ _ _ _ _ _=>rfl
 have b10:=zt (p1 := "_law_script") (p2 := "_law_k") F10 fun _ _ _ _ _ _ _ _=>rfl
 have b11:=yR (p1 := "_law_rows") F11 fun _ _ _ _ _ _ _=>rfl
 have b12:=zt (p1 := "_law_one") (p2 := "_law_other") F12 fun _ _ _ _ _ _ _ _=>rfl
 have b13:=zt (p1 := "_law_one") (p2 := "_law_other") F13 fun _ _ _ _ _ _ _ _=>rfl
 have b14:=yR (p1 := "things") F14 fun _ _ _ _ _ _ _=>rfl
 have b15:=zt (p1 := "top") (p2 := "bottom") F15 fun _ _ _ _ _ _ _ _=>rfl
 have b16:=rh (p1 := "row") (p2 := "one") (p3 := "other") F16 fun _ _ _ _ _ _ _ _ _=>rfl
 have b17:=yR (p1 := "piece") F17 fun _ _ _ _ _ _ _=>rfl
 have b18:=rh (p1 := "first") (p2 := "rows") (p3 := "sign") F18 fun _ _ _ _ _ _ _ _ _=>rfl
 have b19:=zt (p1 := "first") (p2 := "rows") F19 fun _ _ _ _ _ _ _ _=>rfl
 have b20:=yR (p1 := "points") F20 fun _ _ _ _ _ _ _=>rfl
 have b21:=yR (p1 := "_law_state_here") F21 fun _ _ _ _ _ _ _=>rfl
 have b22:=yR (p1 := "_law_state_here") F22 fun _ _ _ _ _ _ _=>rfl
 have b23:=zt (p1 := "_law_script") (p2 := "_law_k") F23 fun _ _ _ _ _ _ _ _=>rfl
 have b24:=zt (p1 := "_law_one") (p2 := "_law_other") F24 fun _ _ _ _ _ _ _ _=>rfl
 have b25:=zt (p1 := "_law_top") (p2 := "_law_bottom") F25 fun _ _ _ _ _ _ _ _=>rfl
 have b26:=yR (p1 := "piece") F26 fun _ _ _ _ _ _ _=>rfl
 have b27:=zt (p1 := "piece") (p2 := "row") F27 fun _ _ _ _ _ _ _ _=>rfl
 have b28:=yR (p1 := "thing") F28 fun _ _ _ _ _ _ _=>rfl
 have b29:=yR (p1 := "rows") F29 fun _ _ _ _ _ _ _=>rfl
 have b30:=yR (p1 := "_law_state_here") F30 fun _ _ _ _ _ _ _=>rfl
 have b31:=zt (p1 := "_law_one") (p2 := "_law_other") F31 fun _ _ _ _ _ _ _ _=>rfl
 have b32:=zt (p1 := "_law_one") (p2 := "_law_other") F32 fun _ _ _ _ _ _ _ _=>rfl
 have b33:=zt (p1 := "piece") (p2 := "rows") F33 fun _ _ _ _ _ _ _ _=>rfl
 have b34:=yR (p1 := "thing") F34 fun _ _ _ _ _ _ _=>rfl
 have b35:=rh (p1 := "_law_one") (p2 := "_law_other") (p3 := "_law_third") F35 fun _ _ _ _ _ _ _ _ _=>rfl
 have b36:=yR (p1 := "rows") F36 fun _ _ _ _ _ _ _=>rfl
 have b37:=yR (p1 := "_law_places") F37 fun _ _ _ _ _ _ _=>rfl
 have b38:=yR (p1 := "rows") F38 fun _ _ _ _ _ _ _=>rfl
 have b39:=yR (p1 := "_law_places") F39 fun _ _ _ _ _ _ _=>rfl
 have b40:=zt (p1 := "_law_found") (p2 := "_law_due") F40 fun _ _ _ _ _ _ _ _=>rfl
 have b41:=yR (p1 := "thing") F41 fun _ _ _ _ _ _ _=>rfl
 have b42:=yR (p1 := "thing") F42 fun _ _ _ _ _ _ _=>rfl
 have b43:=yR (p1 := "field") F43 fun _ _ _ _ _ _ _=>rfl
 have b44:=yR (p1 := "field") F44 fun _ _ _ _ _ _ _=>rfl
 have b45:=yR (p1 := "field") F45 fun _ _ _ _ _ _ _=>rfl
 have B:Blt mg bn:=⟨fun x hx=>by
  simp only[bn,xec,xep,xeV] at hx
  rcases hx with rfl | rfl | rfl | rfl | rfl | rfl | rfl | rfl | rfl | rfl | rfl | rfl | rfl | rfl | rfl | rfl
  ·exact PySem.W.mg_none_of X G z1
  ·exact PySem.W.mg_none_of X G z2
  ·exact PySem.W.mg_none_of X G z3
  ·exact PySem.W.mg_none_of X G z4
  ·exact PySem.W.mg_none_of X G z5
  ·exact PySem.W.mg_none_of X G z6
  ·exact PySem.W.mg_none_of X G z7
  ·exact PySem.W.mg_none_of X G z8
  ·exact PySem.W.mg_none_of X G z9
  ·exact PySem.W.mg_none_of X G z10
  ·exact PySem.W.mg_none_of X G z11
  ·exact PySem.W.mg_none_of X G z12
  ·exact PySem.W.mg_none_of X G z13
  ·exact PySem.W.mg_none_of X G z14
  ·exact PySem.W.mg_none_of X G z15
  ·exact PySem.W.mg_none_of X G z16⟩
 have jM:=PySem.W.mg_of X G y1
 refine⟨PySem.W.fnOf "law" "law" (zF jS) (yS jS) (xg jS) .none kV dc pm an cd ct,fun s v=>.of_eq rfl,fun base XB _=>?_⟩
 have qC:=sX (P:=l.prog) (w:=w) (base:=base) B F1 (PySem.W.mg_of X G a1) b1
 have ya:=v5 (P:=l.prog) (w:=w) (base:=base) B F2 (PySem.W.mg_of X G a2) b2
 have zS:=mU (P:=l.prog) (w:=w) (base:=base) B F3 (PySem.W.mg_of X G a3) b3
 have qW:=aa (P:=l.prog) (w:=w) (base:=base) B F4 (PySem.W.mg_of X G a4) b4
 have yY:=tF (P:=l.prog) (w:=w) (base:=base) B F5 (PySem.W.mg_of X G a5) b5
 have jz:=tz (P:=l.prog) (w:=w) (base:=base) B F6 (PySem.W.mg_of X G a6) b6
 have yV:=jO (P:=l.prog) (w:=w) (base:=base) B F7 (PySem.W.mg_of X G a7) b7
 have wG:=k8 (P:=l.prog) (w:=w) (base:=base) B F8 (PySem.W.mg_of X G a8) b8
 have xB:=nJ (fG (P:=l.prog) (w:=w) (base:=base) F9 (PySem.W.mg_of X G a9) b9)
 have wD:=kW (P:=l.prog) (w:=w) (base:=base) B F10 (PySem.W.mg_of X G a10) b10
 have za:=vA (P:=l.prog) (w:=w) (base:=base) B F11 (PySem.W.mg_of X G a11) b11
 have uA:=fm (P:=l.prog) (w:=w) (base:=base) B F12 (PySem.W.mg_of X G a12) b12
 have wN:=js (P:=l.prog) (w:=w) (base:=base) B F13 (PySem.W.mg_of X G a13) b13
 have vV:=fC (P:=l.prog) (w:=w) (base:=base) B F14 (PySem.W.mg_of X G a14) b14 qC
 have kO:=bj (P:=l.prog) (w:=w) (base:=base) B F15 (PySem.W.mg_of X G a15) b15 ya
 have wj:=kF (P:=l.prog) (w:=w) (base:=base) B F16 (PySem.W.mg_of X G a16) b16 ya zS
 have vf:=gy (P:=l.prog) (w:=w) (base:=base) B F17 (PySem.W.mg_of X G a17) b17 qW
 have vz:=ak (P:=l.prog) (w:=w) (base:=base) B F18 (PySem.W.mg_of X G a18) b18 yY
 have ub:=jT (P:=l.prog) (w:=w) (base:=base) B F19 (PySem.W.mg_of X G a19) b19 yY
 have ug:=dw (P:=l.prog) (w:=w) (base:=base) B F20 (PySem.W.mg_of X G a20) b20 wG
 have qJ:=ah (P:=l.prog) (w:=w) (base:=base) B F21 (PySem.W.mg_of X G a21) b21 xB
 have uQ:=gG (P:=l.prog) (w:=w) (base:=base) B F22 (PySem.W.mg_of X G a22) b22 xB
 have uF:=gT (P:=l.prog) (w:=w) (base:=base) F23 (PySem.W.mg_of X G a23) b23 wD
 have uU:=gD (P:=l.prog) (w:=w) (base:=base) B F24 (PySem.W.mg_of X G a24) b24 uA
 have zW:=sI (P:=l.prog) (w:=w) (base:=base) B F25 (PySem.W.mg_of X G a25) b25 wN
 have vK:=fE (P:=l.prog) (w:=w) (base:=base) B F26 (PySem.W.mg_of X G a26) b26 kO vf
 have v7:=dz (P:=l.prog) (w:=w) (base:=base) B F27 (PySem.W.mg_of X G a27) b27 wj zS
 have gL:=mF (P:=l.prog) (w:=w) (base:=base) B F28 (PySem.W.mg_of X G a28) b28 vV
 have qI:=sT (P:=l.prog) (w:=w) (base:=base) B F29 (PySem.W.mg_of X G a29) b29 vz ub yY
 have u0:=gk (P:=l.prog) (w:=w) (base:=base) B F30 (PySem.W.mg_of X G a30) b30 qJ xB uQ
 have wq:=gE (P:=l.prog) (w:=w) (base:=base) B F31 (PySem.W.mg_of X G a31) b31 zW
 have yP:=gm (P:=l.prog) (w:=w) (base:=base) B F32 (PySem.W.mg_of X G a32) b32 zW
 have qE:=d_ (P:=l.prog) (w:=w) (base:=base) B F33 (PySem.W.mg_of X G a33) b33 v7
 have wQ:=jA (P:=l.prog) (w:=w) (base:=base) B F34 (PySem.W.mg_of X G a34) b34 gL
 have vM:=dy (P:=l.prog) (w:=w) (base:=base) B F35 (PySem.W.mg_of X G a35) b35 wq yP
 have uZ:=gZ (P:=l.prog) (w:=w) (base:=base) B F36 (PySem.W.mg_of X G a36) b36 jM qE
 have wy:=h8 (P:=l.prog) (w:=w) (base:=base) B F37 (PySem.W.mg_of X G a37) b37 vM
 have wW:=jg (P:=l.prog) (w:=w) (base:=base) B F38 (PySem.W.mg_of X G a38) b38 vK uZ
 have vN:=dR (P:=l.prog) (w:=w) (base:=base) B F39 (PySem.W.mg_of X G a39) b39 wy uU
 have zz:=fF (P:=l.prog) (w:=w) (base:=base) B F40 (PySem.W.mg_of X G a40) b40
 have qT:=sH (P:=l.prog) (w:=w) (base:=base) B F41 (PySem.W.mg_of X G a41) b41 qI jz wW wQ
 have u4:=gw (P:=l.prog) (w:=w) (base:=base) B F42 (PySem.W.mg_of X G a42) b42 qT
 have yH:=ji (P:=l.prog) (w:=w) (base:=base) B F43 (PySem.W.mg_of X G a43) b43 u4
 have wR:=k_ (P:=l.prog) (w:=w) (base:=base) B F44 (PySem.W.mg_of X G a44) b44 yV yH
 have nH:=oX (P:=l.prog) (w:=w) (base:=base) B F45 (PySem.W.mg_of X G a45) b45 yH yV ug
 exact xaa B F46 u0 za vN uF wR nH zz
theorem walk {l:PySem.W.OpenLaw}{q:Program}{loose:List Str}{XP:(Str→Option Value)→Heap→Prop}{YP:World→Heap→Prop}{d:DefRec}{K:Params→PySem.W.Frag}(hn:l.most=some 63)(hdf:d.params.defaults=[])
  (hY:∀(w:World) (h:Heap),YP w h→(K w.params).In h) (hT:∀P,xbX (K P)=none)
  (F:∀(w:World) (mg:Str→Option Value) (fa:Addr) (h:Heap),(K w.params).In h→h.Ns mainGlobals mg→mg d.name=some (.ref fa) →
   ∃fd:FuncData,(∀(s:Shared) (u:Value),BindsTo s fd ⟨[u],[]⟩ [("_law_script", u)])∧∀base:Heap,(K w.params).In base→base.Ns mainGlobals mg→g_ l.prog w (K w.params) mg base CX0 11 fa fd ["_law_script"] (rW (K w.params))) :
  PySem.W.WalkO q loose XP YP l.row.toRowW d [] (fun f vs=>PySem.call f vs) :=
 L2.lp (n:=63) (k:=11) (x := "_law_script") (CX:=fun _=>CX0) (sp:=fun w=>rW (K w.params)) hn (by decide) hdf ⟨rfl,by decide,by decide⟩ hY F (fun _ _ a ns hl hO hS=>⟨a,ns,rfl,⟨fun b=>.inl (hO b),oa.none (hT _)⟩,hS,hl,fun _=>rfl⟩) fun _ _ _ _ _ z=>z
end K31
namespace K31
open PySem L2 Trn
def ke (k:Str)(t:Nat)(v:Value):Str×Nat×Value:=(k,t,v)
def kd (P:Params)(n:Nat)(l:List (Str×Nat×Value)):Obj:=⟨.type "dict", none,.dict ⟨l.map fun e=>⟨PyData.keyHash P e.1,.str e.1 e.2.1,e.2.2⟩⟩ n,#[]⟩
def kf (x:Str)(st:Stmt)(cd:Nat)(m:Str)(t:Nat):Obj:=⟨.type "function", none,.func (PySem.W.fnOf x x (zF st) (yS st) (xg st) .none .none .none (.str m t) none (.ref cd) .none),#[]⟩
def kp (x:Str)(st:Stmt):Obj:=⟨.none,none,.func { name:=x,qualname:=x,params:=zF st,body:=.stmts (yS st),scope:=xg st,globals:=0,closure:=[],defaults:=.none,kwdefaults:=.none },#[]⟩
def kc (x:Str)(a l n m c d:Nat)(u v:Value)(e t f:Nat):Obj:=⟨.type "code", none,.fields ⟨[.str x a,.str x (a+1),.str "/claim/cut.py" (a+2),.int l 0,.int n 0,.int 0 0,.int 0 0,.int m 0,.ref c,.bool true,.int 181 0,.ref d,.none,u,v,.ref e,.int t 0,.int l 0,.str "/claim/cut.py" f]⟩,#[]⟩
def k0:Obj:=⟨.none,none,.fields ⟨[]⟩,#[]⟩
def k1 (l:List Value):Obj:=⟨.type "tuple", none,.seq ⟨l⟩ 0,#[]⟩
def tp (p:Program)(i:Nat):Stmt:=p.main.body.getD i (.Pass ⟨0,0,0,0⟩)
def tq:List (Int×Nat):=[(2,20),(4,33),(7,45),(9,50),(11,57),(16,64),(21,71),(23,78),(25,85),(29,90),(31,97),(42,104),(46,109),(51,116),(57,123),(60,130),(64,137),(66,144),(75,151),(81,158),(87,163),(93,170),(98,175),(100,182),(104,187),(106,194),(109,199),(113,204),(118,211),(125,218),(128,225),(137,232),(149,239),(155,246),(168,253),(172,260),(177,265),(184,272),(186,279),(190,286),(194,293),(199,300),(201,307),(203,314),(206,321),(213,326),(221,331),(229,338)]
def tl (n:Nat):Obj:=⟨.none,none,.fields ⟨(tq.take n).flatMap fun x=>[.int x.1 0,.int 0 0,.ref x.2]⟩,#[]⟩
def kx (n:Str)(b a s m p q:Nat):Obj:=⟨.type "type", none,.cls { name:=n,bases:=[.ref b],mro:=[.ref a,.ref b,.type "ValueError", .type "Exception", .type "BaseException", .type "object"],ns:=s,qualname:=n,hasDict:=true,slotNames:=[],subclasses:=[],abstract:=false,hasDel:=false },⟨[some (.ref m),none,some (.str n p),some (.str n q),some (.builtin "ValueError.__new__"),some (.bool true)]⟩⟩
def ky (x:Str)(a b c:Nat)(l:Int)(d e:Nat)(i j:Int)(k:Nat):Obj:=⟨.type "code", none,.fields ⟨[.str x a,.str x b,.str "/claim/cut.py" c,.int l 0,.int 0 0,.int 0 0,.int 0 0,.int 0 0,.ref d,.bool false,.int 181 0,.ref e,.none,.none,.none,.none,.int i 0,.int j 0,.str "/claim/cut.py" k]⟩,#[]⟩
def kz (a b c:Nat)(x:Str)(d e:Nat):Obj:=⟨.type "frame", none,.plain,⟨[some (.ref a),some (.ref b),some (.ref c),none,some (.str x d),none,some (.ref e)]⟩⟩
def kv (x:String)(v:Value):Obj:=⟨.type "builtin_function_or_method", none,.fields ⟨[.builtin x,v]⟩,#[]⟩
def kq (a:Nat)(x:Str)(b c:Nat)(y:Str)(d e:Nat)(i:Int)(f g h:Nat):List (Str×Nat×Value):=ke "__module__" a (.str x b)::ke "__qualname__" c (.str y d)::ke "__firstlineno__" e (.int i f)::ke "__static_attributes__" g (.ref h)::[]
def kr (a:Nat)(x:Str)(b e:Nat)(i:Int)(f g h d:Nat):List (Str×Nat×Value):=ke "__module__" a (.str x b)::ke "__firstlineno__" e (.int i f)::ke "__static_attributes__" g (.ref h)::ke "__doc__" d .none::[]
def lw:Str := "law_roundcuts_k31_whole_places_and_hulls"
def lw0:Str := "roundcuts.behind"
def lw1:Str := "roundcuts.errors"
def lw2:Str := "roundcuts.fields"
def lw3:Str := "roundcuts.fractions"
def lw4:Str := "roundcuts.pieces"
def lw5:Str := "roundcuts.rows"
def mn:List (Str×Nat×Value):=ke "__name__" 165 (.str lw 464)::ke "__doc__" 166 .none::ke "__package__" 167 .none::ke "__loader__" 168 (.builtin "__main__.__loader__#opaque")::ke "__spec__" 169 .none::ke "__annotations__" 170 (.ref 6)::ke "__builtins__" 171 (.ref 4)::ke "__file__" 173 (.str "/claim/cut.py" 172)::ke "__cached__" 174 .none::ke "CutError" 206 (.ref 24)::ke "NoField" 222 (.ref 37)::ke "is_whole" 231 (.ref 46)::ke "are_whole" 237 (.ref 51)::ke "greatest_divisor" 245 (.ref 58)::ke "lowest" 254 (.ref 65)::ke "FAR" 258 (.int 60001 257)::ke "corners_left" 265 (.ref 72)::ke "piece_left" 272 (.ref 79)::ke "cut_down" 281 (.ref 86)::ke "places_of" 287 (.ref 91)::ke "cut_piece" 300 (.ref 98)::ke "beyond" 314 (.ref 105)::ke "where_crossed" 320 (.ref 110)::ke "from_least" 330 (.ref 117)::ke "is_ahead" 338 (.ref 124)::ke "is_row" 347 (.ref 131)::ke "turn_to" 355 (.ref 138)::ke "go_round" 365 (.ref 145)::ke "furthest" 376 (.ref 152)::ke "points_back" 385 (.ref 159)::ke "is_field" 393 (.ref 164)::ke "is_field_row" 403 (.ref 171)::ke "is_near" 409 (.ref 176)::ke "need_field" 416 (.ref 183)::ke "whole_places" 424 (.ref 188)::ke "whole_place" 433 (.ref 195)::ke "whole_points" 439 (.ref 200)::ke "hull" 445 (.ref 205)::ke "half_hull" 454 (.ref 212)::ke "is_left_turn" 463 (.ref 219)::ke "_law_take" 475 (.ref 226)::ke "_law_box" 489 (.ref 233)::ke "_law_spike" 498 (.ref 240)::ke "_law_field" 513 (.ref 247)::ke "_law_cell_at" 521 (.ref 254)::ke "_law_state" 530 (.ref 261)::ke "_law_whole_places" 536 (.ref 266)::ke "_law_less" 544 (.ref 273)::ke "_law_ahead" 552 (.ref 280)::ke "_law_divisor" 560 (.ref 287)::ke "_law_low" 569 (.ref 294)::ke "_law_times" 577 (.ref 301)::ke "_law_minus" 585 (.ref 308)::ke "_law_bend" 595 (.ref 315)::ke "_law_chain" 604 (.ref 322)::ke "_law_ring" 610 (.ref 327)::ke "_law_same" 616 (.ref 332)::ke "law" 630 (.ref 339)::[]
def ob (p:Program)(P:Params):List Obj:=k1 [] ::
 tl 48 ::
 ky "<module>" 182 183 184 1 11 12 185 1 186 ::
 kz 13 3 3 "__main__" 164 0 ::
 k1 [(.type "ValueError")] ::
 kv "type.__prepare__" (.type "type") ::
 kd P 4 (kq 196 lw1 187 198 "CutError" 197 200 2 199 201 22) ::
 k1 [] ::
 k0 ::
 ky "CutError" 191 192 193 2 18 19 194 2 195 ::
 kz 20 3 17 lw1 187 0 ::
 k1 [] ::
 kd P 3 (ke "__module__" 196 (.str lw1 187)::ke "__firstlineno__" 200 (.int 2 199)::ke "__static_attributes__" 201 (.ref 22)::ke "__weakref__" 203 (.ref 25)::ke "__doc__" 204 .none::[]) ::
 ⟨(.type "type"),none,.cls { name := "CutError", bases:=[(.type "ValueError")],mro:=[(.ref 24),(.type "ValueError"),(.type "Exception"),(.type "BaseException"),(.type "object")],ns:=23,qualname := "CutError", hasDict:=true,slotNames:=[],subclasses:=[(.ref 37)],abstract:=false,hasDel:=false },⟨[some (.ref 15),none,some (.str "CutError" 189),some (.str "CutError" 197),some (.builtin "ValueError.__new__"),some (.bool true)]⟩⟩ ::
 ⟨(.type "getset_descriptor"),none,.fields ⟨[(.str "__weakref__" 202),(.ref 24),(.builtin "ExceptionGroup.__weakref__"),.none]⟩,#[]⟩ ::
 ⟨(.type "super"),none,.fields ⟨[(.ref 24),(.ref 24),(.ref 24)]⟩,#[]⟩ ::
 kv "object.__init_subclass__" (.ref 24) ::
 k1 [(.ref 24)] ::
 kv "type.__prepare__" (.type "type") ::
 kd P 4 (kq 214 lw1 187 216 "NoField" 215 218 4 217 219 35) ::
 k1 [] ::
 k0 ::
 ky "NoField" 209 210 211 4 31 32 212 4 213 ::
 kz 33 3 30 lw1 187 0 ::
 k1 [] ::
 kd P 2 (kr 214 lw1 187 218 4 217 219 35 220) ::
 kx "NoField" 24 37 36 28 207 215 ::
 ⟨(.type "super"),none,.fields ⟨[(.ref 37),(.ref 37),(.ref 37)]⟩,#[]⟩ ::
 kv "object.__init_subclass__" (.ref 37) ::
 k1 [] ::
 k0 ::
 k1 [(.str "thing" 228)] ::
 k1 [] ::
 kp "is_whole" (tp p 4) ::
 kc "is_whole" 225 7 1 3 40 41 (.ref 42) (.ref 43) 44 229 230 ::
 kf "is_whole" (tp p 4) 45 lw3 223 ::
 k1 [] ::
 k0 ::
 kp "are_whole" (tp p 5) ::
 kc "are_whole" 232 9 1 3 47 48 .none .none 49 235 236 ::
 kf "are_whole" (tp p 5) 50 lw3 223 ::
 k1 [] ::
 k0 ::
 k1 [(.str "one" 241),(.str "other" 242)] ::
 k1 [] ::
 kp "greatest_divisor" (tp p 6) ::
 kc "greatest_divisor" 238 11 2 3 52 53 (.ref 54) (.ref 55) 56 243 244 ::
 kf "greatest_divisor" (tp p 6) 57 lw3 223 ::
 k1 [] ::
 k0 ::
 k1 [(.str "top" 249),(.str "bottom" 250),(.str "shared" 251)] ::
 k1 [] ::
 kp "lowest" (tp p 7) ::
 kc "lowest" 246 16 2 3 59 60 (.ref 61) (.ref 62) 63 252 253 ::
 kf "lowest" (tp p 7) 64 lw3 223 ::
 k1 [] ::
 k0 ::
 k1 [(.str "rows" 262)] ::
 k1 [] ::
 kp "corners_left" (tp p 10) ::
 kc "corners_left" 259 21 1 3 66 67 (.ref 68) (.ref 69) 70 263 264 ::
 kf "corners_left" (tp p 10) 71 lw4 255 ::
 k1 [] ::
 k0 ::
 k1 [(.str "rows" 269)] ::
 k1 [] ::
 kp "piece_left" (tp p 11) ::
 kc "piece_left" 266 23 1 3 73 74 (.ref 75) (.ref 76) 77 270 271 ::
 kf "piece_left" (tp p 11) 78 lw4 255 ::
 k1 [] ::
 k0 ::
 k1 [(.str "piece" 276),(.str "rows" 277),(.str "row" 278)] ::
 k1 [] ::
 kp "cut_down" (tp p 12) ::
 kc "cut_down" 273 25 2 3 80 81 (.ref 82) (.ref 83) 84 279 280 ::
 kf "cut_down" (tp p 12) 85 lw4 255 ::
 k1 [] ::
 k0 ::
 kp "places_of" (tp p 13) ::
 kc "places_of" 282 29 1 3 87 88 .none .none 89 285 286 ::
 kf "places_of" (tp p 13) 90 lw4 255 ::
 k1 [] ::
 k0 ::
 k1 [(.str "piece" 291),(.str "row" 292),(.str "left" 293),(.str "at" 294),(.str "corner" 295),(.str "before" 296),(.str "crossing" 297)] ::
 k1 [] ::
 kp "cut_piece" (tp p 14) ::
 kc "cut_piece" 288 31 2 3 92 93 (.ref 94) (.ref 95) 96 298 299 ::
 kf "cut_piece" (tp p 14) 97 lw4 255 ::
 k1 [] ::
 k0 ::
 k1 [(.str "row" 304),(.str "corner" 305),(.str "a" 306),(.str "b" 307),(.str "c" 308),(.str "x" 309),(.str "y" 310),(.str "bottom" 311)] ::
 k1 [] ::
 kp "beyond" (tp p 15) ::
 kc "beyond" 301 42 2 3 99 100 (.ref 101) (.ref 102) 103 312 313 ::
 kf "beyond" (tp p 15) 104 lw4 255 ::
 k1 [] ::
 k0 ::
 kp "where_crossed" (tp p 16) ::
 kc "where_crossed" 315 46 3 3 106 107 .none .none 108 318 319 ::
 kf "where_crossed" (tp p 16) 109 lw4 255 ::
 k1 [] ::
 k0 ::
 k1 [(.str "piece" 324),(.str "start" 325),(.str "at" 326),(.str "corner" 327)] ::
 k1 [] ::
 kp "from_least" (tp p 17) ::
 kc "from_least" 321 51 1 3 111 112 (.ref 113) (.ref 114) 115 328 329 ::
 kf "from_least" (tp p 17) 116 lw4 255 ::
 k1 [] ::
 k0 ::
 k1 [(.str "one" 334),(.str "other" 335)] ::
 k1 [] ::
 kp "is_ahead" (tp p 18) ::
 kc "is_ahead" 331 57 2 3 118 119 (.ref 120) (.ref 121) 122 336 337 ::
 kf "is_ahead" (tp p 18) 123 lw4 255 ::
 k1 [] ::
 k0 ::
 k1 [(.str "thing" 344)] ::
 k1 [] ::
 kp "is_row" (tp p 20) ::
 kc "is_row" 341 60 1 3 125 126 (.ref 127) (.ref 128) 129 345 346 ::
 kf "is_row" (tp p 20) 130 lw5 339 ::
 k1 [] ::
 k0 ::
 k1 [(.str "one" 351),(.str "other" 352)] ::
 k1 [] ::
 kp "turn_to" (tp p 21) ::
 kc "turn_to" 348 64 2 3 132 133 (.ref 134) (.ref 135) 136 353 354 ::
 kf "turn_to" (tp p 21) 137 lw5 339 ::
 k1 [] ::
 k0 ::
 k1 [(.str "rows" 359),(.str "first" 360),(.str "left" 361),(.str "right" 362)] ::
 k1 [] ::
 kp "go_round" (tp p 22) ::
 kc "go_round" 356 66 1 3 139 140 (.ref 141) (.ref 142) 143 363 364 ::
 kf "go_round" (tp p 22) 144 lw5 339 ::
 k1 [] ::
 k0 ::
 k1 [(.str "first" 369),(.str "rows" 370),(.str "sign" 371),(.str "last" 372),(.str "row" 373)] ::
 k1 [] ::
 kp "furthest" (tp p 23) ::
 kc "furthest" 366 75 3 3 146 147 (.ref 148) (.ref 149) 150 374 375 ::
 kf "furthest" (tp p 23) 151 lw5 339 ::
 k1 [] ::
 k0 ::
 k1 [(.str "first" 380),(.str "rows" 381),(.str "row" 382)] ::
 k1 [] ::
 kp "points_back" (tp p 24) ::
 kc "points_back" 377 81 2 3 153 154 (.ref 155) (.ref 156) 157 383 384 ::
 kf "points_back" (tp p 24) 158 lw5 339 ::
 k1 [] ::
 k0 ::
 kp "is_field" (tp p 26) ::
 kc "is_field" 388 87 1 3 160 161 .none .none 162 391 392 ::
 kf "is_field" (tp p 26) 163 lw2 386 ::
 k1 [] ::
 k0 ::
 k1 [(.str "thing" 397),(.str "a" 398),(.str "b" 399),(.str "c" 400)] ::
 k1 [] ::
 kp "is_field_row" (tp p 27) ::
 kc "is_field_row" 394 93 1 3 165 166 (.ref 167) (.ref 168) 169 401 402 ::
 kf "is_field_row" (tp p 27) 170 lw2 386 ::
 k1 [] ::
 k0 ::
 kp "is_near" (tp p 28) ::
 kc "is_near" 404 98 1 3 172 173 .none .none 174 407 408 ::
 kf "is_near" (tp p 28) 175 lw2 386 ::
 k1 [] ::
 k0 ::
 k1 [(.str "thing" 413)] ::
 k1 [] ::
 kp "need_field" (tp p 29) ::
 kc "need_field" 410 100 1 3 177 178 (.ref 179) (.ref 180) 181 414 415 ::
 kf "need_field" (tp p 29) 182 lw2 386 ::
 k1 [] ::
 k0 ::
 kp "whole_places" (tp p 31) ::
 kc "whole_places" 419 104 1 3 184 185 .none .none 186 422 423 ::
 kf "whole_places" (tp p 31) 187 lw0 417 ::
 k1 [] ::
 k0 ::
 k1 [(.str "point" 428),(.str "x" 429),(.str "y" 430)] ::
 k1 [] ::
 kp "whole_place" (tp p 32) ::
 kc "whole_place" 425 106 1 3 189 190 (.ref 191) (.ref 192) 193 431 432 ::
 kf "whole_place" (tp p 32) 194 lw0 417 ::
 k1 [] ::
 k0 ::
 kp "whole_points" (tp p 33) ::
 kc "whole_points" 434 109 1 3 196 197 .none .none 198 437 438 ::
 kf "whole_points" (tp p 33) 199 lw0 417 ::
 k1 [] ::
 k0 ::
 kp "hull" (tp p 34) ::
 kc "hull" 440 113 1 3 201 202 .none .none 203 443 444 ::
 kf "hull" (tp p 34) 204 lw0 417 ::
 k1 [] ::
 k0 ::
 k1 [(.str "points" 449),(.str "bend" 450),(.str "point" 451)] ::
 k1 [] ::
 kp "half_hull" (tp p 35) ::
 kc "half_hull" 446 118 1 3 206 207 (.ref 208) (.ref 209) 210 452 453 ::
 kf "half_hull" (tp p 35) 211 lw0 417 ::
 k1 [] ::
 k0 ::
 k1 [(.str "one" 458),(.str "other" 459),(.str "third" 460)] ::
 k1 [] ::
 kp "is_left_turn" (tp p 36) ::
 kc "is_left_turn" 455 125 3 3 213 214 (.ref 215) (.ref 216) 217 461 462 ::
 kf "is_left_turn" (tp p 36) 218 lw0 417 ::
 k1 [] ::
 k0 ::
 k1 [(.str "_law_state_here" 469),(.str "_law_many" 470),(.str "_law_found" 471),(.str "_law_stirred" 472)] ::
 k1 [] ::
 kp "_law_take" (tp p 38) ::
 kc "_law_take" 466 128 2 3 220 221 (.ref 222) (.ref 223) 224 473 474 ::
 kf "_law_take" (tp p 38) 225 lw 464 ::
 k1 [] ::
 k0 ::
 k1 [(.str "_law_state_here" 479),(.str "_law_rows" 480),(.str "_law_a" 481),(.str "_law_b" 482),(.str "_law_many" 483),(.str "_law_turn" 484),(.str "_law_x" 485),(.str "_law_y" 486)] ::
 k1 [] ::
 kp "_law_box" (tp p 39) ::
 kc "_law_box" 476 137 1 3 227 228 (.ref 229) (.ref 230) 231 487 488 ::
 kf "_law_box" (tp p 39) 232 lw 464 ::
 k1 [] ::
 k0 ::
 k1 [(.str "_law_state_here" 493),(.str "_law_long" 494),(.str "_law_rows" 495)] ::
 k1 [] ::
 kp "_law_spike" (tp p 40) ::
 kc "_law_spike" 490 149 1 3 234 235 (.ref 236) (.ref 237) 238 496 497 ::
 kf "_law_spike" (tp p 40) 239 lw 464 ::
 k1 [] ::
 k0 ::
 k1 [(.str "_law_state_here" 502),(.str "_law_rows" 503),(.str "_law_way" 504),(.str "_law_u" 505),(.str "_law_v" 506),(.str "_law_found" 507),(.str "_law_a" 508),(.str "_law_b" 509),(.str "_law_c" 510)] ::
 k1 [] ::
 kp "_law_field" (tp p 41) ::
 kc "_law_field" 499 155 1 3 241 242 (.ref 243) (.ref 244) 245 511 512 ::
 kf "_law_field" (tp p 41) 246 lw 464 ::
 k1 [] ::
 k0 ::
 k1 [(.str "_law_script" 517),(.str "_law_k" 518)] ::
 k1 [] ::
 kp "_law_cell_at" (tp p 42) ::
 kc "_law_cell_at" 514 168 2 3 248 249 (.ref 250) (.ref 251) 252 519 520 ::
 kf "_law_cell_at" (tp p 42) 253 lw 464 ::
 k1 [] ::
 k0 ::
 k1 [(.str "_law_script" 525),(.str "_law_k" 526),(.str "_law_cell" 527)] ::
 k1 [] ::
 kp "_law_state" (tp p 43) ::
 kc "_law_state" 522 172 2 3 255 256 (.ref 257) (.ref 258) 259 528 529 ::
 kf "_law_state" (tp p 43) 260 lw 464 ::
 k1 [] ::
 k0 ::
 kp "_law_whole_places" (tp p 44) ::
 kc "_law_whole_places" 531 177 1 3 262 263 .none .none 264 534 535 ::
 kf "_law_whole_places" (tp p 44) 265 lw 464 ::
 k1 [] ::
 k0 ::
 k1 [(.str "_law_one" 540),(.str "_law_other" 541)] ::
 k1 [] ::
 kp "_law_less" (tp p 45) ::
 kc "_law_less" 537 184 2 3 267 268 (.ref 269) (.ref 270) 271 542 543 ::
 kf "_law_less" (tp p 45) 272 lw 464 ::
 k1 [] ::
 k0 ::
 k1 [(.str "_law_one" 548),(.str "_law_other" 549)] ::
 k1 [] ::
 kp "_law_ahead" (tp p 46) ::
 kc "_law_ahead" 545 186 2 3 274 275 (.ref 276) (.ref 277) 278 550 551 ::
 kf "_law_ahead" (tp p 46) 279 lw 464 ::
 k1 [] ::
 k0 ::
 k1 [(.str "_law_one" 556),(.str "_law_other" 557)] ::
 k1 [] ::
 kp "_law_divisor" (tp p 47) ::
 kc "_law_divisor" 553 190 2 3 281 282 (.ref 283) (.ref 284) 285 558 559 ::
 kf "_law_divisor" (tp p 47) 286 lw 464 ::
 k1 [] ::
 k0 ::
 k1 [(.str "_law_top" 564),(.str "_law_bottom" 565),(.str "_law_by" 566)] ::
 k1 [] ::
 kp "_law_low" (tp p 48) ::
 kc "_law_low" 561 194 2 3 288 289 (.ref 290) (.ref 291) 292 567 568 ::
 kf "_law_low" (tp p 48) 293 lw 464 ::
 k1 [] ::
 k0 ::
 k1 [(.str "_law_one" 573),(.str "_law_other" 574)] ::
 k1 [] ::
 kp "_law_times" (tp p 49) ::
 kc "_law_times" 570 199 2 3 295 296 (.ref 297) (.ref 298) 299 575 576 ::
 kf "_law_times" (tp p 49) 300 lw 464 ::
 k1 [] ::
 k0 ::
 k1 [(.str "_law_one" 581),(.str "_law_other" 582)] ::
 k1 [] ::
 kp "_law_minus" (tp p 50) ::
 kc "_law_minus" 578 201 2 3 302 303 (.ref 304) (.ref 305) 306 583 584 ::
 kf "_law_minus" (tp p 50) 307 lw 464 ::
 k1 [] ::
 k0 ::
 k1 [(.str "_law_one" 589),(.str "_law_other" 590),(.str "_law_third" 591),(.str "_law_ahead_here" 592)] ::
 k1 [] ::
 kp "_law_bend" (tp p 51) ::
 kc "_law_bend" 586 203 3 3 309 310 (.ref 311) (.ref 312) 313 593 594 ::
 kf "_law_bend" (tp p 51) 314 lw 464 ::
 k1 [] ::
 k0 ::
 k1 [(.str "_law_places" 599),(.str "_law_found" 600),(.str "_law_place" 601)] ::
 k1 [] ::
 kp "_law_chain" (tp p 52) ::
 kc "_law_chain" 596 206 1 3 316 317 (.ref 318) (.ref 319) 320 602 603 ::
 kf "_law_chain" (tp p 52) 321 lw 464 ::
 k1 [] ::
 k0 ::
 kp "_law_ring" (tp p 53) ::
 kc "_law_ring" 605 213 1 3 323 324 .none .none 325 608 609 ::
 kf "_law_ring" (tp p 53) 326 lw 464 ::
 k1 [] ::
 k0 ::
 kp "_law_same" (tp p 54) ::
 kc "_law_same" 611 221 2 3 328 329 .none .none 330 614 615 ::
 kf "_law_same" (tp p 54) 331 lw 464 ::
 k1 [] ::
 k0 ::
 k1 [(.str "_law_script" 620),(.str "_law_k" 621),(.str "_law_field_here" 622),(.str "_law_places" 623),(.str "_law_due" 624),(.str "_law_turn" 625),(.str "_law_found" 626),(.str "_law_around" 627)] ::
 k1 [] ::
 kp "law" (tp p 55) ::
 kc "law" 617 229 1 3 333 334 (.ref 335) (.ref 336) 337 628 629 ::
 kf "law" (tp p 55) 338 lw 464::[]
def hp (p:Program)(P:Params)(n:Nat)(m:List (Str×Nat×Value))(e:Nat)(c:List (Nat×Obj)):List Obj:=c.foldl (fun l x=>l.set x.1 x.2) ((PySem.W.boot_heap P).objs.toList.set 3 (kd P e m)++(ob p P).take n)
def sh (p:Program)(w:World)(os:OsState)(n:Nat)(m:List (Str×Nat×Value))(e:Nat)(c:List (Nat×Obj))(k:Nat):Shared:=⟨⟨⟨hp p w.params n m e c⟩,{}⟩,⟨[]⟩,{},k,os⟩
def hf (p:Program)(P:Params):Heap:=⟨⟨hp p P 329 mn 58 []⟩,{}⟩
abbrev as:List Addr:=[3,45,46,50,51,57,58,64,65,71,72,78,79,85,86,90,91,97,98,104,105,109,110,116,117,123,124,130,131,137,138,144,145,151,152,158,159,163,164,170,171,175,176,182,183,187,188,194,195,199,200,204,205,211,212,218,219,225,226,232,233,239,240,246,247,253,254,260,261,265,266,272,273,279,280,286,287,293,294,300,301,307,308,314,315,321,322,326,327,331,332,338,339]
def Kp (p:Program)(P:Params):PySem.W.Frag:=as.map fun a=>(a,(hp p P 329 mn 58 []).getD a k0)
abbrev pg:Program:=PySem.Challenge.pw_roundcuts_k31_whole_places_and_hulls
abbrev K (P:Params):PySem.W.Frag:=Kp pg P
theorem xbN (p:Program)(P:Params):as=(Kp p P).map (·.1):=by unfold Kp;rw[xd8];exact(List.map_id _).symm
abbrev Hk (p:Program):PySem.W.Hook:=PySem.W.kHook (Kp p) as (xbN p)
abbrev keep:List Nat:=[1,2,4,5,6,7,9,10,11,12,13,14,15,16,17,18,20,21,22,23,24,26,27,28,29,31,32,33,34,35,36,38,39,40,41,42,43,44,45,46,47,48,49,50,51,52,53,54,55]
abbrev vw:Program:=PySem.W.view pg keep
theorem dk {P:Params}{x:Str}{st:Stmt}{f cd t:Nat}{m:Str}(a:PySem.W.nsIn (K P) mainGlobals x=some (some (.ref f)))(l:(K P).lookup f=some (kf x st cd m t))(c:PySem.W.codeIn (K P) (.ref cd) x=true):DD (K P) x st :=
 dd a l c (by unfold PySem.W.keepIn;dsimp only;rw[l];rfl)
theorem dl {P:Params}{x:Str}{st:Stmt}(f cd:Nat)(m:Str)(t:Nat)(a:PySem.W.nsIn (K P) mainGlobals x=some (some (.ref f)):=by kernel_rfl)(l:(K P).lookup f=some (kf x st cd m t):=by kernel_rfl)(c:PySem.W.codeIn (K P) (.ref cd) x=true:=by kernel_rfl):DD (K P) x st:=dk a l c
end K31
set_option maxHeartbeats 0 in
lay_quick PySem.Challenge.pw_roundcuts_k31_whole_places_and_hulls
namespace K31
open PySem L2 Trn PySem.W
abbrev tb:=PySem.W.Fast.tw14364793385576792824
abbrev p':=PySem.W.Fast.tw279056013426922582
abbrev v':=view p' keep
abbrev im:=PySem.W.Fast.tw5923862056798008813 p'.main.body
abbrev ann:Option Value:=some (.ref 6)
abbrev q:Pos:=⟨0,0,0,0⟩
abbrev bd:=behindTheImports p'
abbrev env:Env:={ scope:=p'.main.scope,locals:=mainNs,globals:=mainNs,cells:=[],code:=(.ref 13),frame:=some 14 }
abbrev cb:Code:=.body bd env
theorem r0 (w:World)(os:OsState):topGo tb p' w 11 ann 12 ⟨boot_heap w.params,⟨[]⟩,boot_drawn,boot_toks,os⟩ (topStub p')=some ((sh p' w os 4 ((mn.take 9).set 0 (ke "__name__" 165 (.str "__main__" 164))) 9 [(12,k0)] 187),⟨denote tb cb,cb,⟨0,0,0,0⟩,[topFrame q]⟩):=by kernel_rfl
theorem r1 (w:World)(os:OsState):segRun tb p' w 11 ann 1 1 (sh p' w os 4 ((mn.take 9).set 0 (ke "__name__" 165 (.str "__main__" 164))) 9 [(12,k0)] 187) (blockOf bd env cb ⟨0,0,0,0⟩ [topFrame q])=some (.next,(sh p' w os 4 ((mn.take 9).set 0 (ke "__name__" 165 (.str "__main__" 164))) 9 [(12,k0)] 187),cb,⟨0,0,0,0⟩):=by kernel_rfl
theorem c0 (w:World)(os:OsState):segRun tb p' w 11 ann 1 681 (sh p' w os 4 ((mn.take 9).set 0 (ke "__name__" 165 (.str "__main__" 164))) 9 [(12,k0)] 187) (piecesOf ((bd.drop 0).take 14) env cb ⟨0,0,0,0⟩ [topFrame q])=some (.next,(sh p' w os 81 ((mn.take 20).set 0 (ke "__name__" 165 (.str lw4 255))) 20 [(12,tl 10)] 288),cb,⟨29,0,30,89⟩):=by kernel_rfl
theorem c1 (w:World)(os:OsState):segRun tb p' w 11 ann 1 692 (sh p' w os 81 ((mn.take 20).set 0 (ke "__name__" 165 (.str lw4 255))) 20 [(12,tl 10)] 288) (piecesOf ((bd.drop 14).take 25) env cb ⟨29,0,30,89⟩ [topFrame q])=some (.next,(sh p' w os 216 (mn.take 41) 41 [(12,tl 31)] 476),cb,⟨128,0,136,40⟩):=by kernel_rfl
theorem c2 (w:World)(os:OsState):segRun tb p' w 11 ann 1 541 (sh p' w os 216 (mn.take 41) 41 [(12,tl 31)] 476) (piecesOf ((bd.drop 39).take 17) env cb ⟨128,0,136,40⟩ [topFrame q])=some (.next,(sh p' w os 329 mn 58 [] 631),cb,⟨229,0,240,15⟩):=by kernel_rfl
theorem xbw:bd=(((bd.drop 0).take 14)++(((bd.drop 14).take 25)++(((bd.drop 39).take 17)++[]))):=by kernel_rfl
theorem cl (w:World)(os:OsState):topRun tb p' w 11 ann 2 (sh p' w os 329 mn 58 [] 631) ⟨doneF .next,cb,⟨229,0,240,15⟩,[topFrame q]⟩=some (sh p' w os 329 mn 58 [] 631):=by kernel_rfl
theorem run (w:World)(os:OsState):topRun tb p' w 11 ann (12+(1+(681+(692+(541+2))))) ⟨boot_heap w.params,⟨[]⟩,boot_drawn,boot_toks,os⟩ (topStub p')=some ⟨hf p' w.params,⟨[]⟩,{},631,os⟩ :=
 go_top (r0 w os) (piece_block (r1 w os) (xbw▸(piece_app (c0 w os) (piece_app (c1 w os) (piece_app (c2 w os) (piece_nil (cl w os)))))))
theorem z0 (w:World):((boot_heap w.params).isNs mainGlobals&&(⟨[]⟩:Array GenState).size == 0,(boot_heap w.params).objs.size,(boot_heap w.params).nsMap mainGlobals "__annotations__")=(true,11,ann):=by kernel_rfl
theorem z1 (w:World)(os:OsState):(staticsOk im (boot_heap w.params) (hf p' w.params)&&namesBound p' (hf p' w.params)&&gensDone ⟨hf p' w.params,⟨[]⟩,{},631,os⟩&&laidKept (boot_heap w.params) (hf p' w.params))=true:=by kernel_rfl
abbrev zx (w:World)(os:OsState):=PySem.W.Fast.tw4187177175401517315 v' [] im (fun s=>xlAt v' [] s&&recOk [] s) true ⟨hf p' w.params,⟨[]⟩,{},631,os⟩
theorem z20 (w os):(zx w os).1=PyProof.Rows.expectedOf v':=by kernel_rfl
theorem z21 (w os):(zx w os).2.1=bltViewBooted:=by kernel_rfl
theorem z22 (w os):(zx w os).2.2.1=true:=by kernel_rfl
theorem z23 (w os):(zx w os).2.2.2.1=true:=by kernel_rfl
theorem z24 (w os):(zx w os).2.2.2.2.1=pinGoodD (PyProof.Rows.drecsOf v'):=by kernel_rfl
theorem z25 (w os):(zx w os).2.2.2.2.2.1=PyProof.Rows.plainGoodE v' (looseW v' []):=by kernel_rfl
theorem z26 (w os):(zx w os).2.2.2.2.2.2.1=PyProof.Rows.plainGoodD v' []:=by kernel_rfl
theorem z27 (w os):(zx w os).2.2.2.2.2.2.2.1=wideGood v':=by kernel_rfl
theorem z28 (w os):(zx w os).2.2.2.2.2.2.2.2=clsGoodW v' []:=by kernel_rfl
theorem z2 (w os):zx w os=openGood v' []:=Prod.ext (z20 w os) (Prod.ext (z21 w os) (Prod.ext (z22 w os) (Prod.ext (z23 w os) (Prod.ext (z24 w os) (Prod.ext (z25 w os) (Prod.ext (z26 w os) (Prod.ext (z27 w os) (z28 w os))))))))
theorem z3 (w:World)(os:OsState):Hook.obs (Hk p') ⟨hf p' w.params,⟨[]⟩,{},631,os⟩=Hook.val (Hk p') w:=by kernel_rfl
theorem xbu:LeftO p' v' [] (fun s=>xlAt v' [] s&&recOk [] s) (Hook.obs (Hk p')) (Hook.val (Hk p')) 3836:=by
 have h1:=run;have h2:=z1;have h3:=z2;unfold zx at h3
 rw[show tb=treeTable from PySem.W.Fast.te14364793385576792824.symm] at h1
 rw[show im=importedModules p'.main.body from congrFun PySem.W.Fast.te5923862056798008813.symm _] at h2 h3
 rw[show PySem.W.Fast.tw4187177175401517315=openSeen from PySem.W.Fast.te4187177175401517315.symm] at h3
 exact LeftO.of_pieces (boot_open rfl rfl fun _=>rfl) z0 h1 (by decide) fun w=>funext fun os=>by
  rw[h2 w os,h3 w os,z3 w os]
theorem o8 (p:Program)(h:p=p'):LeftO p (view p keep) [] (fun s=>xlAt (view p keep) [] s&&recOk [] s) (Hook.obs (Hk p)) (Hook.val (Hk p)) 3836:=by
 subst h;exact xbu
theorem left:LeftO pg vw [] (fun s=>xlAt vw [] s&&recOk [] s) (Hook.obs (Hk pg)) (Hook.val (Hk pg)) 3836:=o8 pg PySem.W.Fast.te279056013426922582
end K31
namespace K31
open PySem L2 Trn
theorem there {l:PySem.W.OpenLaw}{w:World}{P:Params}{h:Heap}{mg:Str→Option Value}{fa:Addr}(X:(K P).In h)(G:h.Ns mainGlobals mg)(hfa:mg "law" = some (.ref fa)) :
  ∃fd:FuncData,(∀(s:Shared) (v:Value),BindsTo s fd ⟨[v],[]⟩ [("_law_script", v)])∧∀base:Heap,(K P).In base→base.Ns mainGlobals mg→g_ l.prog w (K P) mg base CX0 11 fa fd ["_law_script"] (rW (K P)) :=
 all_mk X G hfa (dl 46 45 lw3 223)
  (dl 58 57 lw3 223)
  (dl 105 104 lw4 255)
  (dl 124 123 lw4 255)
  (dl 138 137 lw5 339)
  (dl 176 175 lw2 386)
  (dl 195 194 lw0 417)
  (dl 219 218 lw0 417)
  (dl 226 225 lw 464)
  (dl 254 253 lw 464)
  (dl 266 265 lw 464)
  (dl 273 272 lw 464)
  (dl 287 286 lw 464)
  (dl 51 50 lw3 223)
  (dl 65 64 lw3 223)
  (dl 110 109 lw4 255)
  (dl 117 116 lw4 255)
  (dl 152 151 lw5 339)
  (dl 159 158 lw5 339)
  (dl 212 211 lw0 417)
  (dl 233 232 lw 464)
  (dl 240 239 lw 464)
  (dl 261 260 lw 464)
  (dl 280 279 lw 464)
  (dl 294 293 lw 464)
  (dl 91 90 lw4 255)
  (dl 98 97 lw4 255)
  (dl 131 130 lw5 339)
  (dl 145 144 lw5 339)
  (dl 247 246 lw 464)
  (dl 301 300 lw 464)
  (dl 308 307 lw 464)
  (dl 86 85 lw4 255)
  (dl 171 170 lw2 386)
  (dl 315 314 lw 464)
  (dl 79 78 lw4 255)
  (dl 322 321 lw 464)
  (dl 72 71 lw4 255)
  (dl 327 326 lw 464)
  (dl 332 331 lw 464)
  (dl 164 163 lw2 386)
  (dl 183 182 lw2 386)
  (dl 200 199 lw0 417)
  (dl 188 187 lw0 417)
  (dl 205 204 lw0 417)
  (by kernel_rfl:PySem.W.nsIn (K P) mainGlobals "law" = some (some (.ref 339))) (by kernel_rfl:(K P).lookup 339=some (kf "law" jS 338 lw 464)) (by kernel_rfl:PySem.W.codeIn (K P) (.ref 338) "law" = true) (by kernel_rfl) (by kernel_rfl) (by kernel_rfl) (by kernel_rfl) (by kernel_rfl) (by kernel_rfl) (by kernel_rfl) (by kernel_rfl) (by kernel_rfl) (by kernel_rfl) (by kernel_rfl) (by kernel_rfl) (by kernel_rfl) (by kernel_rfl) (by kernel_rfl) (by kernel_rfl) (by kernel_rfl) ((by kernel_rfl:PySem.W.nsIn (K P) mainGlobals "FAR" = some (some (.int 60001 257))))
end K31
end
open PySem PySem.W PyProof.Rows
set_option maxRecDepth 100000 in
set_option maxHeartbeats 0 in
theorem PySem.Challenge.cw_roundcuts_k31_whole_places_and_hulls_holds : PySem.Challenge.rw_roundcuts_k31_whole_places_and_hulls.Holds := by
 w_on;o_law
 refine holds_open (q:=K31.vw) (XP:=XL K31.vw []) (YP:=Hook.says (K31.Hk _)) K31.left (Hook.of _) (Hook.keeps _) (fun s e=>xl_of s (Bool.and_eq_true_iff.mp e).1)
  XL.keeps rfl rfl rfl (fun s e=>recFacts_of (Bool.and_eq_true_iff.mp e).2) rfl (by assumption) (by decide +kernel) ⟨rfl,rfl,rfl,rfl,rfl,by decide +kernel⟩ ?hw ?hc
 case hw=>w_witness2
 exact K31.walk (l:=PySem.Challenge.rw_roundcuts_k31_whole_places_and_hulls) rfl rfl (fun w h Y=>PySem.W.kIn_of Y) (fun P=>by kernel_rfl) (fun w mg fa h X G e=>K31.there X G e)
