import PyProof.Rows.All
import Wide.All
import OpenK.AllK
import Wide.FinOn
import Lean
import PyProof.EqAt
import PyProof.EqKinds
import PyProof.TupleCall
import PyProof.ZipIter
import PyProof.NeData
import PyProof.P3Eq
import PyProof.EnumFor
import PyProof.EnumMake
import PyProof.Draws
import PyProof.Cells
import KE.KTryMore
import KE.KIsAll
import PyProof.ExcAttrAll.ValueError
import KE.KLam
import PySem.Challenge.RW_roundcuts_k61_sides_and_fields_in_fields
set_option Elab.async false
set_option linter.all false
set_option maxRecDepth 100000
set_option maxHeartbeats 4000000
set_option exponentiation.threshold 3000
set_option bootstrap.genMatcherCode false
set_option genSizeOfSpec false
set_option genInjectivity false
abbrev xhW:=@Array.length_toList
abbrev xhX:=@Bool.and_eq_true
abbrev xhY:=@Bool.eq_iff_iff
abbrev xhZ:=@Bool.false_ne_true
abbrev xh0:=@Bool.or_eq_true
abbrev xh1:=@Classical.em
abbrev xh2:=@Int.add_zero
abbrev xh3:=@Int.dvd_coe_gcd
abbrev xh4:=@Int.dvd_natAbs
abbrev xh5:=@Int.emod_lt_of_pos
abbrev xh6:=@Int.emod_nonneg
abbrev xh7:=@Int.eq_of_mul_eq_mul_right
abbrev xh8:=@Int.gcd_mul_left
abbrev xh9:=@Int.gcd_pos_of_ne_zero_right
abbrev xh_:=@Int.le_of_lt
abbrev xia:=@Int.le_of_mul_le_mul_left
abbrev xib:=@Int.le_refl
abbrev xic:=@Int.lt_of_mul_lt_mul_right
abbrev xid:=@Int.lt_or_le
abbrev xie:=@Int.lt_trichotomy
abbrev xif:=@Int.mul_comm
abbrev xig:=@Int.mul_dvd_mul_left
abbrev xih:=@Int.mul_ediv_cancel'
abbrev xii:=@Int.mul_eq_zero
abbrev xij:=@Int.mul_le_mul_of_nonneg_left
abbrev xik:=@Int.mul_le_mul_of_nonneg_right
abbrev xil:=@Int.mul_lt_mul_of_pos_right
abbrev xim:=@Int.mul_neg_of_neg_of_pos
abbrev xin:=@Int.mul_neg_of_pos_of_neg
abbrev xio:=@Int.mul_pos
abbrev xip:=@Int.mul_zero
abbrev xiq:=@Int.natAbs_mul
abbrev xir:=@Int.toNat_natCast
abbrev xis:=@Int.toNat_of_nonneg
abbrev xit:=@Int.zero_mul
abbrev xiu:=@List.Sublist.refl
abbrev xiv:=@List.Sublist.trans
abbrev xiw:=@List.all_eq_true
abbrev xix:=@List.any_eq_true
abbrev xiy:=@List.append_assoc
abbrev xiz:=@List.append_nil
abbrev xiA:=@List.append_of_mem
abbrev xiB:=@List.concat_eq_append
abbrev xiC:=@List.cons_append
abbrev xiD:=@List.drop_eq_getElem_cons
abbrev xiE:=@List.drop_length
abbrev xiF:=@List.drop_zero
abbrev xiG:=@List.eq_nil_or_concat
abbrev xiH:=@List.filterMap_cons
abbrev xiI:=@List.filter_cons_of_pos
abbrev xiJ:=@List.flatMap_append
abbrev xiK:=@List.flatten_cons
abbrev xiL:=@List.foldl_append
abbrev xiM:=@List.foldl_cons
abbrev xiN:=@List.getD_eq_getElem?_getD
abbrev xiO:=@List.getElem?_append_left
abbrev xiP:=@List.getElem?_eq_getElem
abbrev xiQ:=@List.getElem?_eq_none
abbrev xiR:=@List.getElem?_eq_some_iff
abbrev xiS:=@List.getElem?_map
abbrev xiT:=@List.getElem?_set_ne
abbrev xiU:=@List.getElem?_set_self
abbrev xiV:=@List.getElem_mem
abbrev xiW:=@List.length_append
abbrev xiX:=@List.length_cons
abbrev xiY:=@List.length_drop
abbrev xiZ:=@List.length_eq_zero_iff
abbrev xi0:=@List.length_map
abbrev xi1:=@List.length_nil
abbrev xi2:=@List.length_replicate
abbrev xi3:=@List.length_reverse
abbrev xi4:=@List.length_set
abbrev xi5:=@List.length_singleton
abbrev xi6:=@List.length_take
abbrev xi7:=@List.lookup_cons
abbrev xi8:=@List.map_append
abbrev xi9:=@List.map_cons
abbrev xi_:=@List.map_map
abbrev xja:=@List.map_nil
abbrev xjb:=@List.map_take
abbrev xjc:=@List.mem_append
abbrev xjd:=@List.mem_append_left
abbrev xje:=@List.mem_append_right
abbrev xjf:=@List.mem_cons
abbrev xjg:=@List.mem_cons_of_mem
abbrev xjh:=@List.mem_cons_self
abbrev xji:=@List.mem_filter
abbrev xjj:=@List.mem_filterMap
abbrev xjk:=@List.mem_iff_getElem
abbrev xjl:=@List.mem_map
abbrev xjm:=@List.mem_map_of_mem
abbrev xjn:=@List.mem_of_getElem?
abbrev xjo:=@List.mem_of_mem_take
abbrev xjp:=@List.mem_range
abbrev xjq:=@List.mem_singleton
abbrev xjr:=@List.nil_append
abbrev xjs:=@List.nil_sublist
abbrev xjt:=@List.nodup_append
abbrev xju:=@List.nodup_cons
abbrev xjv:=@List.not_mem_nil
abbrev xjw:=@List.pairwise_append
abbrev xjx:=@List.pairwise_cons
abbrev xjy:=@List.replicate_succ
abbrev xjz:=@List.reverse_append
abbrev xjA:=@List.reverse_cons
abbrev xjB:=@List.singleton_sublist
abbrev xjC:=@List.size_toArray
abbrev xjD:=@List.sublist_append_iff
abbrev xjE:=@List.sublist_append_right
abbrev xjF:=@List.take_append_drop
abbrev xjG:=@List.take_of_length_le
abbrev xjH:=@List.take_succ
abbrev xjI:=@Nat.le_add_right
abbrev xjJ:=@Nat.le_of_lt
abbrev xjK:=@Nat.le_refl
abbrev xjL:=@Nat.le_succ
abbrev xjM:=@Nat.le_trans
abbrev xjN:=@Nat.lt_irrefl
abbrev xjO:=@Nat.lt_of_le_of_lt
abbrev xjP:=@Nat.lt_of_lt_of_le
abbrev xjQ:=@Nat.lt_succ_of_lt
abbrev xjR:=@Nat.lt_succ_self
abbrev xjS:=@Nat.ne_of_gt
abbrev xjT:=@Nat.ne_of_lt
abbrev xjU:=@Nat.sub_zero
abbrev xjV:=@Nat.zero_add
abbrev xjW:=@Nat.zero_le
abbrev xjX:=@Option.getD_some
abbrev xjY:=@Option.map_some
abbrev xjZ:=@Option.some.inj
abbrev xj0:=@congrArg
abbrev xj1:=@decide_eq_decide
abbrev xj2:=@decide_eq_false
abbrev xj3:=@decide_eq_true
abbrev xj4:=@decide_eq_true_eq
abbrev xj5:=@decide_eq_true_iff
abbrev xj6:=@if_false
abbrev xj7:=@of_decide_eq_false
abbrev xj8:=@of_decide_eq_true
abbrev xj9:=@or_false
noncomputable section
namespace L2
open PySem PySem.Spec PyProof.Rows
abbrev Key:=Sum Int Str
def xfh:Key→Value→Bool
 | .inl k,v=>Value.isInt k v
 | .inr x,v=>Value.isStrOf x v
def xhy (w:World):Key→Int
 | .inl k=>hashInt k
 | .inr x=>hashStr w x
theorem y4:∀ {k:Key} {v:Value},xfh k v=true→(∃i t,k=Sum.inl i∧v=Value.int i t)∨(∃x t,k=Sum.inr x∧v=Value.str x t)
 | .inl i,v,h=>by
  obtain⟨t,e⟩:=Value.isInt_shape (k:=i) (v:=v) h
  exact .inl ⟨i,t,rfl,e⟩
 | .inr x,v,h=>by
  obtain⟨t,e⟩:=Value.isStrOf_shape (x:=x) (v:=v) h
  exact .inr ⟨x,t,rfl,e⟩
theorem xft (a b:Int):decide ((Sum.inl a:Key)=Sum.inl b)=(a == b):=by
 by_cases e:a=b
 ·subst e;simp
 ·have h:¬(Sum.inl a:Key)=Sum.inl b:=fun q=>e (Sum.inl.inj q)
  rw[xj2 h]
  exact(beq_eq_false_iff_ne.mpr e).symm
theorem xfc (a b:Str):decide ((Sum.inr a:Key)=Sum.inr b)=decide (a=b):=by
 by_cases e:a=b
 ·subst e;simp
 ·have h:¬(Sum.inr a:Key)=Sum.inr b:=fun q=>e (Sum.inr.inj q)
  rw[xj2 h,xj2 e]
theorem xeC (a:Int)(b:Str):decide ((Sum.inl a:Key)=Sum.inr b)=false:=xj2 (fun q=>nomatch q)
theorem xfk (a:Str)(b:Int):decide ((Sum.inr a:Key)=Sum.inl b)=false:=xj2 (fun q=>nomatch q)
def oQ (prog:Program)(w:World):PySem.KeyKind prog w Key where
 is:=xfh
 hash:=xhy w
 inj:=fun v a b ha hb=>by
  rcases y4 ha with ⟨i,t,rfl,rfl⟩ | ⟨x,t,rfl,rfl⟩
  ·rcases y4 hb with ⟨j,u,rfl,e⟩ | ⟨y,u,rfl,e⟩
   ·injection e with e1 _;rw[e1]
   ·exact nomatch e
  ·rcases y4 hb with ⟨j,u,rfl,e⟩ | ⟨y,u,rfl,e⟩
   ·exact nomatch e
   ·injection e with e1 _;rw[e1]
 byValue:=fun k v h=>by
  rcases y4 h with ⟨i,t,rfl,rfl⟩ | ⟨x,t,rfl,rfl⟩<;>rfl
 pyHash:=fun hv h=>by
  rcases y4 hv with ⟨i,t,rfl,rfl⟩ | ⟨x,t,rfl,rfl⟩
  ·exact wpAny_pyHash_int h
  ·exact wpAny_pyHash_str h
 eqBool:=fun hu hv h=>by
  rcases y4 hu with ⟨i,t,rfl,rfl⟩ | ⟨x,t,rfl,rfl⟩
  ·rcases y4 hv with ⟨j,u,rfl,rfl⟩ | ⟨y,u,rfl,rfl⟩
   ·rw[xft] at h;exact wpAny_eqBool_int h
   ·rw[xeC] at h;exact SeqAt.EqAt.int_str i t y u _ _ _ _ h
  ·rcases y4 hv with ⟨j,u,rfl,rfl⟩ | ⟨y,u,rfl,rfl⟩
   ·rw[xfk] at h;exact SeqAt.EqAt.str_int x t j u _ _ _ _ h
   ·rw[xfc] at h;exact wpAny_eqBool_str h
 «strs» := fun k x t v h=>by
  rcases y4 h with ⟨i,u,rfl,e⟩ | ⟨y,u,rfl,e⟩
  ·exact nomatch e
  ·injection e with e1 _
   subst e1
   cases v<;>rfl
end L2
namespace L2
open PySem PySem.Spec PyProof.Rows
inductive V where
 | non | bl (b:Bool) | int (i:Int) | str (x:Str) | byt (b:Array UInt8) | flt (b:UInt64) | ref (a:Addr) | ty (n:String)
 deriving DecidableEq
def RelV:V→Value→Prop
 | .non,u=>u=Value.none
 | .bl b,u=>u=Value.bool b
 | .int i,u=>∃t,u=Value.int i t
 | .str x,u=>∃t,u=Value.str x t
 | .byt b,u=>∃t,u=Value.bytes b t
 | .flt b,u=>∃t,u=Value.float b t
 | .ref a,u=>u=Value.ref a
 | .ty n,u=>u=Value.type n
abbrev yS:List V→List Value→Prop:=Paired RelV
theorem yS.length {xs:List V}{us:List Value}(r:yS xs us):xs.length=us.length:=Paired.length r
theorem yS.get:∀ {xs:List V} {us:List Value} {i:Nat} {x:V},yS xs us→xs[i]? = some x→∃u,us[i]? = some u∧RelV x u
 | _,_,_,_,.nil,e=>by simp at e
 | _,_,0,_,.cons r _,e=>by simp at e;subst e;exact⟨_,rfl,r⟩
 | _,_,i+1,x,.cons _ t,e=>by
  obtain⟨u,h1,h2⟩:=yS.get (i:=i) (x:=x) t (by simpa using e)
  exact⟨u,by simpa using h1,h2⟩
theorem yS.set {x:V}{u:Value}(r:RelV x u):∀ {xs:List V} {us:List Value} (i:Nat),yS xs us→yS (xs.set i x) (us.set i u)
 | _,_,_,.nil=>.nil
 | _,_,0,.cons _ t=>.cons r t
 | _,_,i+1,.cons q t=>.cons q (yS.set r i t)
theorem yS.append:∀ {xs ys:List V} {us ws:List Value},yS xs us→yS ys ws→yS (xs++ys) (us++ws)
 | _,_,_,_,.nil,s=>s
 | _,_,_,_,.cons r t,s=>.cons r (yS.append t s)
theorem yS.take:∀ {xs:List V} {us:List Value} (n:Nat),yS xs us→yS (xs.take n) (us.take n)
 | _,_,0,_=>.nil
 | _,_,_+1,.nil=>.nil
 | _,_,n+1,.cons r t=>.cons r (yS.take n t)
theorem yS.drop:∀ {xs:List V} {us:List Value} (n:Nat),yS xs us→yS (xs.drop n) (us.drop n)
 | _,_,0,r=>r
 | _,_,_+1,.nil=>.nil
 | _,_,n+1,.cons _ t=>yS.drop n t
def xgl:Option V→Option Value→Prop
 | some v,some u=>RelV v u
 | none,none=>True
 | _,_=>False
def KV {κ:Type}:List (κ×V)→List (κ×Value)→Prop:=Paired fun(p:κ×V) (q:κ×Value)=>p.1=q.1∧RelV p.2 q.2
def kV:Key→V
 | .inl i=>.int i
 | .inr x=>.str x
inductive HO where
  | lst (xs:List V)
  | tup (xs:List V)
  | dK (kvs:List (Key×V)) | dT (kvs:List (List Key×V))
  | set (S:Int→Bool) (n:Nat)
  | ins (C dx:Addr) (fs:List (Str×V))
  | own (x:Addr)
  | xd (fs:List (Str×V))
  | met (f x:Addr)
  | rng (lo hi:Int)
  | frz (o:Obj) (u:HO)
  | tbl (ps:Array Value)
 | tb (q:Str)
  | ext (φ:Heap→Prop)
abbrev Hp:=Addr→Option HO
def upd (H:Hp)(a:Addr)(o:HO):Hp:=fun b=>if b=a then some o else H b
theorem xQ {H:Hp}{a:Addr}{o:HO}:upd H a o a=some o:=by unfold upd;rw[if_pos rfl]
theorem xN {H:Hp}{a b:Addr}{o:HO}(h:b≠a):upd H a o b=H b:=by unfold upd;rw[if_neg h]
theorem xfw {H:Hp}{a b:Addr}{o u:HO}(h:H a=some o)(h':H b=some u)(d:o≠u):a≠b:=by
 intro e;subst e;rw[h] at h';exact d (xjZ h')
theorem xw {H:Hp}{a b:Addr}{o:HO}(h:H a=some o)(h':H b=none):a≠b:=by
 intro e;subst e;rw[h] at h';cases h'
section
variable (P:Program) (w:World)
def zV (H:Hp)(h:Heap)(a:Addr):HO→Prop
 | .lst xs=>xs.length≤sizeLine∧∃(its:List Value) (n:Nat),yS xs its∧h.get? a=some { cls:=.type "list", data:=.seq its.toArray n }
 | .tup xs=>xs.length≤sizeLine∧∃its:List Value,yS xs its∧IsTup h a its.toArray
 | .dK kvs=>kvs.length≤sizeLine∧(a == sysModules)=false∧∃vs,KV kvs vs∧h.DictOf (oQ P w) a vs
 | .dT kvs=>kvs.length≤sizeLine∧(a == sysModules)=false∧∃xs:List (List Key×Addr×Value),
   Paired (fun(p:List Key×V) (q:List Key×Addr×Value)=>p.1=q.1∧H q.2.1=some (.tup (p.1.map kV))∧RelV p.2 q.2.2) kvs xs ∧
   ∃o es ep,h.get? a=some o∧o.ExactDict∧o.data=.dict es ep∧es.toList=xs.map (entryOfKey (tupleKind (oQ P w)))∧(xs.map (·.1)).Nodup
 | .set S n=>h.SetOf (intKind P w) a S n
 | .ins C dx fs=>H dx=some (.own a)∧fs.length≤1000∧dx≠a∧h.get? a=some (PySem.W.instObj C dx) ∧
   ∃mA,h.Ns1 dx mA∧(∀f,xgl (fs.lookup f) (mA f))∧PySem.Within mA (fs.map (·.1))
 | .own _=>∃o,h.get? a=some o
 | .xd fs=>∃mA,h.Ns1 a mA∧∀f,xgl (fs.lookup f) (mA f)
 | .rng lo hi=>∃t u v,h.get? a=some { cls:=.type "range", data:=.fields #[.int lo t,.int hi u,.int 1 v] }
 | .frz o u=>h.get? a=some o∧zV H h a u
 | .tbl ps=>h.get? a=some { cls:=.none,data:=.fields ps }
 | .tb q=>∃ps:Array Value,h.get? a=some { cls:=.none,data:=.fields ps }∧TriplesOk ps.toList∧∀pos cv,codeAmong pos ps.toList=some cv →
   ∃c oc vs t,cv=.ref c∧H c=some (.frz oc (.own c))∧oc.data=.fields vs∧vs[1]? = some (.str q t)
 | .met f x=>h.get? a=some (PySem.W.methodObj (.ref f) (.ref x))
 | .ext φ=>φ h∧(∃o,h.get? a=some o)∧∀h1 h2:Heap,φ h1→(∀o,h1.get? a=some o→h2.get? a=some o)→φ h2
def HOk (H:Hp)(h:Heap):Prop:=∀a o,H a=some o→zV P w H h a o
end
section
variable {P:Program} {w:World} {H H':Hp} {h h':Heap} {a:Addr} {o:HO}
theorem zV.lt (x:zV P w H h a o):a<h.objs.size:=by
 cases o with
 | lst xs=>obtain⟨_,_,_,_,e⟩:=x;exact Heap.lt_size e
 | tup xs=>obtain⟨_,_,_,p⟩:=x;exact p.lt
 | dK kvs=>obtain⟨_,_,_,_,o,_,_,e,_⟩:=x;exact Heap.lt_size e
 | dT kvs=>obtain⟨_,_,_,_,o,_,_,e,_⟩:=x;exact Heap.lt_size e
 | set S n=>obtain⟨o,_,_,_,e,_⟩:=x;exact Heap.lt_size e
 | ins C dx fs=>obtain⟨_,_,_,e,_⟩:=x;exact Heap.lt_size e
 | own y=>obtain⟨_,e⟩:=x;exact Heap.lt_size e
 | xd fs=>obtain⟨_,⟨_,_,_,e,_⟩,_⟩:=x;exact Heap.lt_size e
 | rng lo hi=>obtain⟨_,_,_,e⟩:=x;exact Heap.lt_size e
 | frz ob u=>obtain⟨e,_⟩:=x;exact Heap.lt_size e
 | tbl ps=>exact Heap.lt_size (show h.get? a=some _ from x)
 | tb q=>obtain⟨_,e,_⟩:=x;exact Heap.lt_size e
 | met f y=>exact Heap.lt_size (show h.get? a=some _ from x)
 | ext φ=>obtain⟨_,⟨_,e⟩,_⟩:=x;exact Heap.lt_size e
theorem Paired.mapP {α β:Type}{F G:α→β→Prop}:∀ {l₁:List α} {l₂:List β},Paired F l₁ l₂→(∀a b,F a b→G a b)→Paired G l₁ l₂
 | _,_,.nil,_=>.nil
 | _,_,.cons r t,f=>.cons (f _ _ r) (Paired.mapP t f)
theorem zV.stay (x:zV P w H h a o)(k:∀b u,(b=a∨H b=some (.own a))→h.get? b=some u→h'.get? b=some u)
  (ho:∀b,H b=some (.own a)→H' b=some (.own a)) (ht:∀b xs,H b=some (.tup xs)→H' b=some (.tup xs)) (hf:∀b o u,H b=some (.frz o u)→H' b=some (.frz o u)):zV P w H' h' a o:=by
 induction o with
 | lst xs=>obtain⟨z,its,n,r,e⟩:=x;exact⟨z,its,n,r,k _ _ (.inl rfl) e⟩
 | tup xs=>obtain⟨z,its,r,ob,e,c⟩:=x;exact⟨z,its,r,ob,k _ _ (.inl rfl) e,c⟩
 | dK kvs=>obtain⟨z,y,vs,r,ob,es,ep,e,c⟩:=x;exact⟨z,y,vs,r,ob,es,ep,k _ _ (.inl rfl) e,c⟩
 | dT kvs =>
  obtain⟨z,y,xs,r,ob,es,ep,e,c⟩:=x
  exact⟨z,y,xs,Paired.mapP r fun p q z=>⟨z.1,ht _ _ z.2.1,z.2.2⟩,ob,es,ep,k _ _ (.inl rfl) e,c⟩
 | set S n=>obtain⟨ob,es,ep,t,e,c⟩:=x;exact⟨ob,es,ep,t,k _ _ (.inl rfl) e,c⟩
 | ins C dx fs =>
  obtain⟨d,z,ne,e,mA,⟨od,es,ep,e2,c⟩,r⟩:=x
  exact⟨ho _ d,z,ne,k _ _ (.inl rfl) e,mA,⟨od,es,ep,k _ _ (.inr d) e2,c⟩,r⟩
 | own y=>obtain⟨ob,e⟩:=x;exact⟨ob,k _ _ (.inl rfl) e⟩
 | xd fs=>obtain⟨mA,⟨od,es,ep,e,c⟩,r⟩:=x;exact⟨mA,⟨od,es,ep,k _ _ (.inl rfl) e,c⟩,r⟩
 | rng lo hi=>obtain⟨t,u,v,e⟩:=x;exact⟨t,u,v,k _ _ (.inl rfl) e⟩
 | frz ob u ih=>obtain⟨e,q⟩:=x;exact⟨k _ _ (.inl rfl) e,ih q⟩
 | tbl ps =>
  have e:h.get? a=some { cls:=.none,data:=.fields ps }:=x
  show h'.get? a=some { cls:=.none,data:=.fields ps }
  exact k a _ (.inl rfl) e
 | tb q =>
  obtain⟨ps,e,z,y⟩:=x
  exact⟨ps,k _ _ (.inl rfl) e,z,fun pos cv e=>let ⟨c,oc,vs,t,e1,e2,e3⟩:=y pos cv e;⟨c,oc,vs,t,e1,hf _ _ _ e2,e3⟩⟩
 | met f y =>
  have e:h.get? a=some (PySem.W.methodObj (.ref f) (.ref y)):=x
  show h'.get? a=some (PySem.W.methodObj (.ref f) (.ref y))
  exact k a _ (.inl rfl) e
 | ext φ=>obtain⟨p,⟨o,e⟩,st⟩:=x;exact⟨st _ _ p fun o q=>k _ _ (.inl rfl) q,⟨o,k _ _ (.inl rfl) e⟩,st⟩
theorem HOk.lt (x:HOk P w H h)(e:H a=some o):a<h.objs.size:=(x a o e).lt
theorem HOk.fresh (x:HOk P w H h)(e:h.objs.size≤a):H a=none:=by
 cases q:H a with
 | none=>rfl
 | some u=>exact absurd (xjP (x.lt q) e) (xjN _)
theorem HOk.kept (x:HOk P w H h)(k:∀b u,h.get? b=some u→h'.get? b=some u):HOk P w H h':=fun a o e =>
 (x a o e).stay (fun b u _ q=>k b u q) (fun _ q=>q) (fun _ _ q=>q) fun _ _ _ q=>q
theorem HOk.laid (x:HOk P w H h)(k:∀b u,h.get? b=some u→h'.get? b=some u)(hp:h.objs.size≤a)(new:zV P w (upd H a o) h' a o):HOk P w (upd H a o) h':=fun b u e=>by
 have hn:=x.fresh hp
 by_cases hb:b=a
 ·subst hb;rw[xQ] at e;cases e;exact new
 ·rw[xN hb] at e
  exact(x b u e).stay (fun c v _ q=>k c v q) (fun c q=>by rw[xN (xw q hn)];exact q) (fun c xs q=>by rw[xN (xw q hn)];exact q) fun c o u q=>by rw[xN (xw q hn)];exact q
end
def Rd (H:Hp)(a:Addr)(u:HO):Prop:=H a=some u∨∃o,H a=some (.frz o u)
theorem Rd.ok {P:Program}{w:World}{H:Hp}{h:Heap}{a:Addr}{u:HO}(r:Rd H a u)(x:HOk P w H h):zV P w H h a u:=by
 rcases r with r | ⟨o,r⟩
 ·exact x a u r
 ·obtain⟨_,q⟩:=x a _ r
  exact q
def Mut:Option HO→Prop
 | some (.lst _)=>True
 | some (.dK _)=>True
 | some (.dT _)=>True
 | some (.set _ _)=>True
 | some (.ins _ _ _)=>True
 | some (.ext _)=>True
 | some (.tb _)=>True
 | _=>False
section
variable {P:Program} {w:World} {H:Hp} {h h':Heap} {x e:Addr} {o':HO}
theorem HOk.write (ok:HOk P w H h)(mu:Mut (H x))(he:e=x∨H e=some (.own x))(k:∀b u,b≠e→h.get? b=some u→h'.get? b=some u)(heo:∃u,h'.get? e=some u)
  (new:zV P w (upd H x o') h' x o'):HOk P w (upd H x o') h':=fun b u q=>by
 have nown:∀c y,H c=some (.own y)→c≠x:=fun c y r z=>by subst z;rw[r] at mu;exact mu
 have ntup:∀c xs,H c=some (.tup xs)→c≠x:=fun c xs r z=>by subst z;rw[r] at mu;exact mu
 have nfrz:∀c o u,H c=some (.frz o u)→c≠x:=fun c o u r z=>by subst z;rw[r] at mu;exact mu
 by_cases hb:b=x
 ·subst hb;rw[xQ] at q;cases q;exact new
 ·rw[xN hb] at q
  by_cases hbe:b=e
  ·have q':H b=some (.own x):=by
    rcases he with z | z
    ·exact absurd (hbe.trans z) hb
    ·rw[hbe];exact z
   rw[q] at q';cases q'
   obtain⟨v,hv⟩:=heo
   exact⟨v,by rw[hbe];exact hv⟩
  ·refine(ok b u q).stay (fun c v hc r=>k c v ?_ r) (fun c r=>by rw[xN (nown c b r)];exact r) (fun c xs r=>by rw[xN (ntup c xs r)];exact r) fun c o u r=>by rw[xN (nfrz c o u r)];exact r
   rcases hc with rfl | hc
   ·exact hbe
   ·rintro rfl
    rcases he with z | z
    ·exact nown c b hc z
    ·rw[hc] at z;cases z;exact hb rfl
end
structure Un (fs ex:List Addr)(H H':Hp)(h h':Heap):Prop where
 keep:∀b o,h.get? b=some o→H b=none→b∉fs→b∉ex→h'.get? b=some o
 slot:∀b o,h.get? b=some o→H b=none→b∈fs→b∉ex→∃sl,h'.get? b=some { o with slots:=sl }
 free:∀b o,h.get? b=some o→H b=none→b∉ex→H' b=none
 there:∀b o,h.get? b=some o→b∉ex→∃o',h'.get? b=some o'
 tups:∀b xs,H b=some (.tup xs)→H' b=some (.tup xs)
 frzs:∀b o u,H b=some (.frz o u)→H' b=some (.frz o u)
 tbls:∀b ps,H b=some (.tbl ps)→∃more,H' b=some (.tbl (ps++more))
section
variable {fs fs' ex ex':List Addr} {H H1 H2:Hp} {h h1 h2 h':Heap} {a x e:Addr} {o:HO}
theorem Un.any (u:Un fs ex H H1 h h1){b:Addr}{ob:Obj}(q:h.get? b=some ob)(n:H b=none)(hx:b∉ex):∃sl,h1.get? b=some { ob with slots:=sl }:=by
 by_cases hb:b∈fs
 ·exact u.slot b ob q n hb hx
 ·exact⟨ob.slots,u.keep b ob q n hb hx⟩
theorem Un.kept (k:∀b u,h.get? b=some u→h'.get? b=some u):Un fs ex H H h h' :=
 ⟨fun b ob q _ _ _=>k b ob q,fun b ob q _ _ _=>⟨ob.slots,k b ob q⟩,fun _ _ _ n _=>n,fun b ob q _=>⟨ob,k b ob q⟩,fun _ _ q=>q,fun _ _ _ q=>q,fun _ ps q=>⟨#[],by rw[q];simp⟩⟩
theorem Un.refl:Un fs ex H H h h:=Un.kept fun _ _ q=>q
theorem Un.laid (k:∀b u,h.get? b=some u→h'.get? b=some u)(hp:h.objs.size≤a)(hn:H a=none):Un fs ex H (upd H a o) h h' where
 keep:=fun b u q _ _ _=>k b u q
 slot:=fun b u q _ _ _=>⟨u.slots,k b u q⟩
 free:=fun b u q n _=>by rw[xN (xjT (xjP (Heap.lt_size q) hp))];exact n
 there:=fun b u q _=>⟨u,k b u q⟩
 tups:=fun b xs q=>by rw[xN (xw q hn)];exact q
 frzs:=fun b u xs q=>by rw[xN (xw q hn)];exact q
 tbls:=fun b ps q=>⟨#[],by rw[xN (xw q hn),q];simp⟩
theorem Un.write (mu:Mut (H x))(he:e=x∨H e=some (.own x))(k:∀b u,b≠e→h.get? b=some u→h'.get? b=some u)(heo:∃u,h'.get? e=some u):Un fs ex H (upd H x o) h h':=by
 have hx:∀b,H b=none→b≠x:=fun b n z=>by subst z;rw[n] at mu;exact mu
 have hb:∀b,H b=none→b≠e:=fun b n z=>by
  subst z
  rcases he with r | r
  ·exact hx b n r
  ·rw[n] at r;cases r
 have hm:∀b u,H b=some u→¬Mut (some u)→b≠x:=fun b u q nm z=>by subst z;rw[q] at mu;exact nm mu
 refine⟨fun b u q n _ _=>k b u (hb b n) q,fun b u q n _ _=>⟨u.slots,k b u (hb b n) q⟩,fun b u q n _=>by rw[xN (hx b n)];exact n,fun b u q _=>?_,
  fun b xs q=>by rw[xN (hm b _ q fun z=>z)];exact q,fun b u xs q=>by rw[xN (hm b _ q fun z=>z)];exact q,fun b ps q=>⟨#[],by rw[xN (hm b _ q fun z=>z),q];simp⟩⟩
 by_cases hbe:b=e
 ·subst hbe;exact heo
 ·exact⟨u,k b u hbe q⟩
end
def trk (h:Heap)(H:Hp):List Addr:=(List.range h.objs.size).filter fun a=>(H a).isSome
def cN (h:Heap)(H:Hp):Heap:=PySem.W.hideAll h (trk h H)
theorem rN (h:Heap)(H:Hp):(cN h H).objs.size=h.objs.size:=PySem.W.hideAll_size _ _
theorem bj {h:Heap}{H:Hp}{b:Addr}{o:Obj}(e:h.get? b=some o)(n:H b=none):(cN h H).get? b=some o :=
 PySem.W.hideAll_get _ e fun hm=>by
  have q:(H b).isSome=true:=(xji.mp hm).2
  rw[n] at q;simp at q
theorem oC {h:Heap}{H:Hp}{b:Addr}{o:Obj}(e:(cN h H).get? b=some o):h.get? b=some o∧H b=none:=by
 have e':h.get? b=some o:=PySem.W.of_hideAll (trk h H) e
 refine⟨e',?_⟩
 cases q:H b with
 | none=>rfl
 | some x =>
  have hm:b∈trk h H:=xji.mpr ⟨xjp.mpr (Heap.lt_size e'),by simp[q]⟩
  have z:(cN h H).get? b=none:=PySem.W.hideAll_none (trk h H) hm
  rw[z] at e;cases e
def xdF (g h:Heap)(L:Addr):List (Addr×Obj):=(List.range h.objs.size).filterMap fun a=>if a=L∨(g.get? a).isSome=true then none else(h.get? a).map fun o=>(a,o)
def rest (g h:Heap)(L d:Addr):List (Addr×Obj):=(xdF g h L).filter fun p=>decide (p.1≠d)
end L2
namespace L2
open PySem PySem.Spec PyProof.Rows
structure Mod (K:PySem.W.Frag)(mg:Str→Option Value)(base:Heap):Prop where
 kin:K.In base
 glob:base.Ns mainGlobals mg
 blt:∃mb,base.Ns builtinsNs mb∧∀x:Str,x ≠ "__name__" → mb x=bootBuiltins x
 nolimit:base.NoLimit
structure Cx where
 prog:Program
 w:World
 K:PySem.W.Frag
 mg:Str→Option Value
 base:Heap
 A:Around
 N:List Str
 s₀:Shared
 H₀:Hp
 env:Env
 outer:List Env
 stack:List Env
 ex:List Addr
 fn:Str→Bool
 calm:Bool
 pn:List (Addr×Obj)
 xe:Value→Shared→Prop
def frs (l:List Env):List Addr:=l.filterMap (·.frame)
abbrev Cx.fs (X:Cx):List Addr:=frs X.outer
def Vis (sc:Scope)(x:Str):Prop:=sc.names.lookup x=some .local∨sc.names.lookup x=some .cell∨sc.names.lookup x=some .free
def Loc (sc:Scope)(x:Str):Prop:=sc.names.lookup x=some .local∨sc.names.lookup x=some .cell
def Look (env:Env)(h:Heap)(m:Str→Option Value)(x:Str)(u:Value):Prop :=
 (env.kindOf x=some .local∧m x=some u)∨((env.kindOf x=some .cell∨env.kindOf x=some .free)∧∃c,env.cells.lookup x=some c∧h.IsCell c (some u))
structure Cx.Ok (X:Cx):Prop where
 mod:Mod X.K X.mg X.base
 kind:X.env.scope.kind=.function
 glob:X.env.globals=mainGlobals
 blt:X.env.builtins=builtinsNs
 above:X.s₀.heap.objs.size≤X.env.locals
 inj:∀x y c,X.env.cells.lookup x=some c→X.env.cells.lookup y=some c→x=y
 has:∀x,(X.env.kindOf x=some .cell∨X.env.kindOf x=some .free)→∃c,X.env.cells.lookup x=some c
 cab:∀x c,X.fn x=true→X.env.cells.lookup x=some c→X.s₀.heap.objs.size≤c
 hd:X.calm=true→X.A.handled=none
 frames:X.A.frames=some X.stack
 stk:X.stack=X.outer∨(X.stack=X.env::X.outer∧X.env.frame=some X.env.locals)
 exf:∀b∈X.ex,b≠X.env.locals∧∀x c,X.env.cells.lookup x=some c→c≠b
 bs:∀b o,X.base.get? b=some o→X.s₀.heap.get? b=some o∧X.H₀ b=none
 bsz:X.base.objs.size≤X.s₀.heap.objs.size
 noex:∀b o,X.base.get? b=some o→b∉X.ex
 exfs:∀b∈X.ex,b∉X.fs
 funs:X.s₀.heap.FunFrames X.base X.outer
 frf:∀b∈X.fs,X.H₀ b=none
structure Inv (X:Cx)(pins:List (Addr×Obj))(σ:List (Option V))(H:Hp)(s:Shared):Prop where
 ok:X.Ok
 os:s.os=X.s₀.os
 bare:AllBare s.gens
 base:Un X.fs X.ex X.H₀ H X.s₀.heap s.heap
 loc:∃m,s.heap.Ns X.env.locals m∧∀(i:Nat) (x:Str) (v:V),X.N[i]? = some x→σ[i]? = some (some v)→Vis X.env.scope x→∃u,RelV v u∧Look X.env s.heap m x u
 cell:∀x c,X.env.cells.lookup x=some c→∃v,s.heap.IsCell c v
 free:H X.env.locals=none
 freeC:∀x c,X.env.cells.lookup x=some c→H c=none
 pin:∀p∈X.pn++pins,s.heap.get? p.1=some p.2∧H p.1=none∧p.1≠X.env.locals∧p.1∉X.fs∧∀v,p.2.data≠.cell v
 hok:HOk X.prog X.w H s.heap
 len:σ.length=X.N.length
section
variable {X:Cx} {pins:List (Addr×Obj)} {σ:List (Option V)} {H H':Hp} {s:Shared} {h':Heap}
theorem Cx.Ok.nofr (ok:X.Ok){b:Addr}{o:Obj}(e:X.base.get? b=some o):b∉X.fs:=fun hb=>by
 have:=(ok.funs.mem hb).1
 rw[e] at this;cases this
theorem Inv.bs (I:Inv X pins σ H s):∀b o,X.base.get? b=some o→s.heap.get? b=some o∧H b=none:=fun b o e =>
 ⟨I.base.keep b o (I.ok.bs b o e).1 (I.ok.bs b o e).2 (I.ok.nofr e) (I.ok.noex b o e),I.base.free b o (I.ok.bs b o e).1 (I.ok.bs b o e).2 (I.ok.noex b o e)⟩
theorem Inv.bk (I:Inv X pins σ H s):∀b o,X.base.get? b=some o→s.heap.get? b=some o:=fun b o e=>(I.bs b o e).1
theorem Inv.mod (I:Inv X pins σ H s):Mod X.K X.mg X.base:=I.ok.mod
theorem Inv.kIn (I:Inv X pins σ H s):X.K.In s.heap:=I.ok.mod.kin.keeps I.bk
theorem Inv.lt (I:Inv X pins σ H s):X.env.locals<s.heap.objs.size:=let ⟨_,hn,_⟩:=I.loc;hn.lt
theorem Inv.sz (I:Inv X pins σ H s):X.s₀.heap.objs.size≤s.heap.objs.size:=xjM I.ok.above (xjJ I.lt)
theorem Inv.nofs (I:Inv X pins σ H s){a:Addr}(h:s.heap.objs.size≤a):a∉X.fs:=fun hb=>by
 obtain⟨_,o,ho,_⟩:=I.ok.funs.mem hb
 exact absurd (xjP (Heap.lt_size ho) (xjM I.sz h)) (xjN _)
theorem Inv.cne (I:Inv X pins σ H s):∀x c,X.env.cells.lookup x=some c→c≠X.env.locals:=fun x c e z=>by
 obtain⟨v,o,ho,hd⟩:=I.cell x c e
 obtain⟨m,⟨o',es,ep,ho',hd',_⟩,_⟩:=I.loc
 rw[z,ho'] at ho;cases ho;rw[hd'] at hd;cases hd
theorem Inv.funs (I:Inv X pins σ H s):s.heap.FunFrames X.base X.outer:=by
 have all:∀(l:List Env),(∀b∈frs l,b∈X.fs)→X.s₀.heap.FunFrames X.base l→s.heap.FunFrames X.base l:=by
  intro l
  induction l with
  | nil=>intro _ _;trivial
  | cons env r ih =>
   intro hs hl
   obtain⟨hk,⟨L,o,hf,hn,ho,hd⟩,hr⟩:=hl
   have hL:L∈X.fs:=hs L (by unfold frs;rw[xiH,hf];exact xjh)
   obtain⟨sl,e⟩:=I.base.slot L o ho (I.ok.frf L hL) hL fun z=>I.ok.exfs L z hL
   exact⟨hk,⟨L,_,hf,hn,e,hd⟩,ih (fun b hb=>hs b (by unfold frs;rw[xiH,hf];exact xjg _ hb)) hr⟩
 exact all X.outer (fun _ hb=>hb) I.ok.funs
theorem Inv.stack (I:Inv X pins σ H s):s.heap.FunFrames X.base X.stack:=by
 rcases I.ok.stk with e | ⟨e,hf⟩
 ·rw[e];exact I.funs
 ·rw[e]
  obtain⟨m,hn,_⟩:=I.loc
  refine .cons (by rw[I.ok.kind];decide) hf hn ?_ I.funs
  exact Heap.get?_none_of_le (xjM I.ok.bsz I.ok.above)
theorem Inv.stkSub (I:Inv X pins σ H s):∀b∈frs X.stack,b∈X.env.locals::X.fs:=fun b hb=>by
 rcases I.ok.stk with e | ⟨e,hf⟩
 ·rw[e] at hb;exact xjg _ hb
 ·rw[e] at hb
  unfold frs at hb
  rw[xiH,hf] at hb
  exact hb
theorem Inv.stkFree (I:Inv X pins σ H s):∀b∈frs X.stack,H b=none:=fun b hb=>by
 rcases xjf.mp (I.stkSub b hb) with e | hb
 ·rw[e];exact I.free
 ·obtain⟨_,o,ho,_⟩:=I.ok.funs.mem hb
  exact I.base.free b o ho (I.ok.frf b hb) fun z=>I.ok.exfs b z hb
theorem Inv.step {g':Array GenState}{t':Nat}{d':Drawn}{ch:List Addr}(I:Inv X pins σ H s)
  (hch:∀b∈ch,(b∈X.ex∨X.s₀.heap.objs.size≤b)∧b≠X.env.locals∧(∀x c,X.env.cells.lookup x=some c→c≠b)∧∀p∈X.pn++pins,p.1≠b)
  (keep:∀b o,b≠X.env.locals→b∉X.fs→b∉ch→s.heap.get? b=some o→H b=none→h'.get? b=some o)
  (slot:∀b o,b≠X.env.locals→b∈X.fs→b∉ch→s.heap.get? b=some o→H b=none→∃sl,h'.get? b=some { o with slots:=sl }) (free:∀b o,b∉ch→s.heap.get? b=some o→H b=none→H' b=none)
  (there:∀b o,b∉ch→s.heap.get? b=some o→∃o',h'.get? b=some o')
  (tups:∀b xs,H b=some (.tup xs)→H' b=some (.tup xs)) (frzs:∀b o u,H b=some (.frz o u)→H' b=some (.frz o u)) (tbls:∀b ps,H b=some (.tbl ps)→∃more,H' b=some (.tbl (ps++more)))
  (ns:∀m,s.heap.Ns X.env.locals m→h'.Ns X.env.locals m) (hok:HOk X.prog X.w H' h') (hg:AllBare g') :
  Inv X pins σ H' { s with heap:=h',gens:=g',drawn:=d',toks:=t' }:=by
 have neL:∀b o,X.s₀.heap.get? b=some o→b≠X.env.locals:=fun b o e=>xjT (xjP (Heap.lt_size e) I.ok.above)
 have neC:∀b o,X.s₀.heap.get? b=some o→b∉X.ex→b∉ch:=fun b o e hx hb=>by
  rcases(hch b hb).1 with z | z
  ·exact hx z
  ·exact absurd (xjP (Heap.lt_size e) z) (xjN _)
 have cellK:∀x c,X.env.cells.lookup x=some c→∀v,s.heap.IsCell c v→h'.IsCell c v:=fun x c e v ⟨o,ho,hd⟩=>by
  have nch:c∉ch:=fun z=>(hch c z).2.2.1 x c e rfl
  by_cases hc:c∈X.fs
  ·obtain⟨sl,q⟩:=slot c o (I.cne x c e) hc nch ho (I.freeC x c e)
   exact⟨_,q,hd⟩
  ·exact⟨o,keep c o (I.cne x c e) hc nch ho (I.freeC x c e),hd⟩
 refine⟨I.ok,I.os,hg,⟨fun b o e n hb hx=>?_,fun b o e n hb hx=>?_,fun b o e n hx=>?_,fun b o e hx=>?_,fun b xs e=>tups b xs (I.base.tups b xs e),fun b o xs e=>frzs b o xs (I.base.frzs b o xs e),fun b ps e=>?_⟩,?_,fun x c e=>?_,?_,fun x c e=>?_,fun p hp=>?_,hok,I.len⟩
 ·exact keep b o (neL b o e) hb (neC b o e hx) (I.base.keep b o e n hb hx) (I.base.free b o e n hx)
 ·obtain⟨sl,e1⟩:=I.base.slot b o e n hb hx
  obtain⟨sl',e2⟩:=slot b _ (neL b o e) hb (neC b o e hx) e1 (I.base.free b o e n hx)
  exact⟨sl',e2⟩
 ·obtain⟨o',e1⟩:=I.base.there b o e hx
  exact free b o' (neC b o e hx) e1 (I.base.free b o e n hx)
 ·obtain⟨o',e1⟩:=I.base.there b o e hx
  exact there b o' (neC b o e hx) e1
 ·obtain⟨m1,e1⟩:=I.base.tbls b ps e
  obtain⟨m2,e2⟩:=tbls b _ e1
  exact⟨m1++m2,by rw[e2,Array.append_assoc]⟩
 ·obtain⟨m,hn,hl⟩:=I.loc
  refine⟨m,ns m hn,fun i x v e1 e2 e3=>?_⟩
  obtain⟨u,r,l⟩:=hl i x v e1 e2 e3
  refine⟨u,r,?_⟩
  rcases l with l | ⟨k,c,e,z⟩
  ·exact .inl l
  ·exact .inr ⟨k,c,e,cellK x c e _ z⟩
 ·obtain⟨v,z⟩:=I.cell x c e
  exact⟨v,cellK x c e v z⟩
 ·obtain⟨m,⟨o,_,_,ho,_⟩,_⟩:=I.loc
  exact free _ o (fun z=>(hch _ z).2.1 rfl) ho I.free
 ·obtain⟨v,o,ho,hd⟩:=I.cell x c e
  exact free c o (fun z=>(hch c z).2.2.1 x c e rfl) ho (I.freeC x c e)
 ·obtain⟨e,n,ne,nf,d⟩:=I.pin p hp
  have nch:p.1∉ch:=fun z=>(hch p.1 z).2.2.2 p hp rfl
  exact⟨keep p.1 p.2 ne nf nch e n,free p.1 p.2 nch e n,ne,nf,d⟩
theorem Inv.un {t':Nat}(I:Inv X pins σ H s)(u:Un X.fs [] H H' s.heap h')(hok:HOk X.prog X.w H' h'):Inv X pins σ H' { s with heap:=h',toks:=t' }:=by
 obtain⟨m,⟨o,es,ep,ho,r⟩,_⟩:=id I.loc
 obtain⟨sl,hL⟩:=u.any ho I.free (by simp)
 exact I.step (g':=s.gens) (d':=s.drawn) (ch:=[]) (fun _ z=>nomatch z) (fun b o _ hb _ e n=>u.keep b o e n hb (by simp)) (fun b o _ hb _ e n=>u.slot b o e n hb (by simp)) (fun b o _ e n=>u.free b o e n (by simp)) (fun b o _ e=>u.there b o e (by simp)) u.tups u.frzs u.tbls (fun m' hm=>by
  obtain⟨o',es',ep',ho',r'⟩:=hm
  rw[ho] at ho';cases ho'
  exact⟨_,es',ep',hL,r'⟩) hok I.bare
theorem Inv.call {g':Array GenState}{t':Nat}{d':Drawn}{ch:List Addr}(I:Inv X pins σ H s)(u:Un (frs X.stack) ch H H' s.heap h')(hok:HOk X.prog X.w H' h')(hg:AllBare g')
  (hch:∀b∈ch,(b∈X.ex∨X.s₀.heap.objs.size≤b)∧b≠X.env.locals∧(∀x c,X.env.cells.lookup x=some c→c≠b)∧∀p∈X.pn++pins,p.1≠b) :
  Inv X pins σ H' { s with heap:=h',gens:=g',drawn:=d',toks:=t' }:=by
 obtain⟨m,⟨o,es,ep,ho,r⟩,_⟩:=id I.loc
 obtain⟨sl,hL⟩:=u.any ho I.free fun z=>(hch _ z).2.1 rfl
 exact I.step (ch:=ch) hch (fun b o hL hb hc e n=>u.keep b o e n (fun z=>(xjf.mp (I.stkSub b z)).elim hL hb) hc) (fun b o _ _ hc e n=>u.any e n hc) (fun b o hc e n=>u.free b o e n hc) (fun b o hc e=>u.there b o e hc) u.tups u.frzs u.tbls (fun m' hm=>by
  obtain⟨o',es',ep',ho',r'⟩:=hm
  rw[ho] at ho';cases ho'
  exact⟨_,es',ep',hL,r'⟩) hok hg
theorem Inv.turned {t':Nat}{it:Addr}(I:Inv X pins σ H s)(k:∀b o,b≠it→s.heap.get? b=some o→h'.get? b=some o)(hn:H it=none)(hL:it≠X.env.locals)
  (h1:it∈X.ex∨X.s₀.heap.objs.size≤it) (h2:∀x c,X.env.cells.lookup x=some c→c≠it) (h3:∀p∈X.pn++pins,p.1≠it):Inv X pins σ H { s with heap:=h',toks:=t' }:=by
 have nit:∀b u,H b=some u→b≠it:=fun b u e z=>by rw[z,hn] at e;cases e
 refine I.step (g':=s.gens) (d':=s.drawn) (ch:=[it]) (fun b hb=>?_) (fun b o _ _ hc e _=>k b o (fun z=>hc (by simp[z])) e) (fun b o _ _ hc e _=>⟨o.slots,k b o (fun z=>hc (by simp[z])) e⟩) (fun _ _ _ _ n=>n)
  (fun b o hc e=>⟨o,k b o (fun z=>hc (by simp[z])) e⟩) (fun _ _ e=>e) (fun _ _ _ e=>e) (fun b ps e=>⟨#[],by rw[e];simp⟩) (fun m hm=>?_) (fun b u e=>?_) I.bare
 ·have e:b=it:=by simpa using hb
  subst e
  exact⟨h1,hL,h2,h3⟩
 ·obtain⟨o,es,ep,ho,r⟩:=hm
  exact⟨o,es,ep,k _ o (Ne.symm hL) ho,r⟩
 ·refine(I.hok b u e).stay (fun c v hc q=>k c v ?_ q) (fun _ q=>q) (fun _ _ q=>q) fun _ _ _ q=>q
  rcases hc with z | z
  ·rw[z];exact nit b u e
  ·exact nit c _ z
theorem Inv.tok (I:Inv X pins σ H s)(t:Nat):Inv X pins σ H { s with toks:=t }:=I.un (h':=s.heap) (t':=t) Un.refl I.hok
theorem Inv.kept {t':Nat}(I:Inv X pins σ H s)(k:∀b u,s.heap.get? b=some u→h'.get? b=some u):Inv X pins σ H { s with heap:=h',toks:=t' }:=I.un (Un.kept k) (I.hok.kept k)
theorem Inv.laid {a:Addr}{o:HO}{t':Nat}(I:Inv X pins σ H s)(k:∀b u,s.heap.get? b=some u→h'.get? b=some u)(hp:s.heap.objs.size≤a)(new:zV X.prog X.w (upd H a o) h' a o) :
  Inv X pins σ (upd H a o) { s with heap:=h',toks:=t' }:=I.un (Un.laid k hp (I.hok.fresh hp)) (I.hok.laid k hp new)
theorem Inv.write {x e:Addr}{o:HO}{t':Nat}(I:Inv X pins σ H s)(mu:Mut (H x))(he:e=x∨H e=some (.own x))(k:∀b u,b≠e→s.heap.get? b=some u→h'.get? b=some u)(heo:∃u,h'.get? e=some u)
  (new:zV X.prog X.w (upd H x o) h' x o):Inv X pins σ (upd H x o) { s with heap:=h',toks:=t' }:=I.un (Un.write mu he k heo) (I.hok.write mu he k heo new)
theorem Inv.weak {σ':List (Option V)}(I:Inv X pins σ H s)(hl:σ'.length=σ.length)(w:∀(i:Nat) v,σ'[i]? = some (some v)→σ[i]? = some (some v)):Inv X pins σ' H s :=
 ⟨I.ok,I.os,I.bare,I.base,let ⟨m,hn,hl'⟩:=I.loc;⟨m,hn,fun i x v e1 e2 e3=>hl' i x v e1 (w i v e2) e3⟩,I.cell,I.free,I.freeC,I.pin,I.hok,hl.trans I.len⟩
theorem Inv.pins_of {pins':List (Addr×Obj)}(I:Inv X pins σ H s)(h:∀p∈pins',s.heap.get? p.1=some p.2∧H p.1=none∧p.1≠X.env.locals∧p.1∉X.fs∧∀v,p.2.data≠.cell v):Inv X pins' σ H s :=
 ⟨I.ok,I.os,I.bare,I.base,I.loc,I.cell,I.free,I.freeC,fun p hp=>(xjc.mp hp).elim (fun z=>I.pin p (xjd _ z)) (h p),I.hok,I.len⟩
theorem aY {N:List Str}(hN:N.Nodup){i j:Nat}{x:Str}(a:N[i]? = some x)(b:N[j]? = some x):i=j:=by
 obtain⟨h1,e1⟩:=xiR.mp a
 obtain⟨h2,e2⟩:=xiR.mp b
 exact(List.getElem_inj hN).mp (e1.trans e2.symm)
theorem lg {M:Model}{A:Around}{E:Value→Shared→Prop}{i:Nat}{x:Str}{v:V}{u:Value}{Q:Unit→Shared→Prop}(I:Inv X pins σ H s)(hN:X.N.Nodup)(hi:X.N[i]? = some x)(hx:Loc X.env.scope x)(r:RelV v u)
  (h:∀s',Inv X pins (σ.set i (some v)) H s'→(∃a,Heap.SameBut a s.heap s'.heap∧(a=X.env.locals∨X.env.cells.lookup x=some a))→Q () s') (hf:X.fn x=true∨X.env.scope.names.lookup x=some .local:=by first | exact .inl rfl | exact .inr rfl | assumption):wpAny M A (storeName X.env x u) Q E s:=by
 obtain⟨m,hn,hl⟩:=id I.loc
 have hcls:(X.env.scope.kind == .class || (X.env.scope.kind == .module&&X.env.locals != X.env.globals))=false:=by rw[I.ok.kind];rfl
 have hiσ:i<σ.length:=by rw[I.len];exact(xiR.mp hi).1
 have cne:=I.cne
 have tracked:∀ {a:Addr} {h':Heap},(∃o,s.heap.get? a=some o∧H a=none)→Heap.SameBut a s.heap h'→HOk X.prog X.w H h':=fun {a h'} ha hs b ob e=>by
  obtain⟨_,_,hfree⟩:=ha
  refine(I.hok b ob e).stay (fun c w' hc q=>(hs.2 c ?_).trans q) (fun _ q=>q) (fun _ _ q=>q) fun _ _ _ q=>q
  rintro rfl
  rcases hc with rfl | hc
  ·rw[hfree] at e;cases e
  ·rw[hfree] at hc;cases hc
 rcases hx with hk | hk
 ·refine wpAny_storeName_local hk hn (fun h' hn' hs=>?_) hcls
  obtain⟨oL,_,_,hoL,_⟩:=id hn
  refine h _ ⟨I.ok,I.os,I.bare,⟨fun b o e n hb hx=>?_,fun b o e n hb hx=>?_,I.base.free,fun b o e hx=>?_,I.base.tups,I.base.frzs,I.base.tbls⟩,⟨_,hn',fun j y v' e1 e2 e3=>?_⟩,fun y c e=>?_,I.free,I.freeC,fun p hp=>?_,tracked ⟨oL,hoL,I.free⟩ hs,by simpa using I.len⟩ ⟨_,hs,.inl rfl⟩
  ·exact(hs.2 b (xjT (xjP (Heap.lt_size e) I.ok.above))).trans (I.base.keep b o e n hb hx)
  ·obtain⟨sl,e1⟩:=I.base.slot b o e n hb hx
   exact⟨sl,(hs.2 b (xjT (xjP (Heap.lt_size e) I.ok.above))).trans e1⟩
  ·obtain⟨o',e1⟩:=I.base.there b o e hx
   exact⟨o',(hs.2 b (xjT (xjP (Heap.lt_size e) I.ok.above))).trans e1⟩
  ·by_cases hj:j=i
   ·subst hj
    rw[hi] at e1;cases e1
    rw[xiU hiσ] at e2
    cases e2
    exact⟨u,r,.inl ⟨hk,by simp⟩⟩
   ·rw[xiT (Ne.symm hj)] at e2
    obtain⟨u',r',q⟩:=hl j y v' e1 e2 e3
    refine⟨u',r',?_⟩
    rcases q with ⟨k,e⟩ | ⟨k,c,e,z⟩
    ·refine .inl ⟨k,?_⟩
     have:y≠x:=fun e=>hj (aY hN e1 (e▸hi))
     simp[this,e]
    ·exact .inr ⟨k,c,e,z.sameBut hs (cne y c e)⟩
  ·obtain⟨w',z⟩:=I.cell y c e
   exact⟨w',z.sameBut hs (cne y c e)⟩
  ·obtain⟨e,n,ne,nf,d⟩:=I.pin p hp
   exact⟨(hs.2 p.1 ne).trans e,n,ne,nf,d⟩
 ·have hfn:X.fn x=true:=by
   rcases hf with z | z
   ·exact z
   ·rw[z] at hk;cases hk
  obtain⟨c,hc⟩:=I.ok.has x (.inl hk)
  obtain⟨w',z⟩:=I.cell x c hc
  refine wpAny_storeName_cell I.ok.kind hk hc z (fun h' hc' hs=>?_)
  obtain⟨oc,hoc,hocd⟩:=id z
  refine h { s with heap:=h' } ⟨I.ok,I.os,I.bare,⟨fun b o e n hb hx=>?_,fun b o e n hb hx=>?_,I.base.free,fun b o e hx=>?_,I.base.tups,I.base.frzs,I.base.tbls⟩,⟨m,hn.sameBut hs (Ne.symm (cne x c hc)),fun j y v' e1 e2 e3=>?_⟩,fun y c' e=>?_,I.free,I.freeC,fun p hp=>?_,tracked ⟨oc,hoc,I.freeC x c hc⟩ hs,by simpa using I.len⟩ ⟨c,hs,.inr hc⟩
  ·exact(hs.2 b (xjT (xjP (Heap.lt_size e) (I.ok.cab x c hfn hc)))).trans (I.base.keep b o e n hb hx)
  ·obtain⟨sl,e1⟩:=I.base.slot b o e n hb hx
   exact⟨sl,(hs.2 b (xjT (xjP (Heap.lt_size e) (I.ok.cab x c hfn hc)))).trans e1⟩
  ·obtain⟨o',e1⟩:=I.base.there b o e hx
   exact⟨o',(hs.2 b (xjT (xjP (Heap.lt_size e) (I.ok.cab x c hfn hc)))).trans e1⟩
  ·by_cases hj:j=i
   ·subst hj
    rw[hi] at e1;cases e1
    rw[xiU hiσ] at e2
    cases e2
    exact⟨u,r,.inr ⟨.inl hk,c,hc,hc'⟩⟩
   ·rw[xiT (Ne.symm hj)] at e2
    obtain⟨u',r',q⟩:=hl j y v' e1 e2 e3
    refine⟨u',r',?_⟩
    rcases q with q | ⟨k,c',e,z'⟩
    ·exact .inl q
    ·refine .inr ⟨k,c',e,z'.sameBut hs ?_⟩
     rintro rfl
     exact hj (aY hN e1 (I.ok.inj _ _ _ e hc▸hi))
  ·by_cases hcc:c'=c
   ·subst hcc;exact⟨_,hc'⟩
   ·obtain⟨w2,z2⟩:=I.cell y c' e
    exact⟨w2,z2.sameBut hs hcc⟩
  ·obtain⟨e,n,ne,nf,d⟩:=I.pin p hp
   refine⟨(hs.2 p.1 ?_).trans e,n,ne,nf,d⟩
   intro q
   rw[q,hoc] at e
   have q':oc=p.2:=xjZ e
   exact d w' (by rw[←q'];exact hocd)
theorem jt {M:Model}{A:Around}{E:Value→Shared→Prop}{i:Nat}{x:Str}{v:V}{u:Value}{Q:Unit→Shared→Prop}(I:Inv X pins σ H s)(hN:X.N.Nodup)(hi:X.N[i]? = some x)(hx:Loc X.env.scope x)(r:RelV v u)
  (h:∀s',Inv X pins (σ.set i (some v)) H s'→Q () s') (hf:X.fn x=true∨X.env.scope.names.lookup x=some .local:=by first | exact .inl rfl | exact .inr rfl | assumption):wpAny M A (storeName X.env x u) Q E s :=
 lg I hN hi hx r (fun s' I' _=>h s' I') hf
theorem Inv.call' {s':Shared}{ch:List Addr}(I:Inv X pins σ H s)(ho:s'.os=s.os)(u:Un (frs X.stack) ch H H' s.heap s'.heap)(hok:HOk X.prog X.w H' s'.heap)(hg:AllBare s'.gens)
  (hch:∀b∈ch,(b∈X.ex∨X.s₀.heap.objs.size≤b)∧b≠X.env.locals∧(∀x c,X.env.cells.lookup x=some c→c≠b)∧∀p∈X.pn++pins,p.1≠b):Inv X pins σ H' s':=by
 obtain⟨h',g',d',t',o'⟩:=s'
 have e:o'=s.os:=ho
 subst e
 exact I.call (g':=g') (t':=t') (d':=d') u hok hg hch
end
abbrev XK:=Value→Option Addr→Hp→Prop
abbrev St:=List (Option V)
abbrev VK:=V→Hp→Prop
abbrev TE:=St→Hp→VK→Prop
abbrev TT:=St→Hp→(Bool→Hp→Prop)→Prop
abbrev TA:=St→Hp→(List V→Hp→Prop)→Prop
structure Ends where
 nx:St→Hp→Prop
 rt:VK
 bk:St→Hp→Prop:=fun _ _=>False
 ct:St→Hp→Prop:=fun _ _=>False
abbrev TS:=Ends→St→Hp→Prop
def EP (X:Cx)(pins:List (Addr×Obj))(σ:St)(Q:VK)(u:Value)(s':Shared):Prop:=∃v H',Inv X pins σ H' s'∧RelV v u∧Q v H'
def TP (X:Cx)(pins:List (Addr×Obj))(σ:St)(Q:Bool→Hp→Prop)(b:Bool)(s':Shared):Prop:=∃H',Inv X pins σ H' s'∧Q b H'
def AP (X:Cx)(pins:List (Addr×Obj))(σ:St)(Q:List V→Hp→Prop)(us:List Value)(s':Shared):Prop:=∃vs H',Inv X pins σ H' s'∧yS vs us∧Q vs H'
def SP (X:Cx)(pins:List (Addr×Obj))(D:Ends)(f:Flow)(s':Shared):Prop :=
 match f with
 | .next=>∃ σ' H',Inv X pins σ' H' s'∧D.nx σ' H'
 | .brk=>∃ σ' H',Inv X pins σ' H' s'∧D.bk σ' H'
 | .cont=>∃ σ' H',Inv X pins σ' H' s'∧D.ct σ' H'
 | .ret u=>∃v σ' H',Inv X pins σ' H' s'∧RelV v u∧D.rt v H'
def PE (X:Cx)(e:Expr)(t:TE):Prop :=
 ∀ ⦃pins:List (Addr×Obj)⦄ (s:Shared) (σ:St) (H:Hp) (Q:VK),Inv X pins σ H s→t σ H Q→wpAny (model X.prog X.w) X.A (eval e X.env) (EP X pins σ Q) X.xe s
def PT (X:Cx)(e:Expr)(t:TT):Prop :=
 ∀ ⦃pins:List (Addr×Obj)⦄ (s:Shared) (σ:St) (H:Hp) (Q:Bool→Hp→Prop),Inv X pins σ H s→t σ H Q→wpAny (model X.prog X.w) X.A (isTrue e X.env (eval e X.env)) (TP X pins σ Q) X.xe s
def PW (X:Cx)(e:Expr)(t:TT):Prop :=
 ∀ ⦃whole:Sem Value⦄ (pins:List (Addr×Obj)) (s:Shared) (σ:St) (H:Hp) (Q:Bool→Hp→Prop),Inv X pins σ H s→t σ H Q→wpAny (model X.prog X.w) X.A (isTrue e X.env whole) (TP X pins σ Q) X.xe s
theorem PW.pt {X:Cx}{e:Expr}{t:TT}(h:PW X e t):PT X e t:=@h _
def PA (X:Cx)(es:List Expr)(t:TA):Prop :=
 ∀ ⦃pos:Pos⦄ (pins:List (Addr×Obj)) (s:Shared) (σ:St) (H:Hp) (Q:List V→Hp→Prop),Inv X pins σ H s→t σ H Q→wpAny (model X.prog X.w) X.A (spliced (backTo pos (starEach es X.env))) (AP X pins σ Q) X.xe s
def PS (X:Cx)(st:Stmt)(t:TS):Prop :=
 ∀ ⦃pins:List (Addr×Obj)⦄ (s:Shared) (σ:St) (H:Hp) (D:Ends),Inv X pins σ H s→t D σ H→wpAny (model X.prog X.w) X.A (exec st X.env) (SP X pins D) X.xe s
def PSs (X:Cx)(st:List Stmt)(t:TS):Prop :=
 ∀ ⦃pins:List (Addr×Obj)⦄ (s:Shared) (σ:St) (H:Hp) (D:Ends),Inv X pins σ H s→t D σ H→wpAny (model X.prog X.w) X.A (execs st X.env) (SP X pins D) X.xe s
theorem thn {α:Type}{t:Sem α}{Q Q':α→Shared→Prop}{M:Model}{A:Around}{E:Value→Shared→Prop}{s:Shared}(h:wpAny M A t Q E s)(hQ:∀a s,Q a s→Q' a s):wpAny M A t Q' E s:=wpAny_mono h hQ fun _ _ x=>x
end L2
namespace L2
open PySem PySem.Spec PyProof.Rows
section
variable {X:Cx}
def dD (i:Nat):TE:=fun σ H Q=>∃v,σ[i]? = some (some v)∧Q v H
def tC (v:V):TE:=fun _ H Q=>Q v H
theorem xcY {i:Nat}{x:Str}{pos:Pos}(hN:X.N[i]? = some x)(hv:Vis X.env.scope x)(hd:(x == ("__debug__" : Str))=false:=by decide)(hcd:(x == ("__classdict__" : Str))=false:=by decide):PE X (.Name x pos) (dD i):=by
 intro pins s σ H Q I h
 obtain⟨v,e,h⟩:=h
 obtain⟨m,hn,hl⟩:=I.loc
 obtain⟨u,r,l⟩:=hl i x v hN e hv
 have fin:EP X pins σ Q u s:=⟨v,H,I,r,h⟩
 rcases l with ⟨hk,hm⟩ | ⟨hk,c,hc,hcell⟩
 ·exact wpAny_Name (wpAny_loadName_local I.ok.kind hk hn hm fin) hd
 ·rcases hk with hk | hk
  ·exact wpAny_Name (wpAny_loadName_cell I.ok.kind hk hc hcell fin) hd
  ·exact wpAny_Name (wpAny_loadName_free I.ok.kind hk hc hcell fin hcd) hd
theorem xi {i j pos}:PE X (.Constant (.int i) j pos) (tC (.int i)):=fun _ _ _ H _ I h=>wpAny_Constant_int ⟨.int i,H,I.tok _,⟨_,rfl⟩,h⟩
theorem vC {b j pos}:PE X (.Constant (.bool b) j pos) (tC (.bl b)):=fun _ _ _ H _ I h=>Constant_bool ⟨.bl b,H,I,rfl,h⟩
theorem cD {j pos}:PE X (.Constant .none j pos) (tC .non):=fun _ _ _ H _ I h=>Constant_none ⟨.non,H,I,rfl,h⟩
theorem xar {x j pos}:PE X (.Constant (.str x) j pos) (tC (.str x)):=fun _ _ _ H _ I h=>Calls.Constant_str ⟨.str x,H,I.tok _,⟨_,rfl⟩,h⟩
def Gl (X:Cx)(x:Str):Prop:=X.env.kindOf x=some .globalImplicit
theorem gT {E:Value→Shared→Prop}{pins:List (Addr×Obj)}{s:Shared}{σ:St}{H:Hp}{x:Str}{u:Value}{pos:Pos}{Q:Value→Shared→Prop}(I:Inv X pins σ H s)(hg:Gl X x)(hm:X.mg x=some u)(h:Q u s)
  (hd:(x == ("__debug__" : Str))=false:=by decide):wpAny (model X.prog X.w) X.A (eval (.Name x pos) X.env) Q E s :=
 Calls.Name_function_global I.ok.kind hg (Calls.loadGlobal_global (by rw[I.ok.glob];exact I.mod.glob.keeps I.bk) hm h) hd
theorem dq {E:Value→Shared→Prop}{pins:List (Addr×Obj)}{s:Shared}{σ:St}{H:Hp}{x:Str}{u:Value}{pos:Pos}{Q:Value→Shared→Prop}(I:Inv X pins σ H s)(hg:Gl X x)(hm:X.mg x=none)(hv:bootBuiltins x=some u)(h:Q u s)
  (hn:x ≠ "__name__" := by decide) (hd:(x == ("__debug__" : Str))=false:=by decide):wpAny (model X.prog X.w) X.A (eval (.Name x pos) X.env) Q E s:=by
 obtain⟨mb,h1,h2⟩:=I.mod.blt
 exact Calls.Name_function_global I.ok.kind hg (Calls.loadGlobal_builtin (by rw[I.ok.glob];exact I.mod.glob.keeps I.bk) hm (by rw[I.ok.blt];exact h1.keeps I.bk) ((h2 x hn).trans hv) h) hd
theorem zj {x:Str}{v:V}{u:Value}{pos:Pos}(hg:Gl X x)(hm:X.mg x=some u)(r:RelV v u)(hd:(x == ("__debug__" : Str))=false:=by decide):PE X (.Name x pos) (tC v) :=
 fun _ _ _ H _ I h=>gT I hg hm ⟨v,H,I,r,h⟩ hd
theorem zX {x:Str}{v:V}{u:Value}{pos:Pos}(hg:Gl X x)(hm:X.mg x=none)(hv:bootBuiltins x=some u)(r:RelV v u)(hn:x ≠ "__name__" := by decide)(hd:(x == ("__debug__" : Str))=false:=by decide):PE X (.Name x pos) (tC v) :=
 fun _ _ _ H _ I h=>dq I hg hm hv ⟨v,H,I,r,h⟩ hn hd
variable {a b:Expr} {ta tb:TE} {pos:Pos}
def PC (X:Cx)(op:CmpOp)(a b:Expr)(t:TE):Prop :=
 ∀(pins:List (Addr×Obj)) (s:Shared) (σ:St) (H:Hp) (Q:VK),Inv X pins σ H s→t σ H Q →
  wpAny (model X.prog X.w) X.A (eval a X.env) (fun v s₁=>wpAny (model X.prog X.w) X.A (eval b X.env) (fun u s₂=>wpAny (model X.prog X.w) X.A (compareOp op v u) (EP X pins σ Q) X.xe s₂) X.xe s₁) X.xe s
theorem xbB (b:Expr){op:CmpOp}(h:op≠.In)(h2:op≠.NotIn):behindInMarks op b=false:=by
 have e1:(op == CmpOp.In)=false:=by cases op<;>first | rfl | exact absurd rfl h
 have e2:(op == CmpOp.NotIn)=false:=by cases op<;>first | rfl | exact absurd rfl h2
 cases b<;>simp[behindInMarks,e1,e2]
def xg6 (ta:TE):TE:=fun σ H Q=>ta σ H fun x H1=>Q (.bl (decide (x=.non))) H1
def xfb (ta:TE):TE:=fun σ H Q=>ta σ H fun x H1=>Q (.bl (!decide (x=.non))) H1
theorem RelV.none_iff {x:V}{v:Value}(r:RelV x v):(v == Value.none)=decide (x=.non):=by
 cases x with
 | non=>cases r;rfl
 | bl _=>cases r;rfl
 | int _=>obtain⟨t,rfl⟩:=r;rfl
 | str _=>obtain⟨t,rfl⟩:=r;rfl
 | byt _=>obtain⟨t,rfl⟩:=r;rfl
 | flt _=>obtain⟨t,rfl⟩:=r;rfl
 | ref _=>cases r;rfl
 | ty _=>cases r;rfl
theorem lO {j pos'}(ha:PE X a ta):PC X .Is a (.Constant .none j pos') (xg6 ta):=by
 intro pins s σ H Q I h
 refine thn (@ha pins s σ H _ I h) fun v s1 ⟨x,H1,I1,r1,q1⟩=>?_
 exact Constant_none (is_none_gen ⟨.bl _,H1,I1,by rw[r1.none_iff];rfl,q1⟩)
theorem xdd {j pos'}(ha:PE X a ta):PC X .IsNot a (.Constant .none j pos') (xfb ta):=by
 intro pins s σ H Q I h
 refine thn (@ha pins s σ H _ I h) fun v s1 ⟨x,H1,I1,r1,q1⟩=>?_
 exact Constant_none (isnot_none_gen ⟨.bl _,H1,I1,by rw[r1.none_iff];rfl,q1⟩)
def tB (t:TE):TT:=fun σ H Q=>t σ H fun x H1=>∃c,x=.bl c∧Q c H1
theorem cQ {op:CmpOp}{t:TE}(h:PC X op a b t)(h1:behindInMarks op b=false:=by first | exact xbB _ (by decide) (by decide) | rfl):PT X (.Compare a [op] [b] pos) (tB t):=by
 intro pins s σ H Q I hw
 refine wpAny_isTrue_Compare1 (thn (@h pins s σ H _ I hw) fun v s1 h1=>thn h1 fun u s2 h2=>thn h2 fun c s3 ⟨x,H1,I1,r1,q1⟩=>?_) h1
 obtain⟨d,rfl,q⟩:=q1
 cases r1
 exact wpAny_truthy_bool ⟨H1,I1,q⟩
theorem zB {e:Expr}{t:TE}(h:PE X e t)(he:∀whole,isTrue e X.env whole=(do let v ←whole;standAt e.pos;holding [v] (truthy v)):=by intro _;rfl):PT X e (tB t):=by
 intro pins s σ H Q I hw
 refine isTrue_plain (thn (@h pins s σ H _ I hw) fun v s1 ⟨x,H1,I1,r1,q1⟩=>?_) (he _)
 obtain⟨d,rfl,q⟩:=q1
 cases r1
 exact wpAny_truthy_bool ⟨H1,I1,q⟩
variable {tA tB':TT} {rest:List Expr}
def xhs (t u:TT):TT:=fun σ H Q=>t σ H fun c H1=>if c=true then u σ H1 Q else Q false H1
def tOr (t u:TT):TT:=fun σ H Q=>t σ H fun c H1=>if c=true then Q true H1 else u σ H1 Q
def xhd (t:TT):TT:=fun σ H Q=>t σ H fun c H1=>Q (!c) H1
theorem fq (ha:PT X a tA):PW X (.BoolOp .And [a] pos) tA:=by
 intro wh pins s σ H Q I h
 refine isTrue_and (thn (@ha pins s σ H Q I h) fun c s1 e=>?_)
 cases c with
 | true=>exact isTrue_and_nil e
 | false=>exact e
theorem qY (ha:PT X a tA):PW X (.BoolOp .Or [a] pos) tA:=by
 intro wh pins s σ H Q I h
 refine isTrue_or (thn (@ha pins s σ H Q I h) fun c s1 e=>?_)
 cases c with
 | false=>exact isTrue_or_nil e
 | true=>exact e
theorem tu (ha:PT X a tA)(hb:PW X (.BoolOp .And (b::rest) pos) tB'):PW X (.BoolOp .And (a::b::rest) pos) (xhs tA tB'):=by
 intro wh pins s σ H Q I h
 refine isTrue_and (thn (@ha pins s σ H _ I h) fun c s1 ⟨H1,I1,q1⟩=>?_)
 cases c with
 | true=>exact @hb wh pins s1 σ H1 Q I1 q1
 | false=>exact⟨H1,I1,q1⟩
theorem fE (ha:PT X a tA)(hb:PW X (.BoolOp .Or (b::rest) pos) tB'):PW X (.BoolOp .Or (a::b::rest) pos) (tOr tA tB'):=by
 intro wh pins s σ H Q I h
 refine isTrue_or (thn (@ha pins s σ H _ I h) fun c s1 ⟨H1,I1,q1⟩=>?_)
 cases c with
 | true=>exact⟨H1,I1,q1⟩
 | false=>exact @hb wh pins s1 σ H1 Q I1 q1
theorem zE (ha:PT X a tA):PT X (.UnaryOp .Not a pos) (xhd tA):=by
 intro pins s σ H Q I h
 exact isTrue_not (@ha pins s σ H (fun c H1=>Q (!c) H1) I h)
def xfo (ta tb:TE):TE:=fun σ H Q=>ta σ H fun x H1=>∃c,x=.bl c∧if c=true then tb σ H1 Q else Q (.bl false) H1
def xg5 (ta tb:TE):TE:=fun σ H Q=>ta σ H fun x H1=>∃c,x=.bl c∧if c=true then Q (.bl true) H1 else tb σ H1 Q
def xeV (ta:TE):TE:=fun σ H Q=>ta σ H fun x H1=>∃c,x=.bl c∧Q (.bl (!c)) H1
theorem rF {op}{t:TE}(h:PE X a t):PE X (.BoolOp op [a] pos) t:=fun pins s σ H Q I hw=>BoolOp_one (@h pins s σ H Q I hw)
theorem bI (ha:PE X a ta)(hb:PE X (.BoolOp .And (b::rest) pos) tb):PE X (.BoolOp .And (a::b::rest) pos) (xfo ta tb):=by
 intro pins s σ H Q I h
 refine BoolOp_and (thn (@ha pins s σ H _ I h) fun v s1 ⟨x,H1,I1,r1,q1⟩=>?_)
 obtain⟨c,rfl,q1⟩:=q1
 cases r1
 refine wpAny_truthy_bool ?_
 cases c with
 | true=>exact @hb pins s1 σ H1 Q I1 q1
 | false=>exact⟨.bl false,H1,I1,rfl,q1⟩
theorem xes (ha:PE X a ta)(hb:PE X (.BoolOp .Or (b::rest) pos) tb):PE X (.BoolOp .Or (a::b::rest) pos) (xg5 ta tb):=by
 intro pins s σ H Q I h
 refine BoolOp_or (thn (@ha pins s σ H _ I h) fun v s1 ⟨x,H1,I1,r1,q1⟩=>?_)
 obtain⟨c,rfl,q1⟩:=q1
 cases r1
 refine wpAny_truthy_bool ?_
 cases c with
 | false=>exact @hb pins s1 σ H1 Q I1 q1
 | true=>exact⟨.bl true,H1,I1,rfl,q1⟩
theorem xcK (ha:PE X a ta):PE X (.UnaryOp .Not a pos) (xeV ta):=by
 intro pins s σ H Q I h
 refine UnaryOp_ (thn (@ha pins s σ H _ I h) fun v s1 ⟨x,H1,I1,r1,q1⟩=>?_)
 obtain⟨c,rfl,q1⟩:=q1
 cases r1
 exact not_of (wpAny_truthy_bool ⟨.bl (!c),H1,I1,rfl,q1⟩)
end
end L2
namespace L2
open PySem PySem.Spec PyProof.Rows
def SqL (K:PySem.W.Frag)(H:Hp)(a:Addr)(xs:List V):Prop :=
 Rd H a (.lst xs) ∨
  ∃(o:Obj) (its:Array Value) (n:Nat),K.lookup a=some o∧o.cls=.type "list" ∧ o.dict=none∧o.data=.seq its n∧its.size≤sizeLine∧yS xs its.toList
def SqT (K:PySem.W.Frag)(H:Hp)(a:Addr)(xs:List V):Prop :=
 Rd H a (.tup xs) ∨
  ∃(o:Obj) (its:Array Value) (n:Nat),K.lookup a=some o∧o.cls=.type "tuple" ∧ o.data=.seq its n∧its.size≤sizeLine∧yS xs its.toList
def xhC:Value→Option V
 | .none=>some .non
 | .bool b=>some (.bl b)
 | .int i _=>some (.int i)
 | .str x _=>some (.str x)
 | .bytes b _=>some (.byt b)
 | .float b _=>some (.flt b)
 | .ref a=>some (.ref a)
 | .type n=>some (.ty n)
 | _=>none
theorem RelV.abs {x:V}{u:Value}(r:RelV x u):xhC u=some x:=by
 cases x with
 | non=>cases r;rfl
 | bl _=>cases r;rfl
 | int _=>obtain⟨t,rfl⟩:=r;rfl
 | str _=>obtain⟨t,rfl⟩:=r;rfl
 | byt _=>obtain⟨t,rfl⟩:=r;rfl
 | flt _=>obtain⟨t,rfl⟩:=r;rfl
 | ref _=>cases r;rfl
 | ty _=>cases r;rfl
theorem RelV.inj {x y:V}{u:Value}(r:RelV x u)(q:RelV y u):x=y:=xjZ (r.abs.symm.trans q.abs)
theorem yS.inj:∀ {xs ys:List V} {us:List Value},yS xs us→yS ys us→xs=ys
 | _,_,_,.nil,.nil=>rfl
 | _,_,_,.cons r t,.cons r' t'=>by rw[r.inj r',yS.inj t t']
section
variable {X:Cx} {pins:List (Addr×Obj)} {σ:St} {H:Hp} {s:Shared} {a:Addr} {xs ys:List V}
theorem SqL.of {K:PySem.W.Frag}(h:H a=some (.lst xs)):SqL K H a xs:=.inl (.inl h)
theorem SqT.of {K:PySem.W.Frag}(h:H a=some (.tup xs)):SqT K H a xs:=.inl (.inl h)
theorem Inv.list (I:Inv X pins σ H s)(h:SqL X.K H a xs):∃its:List Value,yS xs its∧PlainL s.heap a its.toArray∧xs.length≤sizeLine:=by
 rcases h with h | ⟨o,its,n,hk,hc,hd,hs,hz,r⟩
 ·obtain⟨z,its,n,r,e⟩:=h.ok I.hok
  exact⟨its,r,⟨_,n,e,rfl,rfl,rfl⟩,z⟩
 ·refine⟨its.toList,r,⟨o,n,I.kIn a o hk,hc,hd,by simpa using hs⟩,?_⟩
  have e:=r.length
  simp only[xhW] at e
  omega
theorem Inv.tuple (I:Inv X pins σ H s)(h:SqT X.K H a xs):∃its:List Value,yS xs its∧IsTup s.heap a its.toArray∧xs.length≤sizeLine:=by
 rcases h with h | ⟨o,its,n,hk,hc,hs,hz,r⟩
 ·obtain⟨z,its,r,p⟩:=h.ok I.hok
  exact⟨its,r,p,z⟩
 ·refine⟨its.toList,r,⟨o,I.kIn a o hk,hc,n,by simpa using hs⟩,?_⟩
  have e:=r.length
  simp only[xhW] at e
  omega
theorem Inv.list_inj (I:Inv X pins σ H s)(h:SqL X.K H a xs)(h':SqL X.K H a ys):xs=ys:=by
 obtain⟨its,r,⟨o,n,e,_,_,d⟩,_⟩:=I.list h
 obtain⟨its',r',⟨o',n',e',_,_,d'⟩,_⟩:=I.list h'
 rw[e] at e';cases e'
 rw[d] at d'
 injection d' with d1 _
 have:its=its':=by simpa using xj0 Array.toList d1
 subst this
 exact r.inj r'
theorem Inv.tuple_inj (I:Inv X pins σ H s)(h:SqT X.K H a xs)(h':SqT X.K H a ys):xs=ys:=by
 obtain⟨its,r,⟨o,e,_,n,d⟩,_⟩:=I.tuple h
 obtain⟨its',r',⟨o',e',_,n',d'⟩,_⟩:=I.tuple h'
 rw[e] at e';cases e'
 rw[d] at d'
 injection d' with d1 _
 have:its=its':=by simpa using xj0 Array.toList d1
 subst this
 exact r.inj r'
end
abbrev Cx.wish (X:Cx)(E:Value→Shared→Prop):Cx:={ X with xe:=E }
abbrev Cx.nox (X:Cx):Cx:=X.wish fun _ _=>False
theorem Cx.Ok.wish {X:Cx}(ok:X.Ok)(E:Value→Shared→Prop):(X.wish E).Ok :=
 ⟨ok.mod,ok.kind,ok.glob,ok.blt,ok.above,ok.inj,ok.has,ok.cab,ok.hd,ok.frames,ok.stk,ok.exf,ok.bs,ok.bsz,ok.noex,ok.exfs,ok.funs,ok.frf⟩
theorem Cx.Ok.unwish {X:Cx}{E:Value→Shared→Prop}(ok:(X.wish E).Ok):X.Ok :=
 ⟨ok.mod,ok.kind,ok.glob,ok.blt,ok.above,ok.inj,ok.has,ok.cab,ok.hd,ok.frames,ok.stk,ok.exf,ok.bs,ok.bsz,ok.noex,ok.exfs,ok.funs,ok.frf⟩
section
variable {X:Cx} {pins:List (Addr×Obj)} {σ:St} {H:Hp} {s:Shared} {E:Value→Shared→Prop}
theorem Inv.wish (I:Inv X pins σ H s)(E:Value→Shared→Prop):Inv (X.wish E) pins σ H s:=⟨I.ok.wish E,I.os,I.bare,I.base,I.loc,I.cell,I.free,I.freeC,I.pin,I.hok,I.len⟩
theorem Inv.unwish (I:Inv (X.wish E) pins σ H s):Inv X pins σ H s:=⟨I.ok.unwish,I.os,I.bare,I.base,I.loc,I.cell,I.free,I.freeC,I.pin,I.hok,I.len⟩
theorem SP.unwish {D:Ends}{f:Flow}{s':Shared}(h:SP (X.wish E) pins D f s'):SP X pins D f s':=by
 cases f with
 | next=>obtain⟨σ',H',I,q⟩:=h;exact⟨σ',H',I.unwish,q⟩
 | brk=>obtain⟨σ',H',I,q⟩:=h;exact⟨σ',H',I.unwish,q⟩
 | cont=>obtain⟨σ',H',I,q⟩:=h;exact⟨σ',H',I.unwish,q⟩
 | ret u=>obtain⟨v,σ',H',I,r,q⟩:=h;exact⟨v,σ',H',I.unwish,r,q⟩
theorem PSs.nox {st:List Stmt}{t:TS}(h:PSs X.nox st t):PSs X st t:=fun pins s σ H D I hw =>
 wpAny_mono (@h pins s σ H D (I.wish _) hw) (fun _ _ q=>q.unwish) fun _ _ z=>False.elim z
end
section
variable {X:Cx} {st:Stmt} {rest:List Stmt} {t u:TS} {e:Expr} {te:TE} {pos:Pos}
def xfs:TS:=fun D σ H=>D.nx σ H
def xep (t u:TS):TS:=fun D σ H=>t { D with nx:=u D } σ H
theorem xY:PSs X [] xfs:=fun _ _ σ H _ I h=>wpAny_execs_nil ⟨σ,H,I,h⟩
theorem xg (h1:PS X st t)(h2:PSs X rest u):PSs X (st::rest) (xep t u):=by
 intro pins s σ H D I h
 refine wpAny_execs_cons (thn (@h1 pins s σ H { D with nx:=u D } I h) fun f s1 q=>?_)
 cases f with
 | next =>
  obtain⟨σ',H',I',q⟩:=q
  exact @h2 pins s1 σ' H' D I' q
 | ret v=>exact q
 | brk=>exact q
 | cont=>exact q
theorem xj (h1:PS X st t):PSs X [st] t:=by
 intro pins s σ H D I h
 refine wpAny_execs_cons (thn (@h1 pins s σ H D I h) fun f s1 q=>?_)
 cases f with
 | next=>exact wpAny_execs_nil q
 | ret v=>exact q
 | brk=>exact q
 | cont=>exact q
theorem Inv.quiet {pins:List (Addr×Obj)}{σ:St}{H:Hp}{s:Shared}(I:Inv X pins σ H s):interactive X.env=false:=by simp[interactive,I.ok.kind]
def pG (te:TE):TS:=fun D σ H=>te σ H fun _ H1=>D.nx σ H1
theorem zg (he:PE X e te)(hs:swapsWith e none pos.line X.env=pure false:=by rfl):PS X (.Expr e pos) (pG te):=by
 intro pins s σ H D I h
 exact wpAny_Expr_any (thn (@he pins s σ H _ I h) fun v s1 ⟨x,H1,I1,r1,q1⟩=>⟨σ,H1,I1,q1⟩) I.quiet hs
def xfI (te:TE):TS:=fun D σ H=>te σ H D.rt
theorem xK (he:PE X e te):PS X (.Return (some e) pos) (xfI te):=by
 intro pins s σ H D I h
 exact wpAny_Return_some (thn (@he pins s σ H _ I h) fun v s1 ⟨x,H1,I1,r1,q1⟩=>⟨x,σ,H1,I1,r1,q1⟩)
def xgS (c:TT)(t u:TS):TS:=fun D σ H=>c σ H fun b H1=>if b=true then t D σ H1 else u D σ H1
theorem yY {c:Expr}{a b:List Stmt}{tc:TT}(hc:PT X c tc)(ha:PSs X a t)(hb:PSs X b u):PS X (.If c a b pos) (xgS tc t u):=by
 intro pins s σ H D I h
 refine wpAny_If (thn (@hc pins s σ H _ I h) fun d s1 ⟨H1,I1,q1⟩=>?_)
 cases d with
 | true=>exact @ha pins s1 σ H1 D I1 q1
 | false=>exact @hb pins s1 σ H1 D I1 q1
def cG:TS:=fun _ _ _=>False
theorem rf:PS X st cG:=fun _ _ _ _ _ _ h=>h.elim
end
abbrev TG:=V→St→Hp→(St→Hp→Prop)→Prop
abbrev TGs:=List V→St→Hp→(St→Hp→Prop)→Prop
def PG (X:Cx)(target:Expr)(t:TG):Prop :=
 ∀(pins:List (Addr×Obj)) (s:Shared) (σ:St) (H:Hp) (v:V) (u:Value) (Q:St→Hp→Prop),Inv X pins σ H s→RelV v u→t v σ H Q →
  wpAny (model X.prog X.w) X.A (assign target X.env u) (fun _ s'=>∃ σ' H',Inv X pins σ' H' s'∧Q σ' H') X.xe s
def PGs (X:Cx)(ts:List Expr)(t:TGs):Prop :=
 ∀(pins:List (Addr×Obj)) (s:Shared) (σ:St) (H:Hp) (vs:List V) (us:List Value) (Q:St→Hp→Prop),Inv X pins σ H s→yS vs us→t vs σ H Q →
  wpAny (model X.prog X.w) X.A (assignInOrder ((assignEach ts X.env).map (·.2)) us) (fun _ s'=>∃ σ' H',Inv X pins σ' H' s'∧Q σ' H') X.xe s
abbrev xgF:=V→V→V→Hp→(Hp→Prop)→Prop
def xht (X:Cx)(t:xgF):Prop :=
 ∀(pins:List (Addr×Obj)) (s:Shared) (σ:St) (H:Hp) (o i v:V) (ov iv u:Value) (Q:Hp→Prop),Inv X pins σ H s→RelV o ov→RelV i iv→RelV v u→t o i v H Q →
  wpAny (model X.prog X.w) X.A (setItem ov iv u) (fun _ s'=>∃H',Inv X pins σ H' s'∧Q H') X.xe s
section
variable {X:Cx} {pos:Pos}
def fY (i:Nat):TG:=fun v σ H Q=>Q (σ.set i (some v)) H
theorem yI {i:Nat}{x:Str}(hN:X.N.Nodup)(hi:X.N[i]? = some x)(hx:Loc X.env.scope x)(hf:X.fn x=true∨X.env.scope.names.lookup x=some .local:=by first | exact .inl rfl | exact .inr rfl | assumption):PG X (.Name x pos) (fY i):=by
 intro pins s σ H v u Q I r h
 exact wpAny_assign_Name (jt I hN hi hx r (fun s' I'=>⟨_,H,I',h⟩) hf)
def xgG:TGs:=fun vs σ H Q=>vs=[]∧Q σ H
def xdA (t:TG)(u:TGs):TGs:=fun vs σ H Q=>∃v r,vs=v::r∧t v σ H fun σ' H'=>u r σ' H' Q
theorem y7:PGs X [] xgG:=by
 intro pins s σ H vs us Q I r h
 obtain⟨e,h⟩:=h
 subst e
 cases r
 exact assignInOrder_nil ⟨σ,H,I,h⟩
theorem xH {e:Expr}{es:List Expr}{t:TG}{u:TGs}(h1:PG X e t)(h2:PGs X es u)
  (hs:(assignEach (e::es) X.env).map (·.2)=assign e X.env::(assignEach es X.env).map (·.2):=by rfl):PGs X (e::es) (xdA t u):=by
 intro pins s σ H vs us Q I r h
 obtain⟨v,vr,e1,h⟩:=h
 subst e1
 cases r with
 | cons r rr =>
  rw[hs]
  refine assignInOrder_cons (thn (@h1 pins s σ H _ _ _ I r h) fun _ s1 ⟨σ1,H1,I1,q1⟩=>?_)
  exact @h2 pins s1 σ1 H1 _ _ Q I1 rr q1
def xf7 (K:PySem.W.Frag)(n:Nat)(t:TGs):TG:=fun v σ H Q=>∃a xs,v=.ref a∧SqT K H a xs∧xs.length=n∧t xs σ H Q
theorem xfO {es:List Expr}{k:Nat}{t:TGs}{n:Nat}(hc:X.calm=true)(h:PGs X es t)
  (hn:(assignEach es X.env).length=n:=by rfl) (hst:(assignEach es X.env).findIdx? (·.1)=none:=by rfl):PG X (.Tuple es k pos) (xf7 X.K n t):=by
 intro pins s σ H v u Q I r hw
 obtain⟨a,xs,e1,hq,hl,hw⟩:=hw
 subst e1
 cases r
 obtain⟨its,rv,ht,hz⟩:=I.tuple hq
 refine assign_Tuple_tuple (I.ok.hd hc) ht (by simp[hn,←hl,rv.length]) hst fun h' hx=>?_
 have I1:Inv X pins σ H { s with heap:=h' }:=I.kept (t':=s.toks) fun b o e=>hx b o (xjT (Heap.lt_size e)) e
 exact @h pins _ σ H xs _ Q I1 (by simpa using rv) hw
def xhv (to ti:TE)(t:xgF):TG:=fun v σ H Q=>to σ H fun o H1=>ti σ H1 fun i H2=>t o i v H2 fun H3=>Q σ H3
theorem xcA {o i:Expr}{to ti:TE}{t:xgF}(ho:PE X o to)(hi:PE X i ti)(hs:xht X t)
  (ha:∀v,assign (.Subscript o i pos) X.env v=(do
   let ov ←holding [v] (eval o X.env)
   let iv ←holding [v,ov] (eval i X.env)
   standAt pos
   holding [v,ov,iv] (setItem ov iv v)
   release [v,ov,iv] []):=by intro _;rfl):PG X (.Subscript o i pos) (xhv to ti t):=by
 intro pins s σ H v u Q I r h
 rw[ha]
 refine wpAny_bind (wpAny_holding (thn (@ho pins s σ H _ I h) fun ov s1 ⟨x,H1,I1,r1,q1⟩=>?_))
 refine wpAny_bind (wpAny_holding (thn (@hi pins s1 σ H1 _ I1 q1) fun iv s2 ⟨y,H2,I2,r2,q2⟩=>?_))
 refine wpAny_bind (wpAny_standAt (wpAny_bind (wpAny_holding (thn (@hs pins s2 σ H2 x y v ov iv u _ I2 r1 r2 r q2) fun _ s3 ⟨H3,I3,q3⟩=>?_))))
 exact wpAny_release ⟨σ,H3,I3,q3⟩
def xdp (te:TE)(g:TG):TS:=fun D σ H=>te σ H fun x H1=>g x σ H1 D.nx
theorem kb {tg e:Expr}{te:TE}{g:TG}(he:PE X e te)(hg:PG X tg g)(hs:swapsWithSole [tg] e pos.line X.env=pure false:=by rfl)(hw:swappedStores [tg] e X.env=pure none:=by rfl)
  (h1:(assignEach [tg] X.env).map (·.2)=[assign tg X.env]:=by rfl):PS X (.Assign [tg] e pos) (xdp te g):=by
 intro pins s σ H D I h
 refine wpAny_Assign_stores (thn (@he pins s σ H _ I h) fun v s1 ⟨x,H1,I1,r1,q1⟩=>?_) hs hw
 rw[h1]
 exact thn (@hg pins s1 σ H1 x v _ I1 r1 q1) fun _ s2 q=>q
theorem u5 {i:Nat}{x:Str}{e:Expr}{te:TE}{pos':Pos}(hN:X.N.Nodup)(hi:X.N[i]? = some x)(hx:Loc X.env.scope x)(he:PE X e te)(hs:swapsWith e (some (.Name x pos')) pos.line X.env=pure false:=by rfl)(hf:X.fn x=true∨X.env.scope.names.lookup x=some .local:=by first | exact .inl rfl | exact .inr rfl | assumption) :
  PS X (.Assign [.Name x pos'] e pos) (xdp te (fY i)):=by
 intro pins s σ H D I h
 refine wpAny_Assign_Name (thn (@he pins s σ H _ I h) fun v s1 ⟨y,H1,I1,r1,q1⟩=>?_) hs
 exact jt I1 hN hi hx r1 (fun s2 I2=>⟨_,H1,I2,q1⟩) hf
def xhp (i j:Nat)(ta:TA):TS:=fun D σ H=>ta σ H fun vs H1=>∃v w,vs=[v,w]∧D.nx ((σ.set i (some v)).set j (some w)) H1
theorem kh {i j:Nat}{x y:Str}{a b:Expr}{ta:TA}{px py pt:Pos}{kt k2 pt2}(hc:X.calm=true)(hN:X.N.Nodup)(hi:X.N[i]? = some x)(hj:X.N[j]? = some y)(hij:i≠j)
  (hx:X.env.scope.names.lookup x=some .local) (hy:X.env.scope.names.lookup y=some .local) (ha:PA X [a,b] ta)
  (hw:swappedStores [.Tuple [.Name x px,.Name y py] kt pt] (.Tuple [a,b] k2 pt2) X.env=pure (some [x,y]))
  (hs:swapsWithSole [.Tuple [.Name x px,.Name y py] kt pt] (.Tuple [a,b] k2 pt2) pos.line X.env=pure false:=by rfl) :
  PS X (.Assign [.Tuple [.Name x px,.Name y py] kt pt] (.Tuple [a,b] k2 pt2) pos) (xhp i j ta):=by
 intro pins s σ H D I h
 rw[exec_Assign_arm]
 refine wpAny_bind (wpAny_standAt ?_)
 rw[hs]
 refine wpAny_bind (wpAny_pure ?_)
 rw[if_neg (by decide)]
 refine wpAny_bind (Tuple_ (thn (@ha _ pins s σ H _ I h) fun us s1 ⟨vs,H1,I1,r1,q1⟩=>?_))
 obtain⟨v,w,e1,q1⟩:=q1
 subst e1
 obtain⟨u1,u2,rfl,rv,rw'⟩:∃u1 u2,us=[u1,u2]∧RelV v u1∧RelV w u2:=by
  cases r1 with
  | cons p q =>
   cases q with
   | cons p' q' =>
    cases q'
    exact⟨_,_,rfl,p,p'⟩
 refine wpAny_newObj_type ?_ (by show 2≤sizeLine;decide)
 have I2:Inv X pins σ H1 { s1 with heap:=s1.heap.push { cls:=.type "tuple", data:=.seq [u1,u2].toArray } }:=I1.kept (t':=s1.toks) fun b o e=>Heap.get?_push_of_some _ e
 rw[hw]
 refine wpAny_bind (wpAny_pure ?_)
 show wpAny (model X.prog X.w) X.A (do rule "assign.swapped-stores"; let items ←unpackItems (.ref s1.heap.objs.size) 2 none;assignInOrder [fun v=>bindName X.env y v,fun v=>bindName X.env x v] items.reverse;pure Flow.next) _ _ _
 refine wpAny_bind (wpAny_rule (wpAny_bind (unpackItems_tuple (items := #[u1,u2]) (I.ok.hd hc) (IsTup.new s1.heap _) fun h' hx'=>?_)))
 have I3:=I2.kept (h':=h') (t':=s1.toks) fun b o e=>hx' b o (xjT (Heap.lt_size e)) e
 show wpAny _ _ (assignInOrder [fun v=>bindName X.env y v,fun v=>bindName X.env x v] [u2,u1] >>= fun _=>pure Flow.next) _ _ _
 refine wpAny_bind (assignInOrder_cons (wpAny_bindName (jt I3 hN hj (.inl hy) rw' (fun s2 I4=>?_) (.inr hy))))
 refine assignInOrder_cons (wpAny_bindName (jt I4 hN hi (.inl hx) rv (fun s3 I5=>assignInOrder_nil (wpAny_pure ?_)) (.inr hx)))
 rw[List.set_comm _ _ (Ne.symm hij)] at I5
 exact⟨_,H1,I5,q1⟩
end
section
variable {X:Cx} {pos:Pos}
def xcP (c:TT)(tb:TS):TS:=fun D σ H=>∃W:Nat→St→Hp→Prop,(∃m,W m σ H)∧∀m σ H,W m σ H →
 c σ H fun b H1=>if b=true then ∃N:St→Hp→Prop,(∀ σ' H',N σ' H'→∃m',m' < m∧W m' σ' H')∧tb { D with nx:=N,ct:=N,bk:=D.nx } σ H1 else D.nx σ H1
theorem sL {c:Expr}{body:List Stmt}{tc:TT}{tb:TS}(hp:PassesOwn (model X.prog X.w) X.A X.env X.xe)(hc:PT X c tc)(hb:PSs X body tb):PS X (.While c body [] pos) (xcP tc tb):=by
 intro pins s σ H D I h
 obtain⟨W,⟨m0,w0⟩,turn⟩:=h
 refine wpAny_While (codeAny_whileLoop (fun n s'=>∃ σ' H',Inv X pins σ' H' s'∧W n σ' H') ?_ m0 ⟨σ,H,I,w0⟩)
 rintro n s1 ⟨σ1,H1,I1,w1⟩
 refine wpAny_passesOwn hp (thn (@hc pins s1 σ1 H1 _ I1 (turn n σ1 H1 w1)) fun b s2 ⟨H2,I2,q2⟩=>?_)
 cases b with
 | true =>
  obtain⟨N,hN,q2⟩:=q2
  rw[if_pos rfl]
  refine wpAny_passesOwn hp (thn (@hb pins s2 σ1 H2 _ I2 q2) fun f s3 q3=>?_)
  cases f with
  | next =>
   obtain⟨σ3,H3,I3,n3⟩:=q3
   obtain⟨m',hm,w3⟩:=hN σ3 H3 n3
   exact⟨m',hm,σ3,H3,I3,w3⟩
  | cont =>
   obtain⟨σ3,H3,I3,n3⟩:=q3
   obtain⟨m',hm,w3⟩:=hN σ3 H3 n3
   exact⟨m',hm,σ3,H3,I3,w3⟩
  | brk=>exact q3
  | ret v=>exact q3
 | false =>
  rw[if_neg xhZ]
  exact wpAny_execs_nil ⟨σ1,H2,I2,q2⟩
end
structure It where
 go:Nat→Hp→Prop
 yld:Nat→Hp→V→Hp→Prop
 stop:Nat→Hp→Prop
def fW (X:Cx)(pins:List (Addr×Obj))(H:Hp)(b:Addr):Prop :=
 H b=none∧b≠X.env.locals∧b∉X.fs∧(b∈X.ex∨X.s₀.heap.objs.size≤b)∧(∀x c,X.env.cells.lookup x=some c→c≠b)∧∀p∈X.pn++pins,p.1≠b
theorem Inv.fpOk {X:Cx}{pins:List (Addr×Obj)}{σ:St}{H H':Hp}{s:Shared}{b:Addr}(I:Inv X pins σ H s)(hb:s.heap.objs.size≤b)(hn:H' b=none):fW X pins H' b:=by
 refine⟨hn,xjS (xjP I.lt hb),I.nofs hb,.inr (xjM I.sz hb),fun x c e z=>?_,fun p hp z=>?_⟩
 ·obtain⟨v,q⟩:=I.cell x c e
  exact absurd (xjP q.lt (by rw[z];exact hb)) (xjN _)
 ·exact absurd (xjP (Heap.lt_size (I.pin p hp).1) (by rw[z];exact hb)) (xjN _)
structure Turn (P:Program)(w:World)(K:PySem.W.Frag)(tg:Expr)(J:It)(fp:List Addr)(it:Addr)(tn:Nat→Heap→Prop):Prop where
 mem:it∈fp
 obj:∀i h,tn i h→∀b∈fp,∃o,h.get? b=some o∧∀v,o.data≠.cell v
 keep:∀i h h',tn i h→(∀b∈fp,∀o,h.get? b=some o→h'.get? b=some o)→tn i h'
 item:∀(X:Cx),X.prog=P→X.w=w→X.K=K→X.calm=true→∀(i:Nat) (pins:List (Addr×Obj)) (s:Shared) (σ:St) (H:Hp) (E:Value→Shared→Prop),Inv X pins σ H s→(∀b∈fp,fW X pins H b)→tn i s.heap→J.go i H →
  wpAny (model P w) X.A (pyNext (.ref it)) (fun r s1=>∃u,r=some u ∧
   wpAny (model P w) X.A (letOwnedTupleGo tg (.ref it) u) (fun _ s2=>∃x H',Inv X pins σ H' s2∧RelV x u∧J.yld i H x H'∧tn (i+1) s2.heap∧∀b∈fp,H' b=none) E s1) E s
 done:∀(X:Cx),X.prog=P→X.w=w→X.K=K→X.calm=true→∀(i:Nat) (pins:List (Addr×Obj)) (s:Shared) (σ:St) (H:Hp) (E:Value→Shared→Prop),Inv X pins σ H s→(∀b∈fp,fW X pins H b)→tn i s.heap→J.stop i H →
  wpAny (model P w) X.A (pyNext (.ref it)) (fun r s1=>r=none∧Inv X pins σ H s1) E s
 self:∀(A:Around) (i:Nat) (s:Shared) (Q:Value→Shared→Prop) (E:Value→Shared→Prop),tn i s.heap→Q (.ref it) s→wpAny (model P w) A (pyIter (.ref it)) Q E s
abbrev TI:=St→Hp→(It→Hp→Prop)→Prop
def PIE (X:Cx)(pins:List (Addr×Obj))(σ:St)(tg:Expr)(R:It→Hp→Prop)(itv:Value)(s2:Shared):Prop :=
 ∃(it:Addr) (fp:List Addr) (tn:Nat→Heap→Prop) (J:It) (H':Hp),itv=.ref it∧Inv X pins σ H' s2∧Turn X.prog X.w X.K tg J fp it tn∧tn 0 s2.heap∧(∀b∈fp,fW X pins H' b)∧R J H'
def PI (X:Cx)(tg iter:Expr)(wi:TI):Prop :=
 ∀(pins:List (Addr×Obj)) (s:Shared) (σ:St) (H:Hp) (R:It→Hp→Prop),Inv X pins σ H s→wi σ H R →
  wpAny (model X.prog X.w) X.A (eval iter X.env) (fun v s1=>wpAny (model X.prog X.w) X.A (pyIter v) (PIE X pins σ tg R) X.xe s1) X.xe s
theorem xd4 {M:Model}{A:Around}{E:Value→Shared→Prop}{s:Shared}{tg:Expr}{it:Addr}{u:Value}{o:Obj}{n:String}{vs:Array Value}{Q:Unit→Shared→Prop}(ho:s.heap.get? it=some o)(hc:o.cls=.type n)(hd:o.data=.fields vs)
  (hn:["enumerate", "zip", "dict_itemiterator", "dict_reverseitemiterator", "odict_iterator", "itertools.zip_longest", "itertools.pairwise"].contains n=false) (hQ:Q () s):wpAny M A (letOwnedTupleGo tg (.ref it) u) Q E s:=by
 unfold letOwnedTupleGo
 cases tg<;>first
  | exact wpAny_pure hQ
  | (cases u<;>first
    | exact wpAny_pure hQ
    | (refine wpAny_bind (wpAny_load ho ?_)
       rw[hc,hd]
       show wpAny M A (if (["enumerate", "zip", "dict_itemiterator", "dict_reverseitemiterator", "odict_iterator", "itertools.zip_longest", "itertools.pairwise"].contains n&&vs[0]? == some (rawInt _))=true then _ else _) Q E s
       rw[if_neg (by intro h;rw[hn,Bool.false_and] at h;cases h)]
       exact wpAny_pure hQ))
def Itl (K:PySem.W.Frag)(a:Addr):It :=
 ⟨fun i H=>∃xs x,SqL K H a xs∧xs[i]? = some x,fun i H x H'=>H'=H∧∀xs,SqL K H a xs→xs[i]? = some x,fun i H=>∃xs,SqL K H a xs∧xs.length≤i⟩
def Itt (K:PySem.W.Frag)(a:Addr):It :=
 ⟨fun i H=>∃xs x,SqT K H a xs∧xs[i]? = some x,fun i H x H'=>H'=H∧∀xs,SqT K H a xs→xs[i]? = some x,fun i H=>∃xs,SqT K H a xs∧xs.length≤i⟩
def Itr (lo:Int)(n:Nat):It:=⟨fun i _=>i<n,fun i H x H'=>H'=H∧x=.int (lo+i),fun i _=>n≤i⟩
theorem lZ {P:Program}{w:World}{K:PySem.W.Frag}{tg:Expr}(a it:Addr):Turn P w K tg (Itl K a) [it] it (fun i h=>h.IsListIter it a i) where
 mem:=by simp
 obj:=fun i h st b hb=>by
  have e:b=it:=by simpa using hb
  subst e
  obtain⟨o,e,c,d⟩:=st
  exact⟨o,e,fun v z=>by rw[d] at z;cases z⟩
 keep:=fun i h h' st k=>st.at fun o e=>k it (by simp) o e
 item:=by
  intro X hP hw hK hc i pins s σ H E I hf st hg
  subst hP hw hK
  obtain⟨xs,x,hq,hx⟩:=hg
  obtain⟨its,rv,p,hz⟩:=I.list hq
  obtain⟨u,hu,ru⟩:=rv.get hx
  obtain⟨f0,f1,f2,f3,f4,f5⟩:=hf it (by simp)
  refine wpAny_pyNext_list_item st p.isList (x:=u) (by simpa using hu) fun h' st' sb=>?_
  have I1:Inv X pins σ H { s with heap:=h' }:=I.turned (t':=s.toks) (fun b o hb e=>(sb.2 b hb).trans e) f0 f1 f3 f4 f5
  obtain⟨o,e,c,d⟩:=id st'
  exact⟨u,rfl,xd4 (s:={ s with heap:=h' }) e c d (by decide) ⟨x,H,I1,ru,⟨rfl,fun ys hy=>by rw[I.list_inj hy hq];exact hx⟩,st',fun b hb=>(hf b hb).1⟩⟩
 done:=by
  intro X hP hw hK hc i pins s σ H E I hf st hg
  subst hP hw hK
  obtain⟨xs,hq,hx⟩:=hg
  obtain⟨its,rv,p,hz⟩:=I.list hq
  obtain⟨f0,f1,f2,f3,f4,f5⟩:=hf it (by simp)
  have hl:=rv.length
  exact wpAny_pyNext_list_end (I.ok.hd hc) st p.isList (by simp;omega) fun h' eb=>⟨rfl,I.turned (t':=s.toks) (fun b o hb e=>eb b o hb e) f0 f1 f3 f4 f5⟩
 self:=fun _ _ _ _ _ st h=>wpAny_pyIter_listiter st h
theorem pX {P:Program}{w:World}{K:PySem.W.Frag}{tg:Expr}(a it:Addr):Turn P w K tg (Itt K a) [it] it (fun i h=>h.IsTupleIter it a i) where
 mem:=by simp
 obj:=fun i h st b hb=>by
  have e:b=it:=by simpa using hb
  subst e
  obtain⟨o,e,c,d⟩:=st
  exact⟨o,e,fun v z=>by rw[d] at z;cases z⟩
 keep:=fun i h h' st k=>st.at fun o e=>k it (by simp) o e
 item:=by
  intro X hP hw hK hc i pins s σ H E I hf st hg
  subst hP hw hK
  obtain⟨xs,x,hq,hx⟩:=hg
  obtain⟨its,rv,p,hz⟩:=I.tuple hq
  obtain⟨u,hu,ru⟩:=rv.get hx
  obtain⟨f0,f1,f2,f3,f4,f5⟩:=hf it (by simp)
  refine wpAny_pyNext_tuple_item st (show s.heap.IsTuple a its.toArray from p) (x:=u) (by simpa using hu) fun h' st' sb=>?_
  have I1:Inv X pins σ H { s with heap:=h' }:=I.turned (t':=s.toks) (fun b o hb e=>(sb.2 b hb).trans e) f0 f1 f3 f4 f5
  obtain⟨o,e,c,d⟩:=id st'
  exact⟨u,rfl,xd4 (s:={ s with heap:=h' }) e c d (by decide) ⟨x,H,I1,ru,⟨rfl,fun ys hy=>by rw[I.tuple_inj hy hq];exact hx⟩,st',fun b hb=>(hf b hb).1⟩⟩
 done:=by
  intro X hP hw hK hc i pins s σ H E I hf st hg
  subst hP hw hK
  obtain⟨xs,hq,hx⟩:=hg
  obtain⟨its,rv,p,hz⟩:=I.tuple hq
  obtain⟨f0,f1,f2,f3,f4,f5⟩:=hf it (by simp)
  have hl:=rv.length
  exact wpAny_pyNext_tuple_end (I.ok.hd hc) st (show s.heap.IsTuple a its.toArray from p) (by simp;omega) fun h' eb=>⟨rfl,I.turned (t':=s.toks) (fun b o hb e=>eb b o hb e) f0 f1 f3 f4 f5⟩
 self:=fun _ _ _ _ _ st h=>wpAny_pyIter_tupleiter st h
theorem pB {P:Program}{w:World}{K:PySem.W.Frag}{tg:Expr}(it:Addr)(lo:Int)(n:Nat):Turn P w K tg (Itr lo n) [it] it (fun i h=>IsRangeIter h it (lo+(i:Nat)*1) ((n:Int)-(i:Nat)) 1) where
 mem:=by simp
 obj:=fun i h st b hb=>by
  have e:b=it:=by simpa using hb
  subst e
  exact⟨_,st,fun v z=>by
   have z':Data.fields _=Data.cell v:=z
   cases z'⟩
 keep:=fun i h h' st k=>k it (by simp) _ st
 item:=by
  intro X hP hw hK hc i pins s σ H E I hf st hg
  subst hP hw hK
  obtain⟨f0,f1,f2,f3,f4,f5⟩:=hf it (by simp)
  have W:=Walks.range (prog:=X.prog) (w:=X.w) (I.ok.hd hc) it lo 1 n
  refine W.item i s _ _ hg st fun v h' tk hv st' kk=>?_
  obtain⟨t,rfl⟩:=hv
  have I1:Inv X pins σ H { s with heap:=h',toks:=tk }:=I.turned (fun b o hb e=>kk b o (by simpa using hb) e) f0 f1 f3 f4 f5
  refine⟨_,rfl,xd4 (s:={ s with heap:=h',toks:=tk }) (n := "range_iterator") st' rfl rfl (by decide) ⟨.int (lo+i),H,I1,⟨t,?_⟩,⟨rfl,rfl⟩,st',fun b hb=>(hf b hb).1⟩⟩
  rw[Int.mul_one]
 done:=by
  intro X hP hw hK hc i pins s σ H E I hf st hg
  subst hP hw hK
  obtain⟨f0,f1,f2,f3,f4,f5⟩:=hf it (by simp)
  exact wpAny_pyNext_range_end (I.ok.hd hc) st (by have:n≤i:=hg;omega) fun h' eb=>⟨rfl,I.turned (t':=s.toks) (fun b o hb e=>eb b o hb e) f0 f1 f3 f4 f5⟩
 self:=fun _ _ _ _ _ st h=>wpAny_pyIter_rangeiter st h
end L2
namespace L2
open PySem PySem.Spec PyProof.Rows
section
variable {X:Cx} {tg:Expr}
def xge (K:PySem.W.Frag)(tl:TE):TI:=fun σ H R=>tl σ H fun x H1=>∃a,x=.ref a∧(∃xs,SqL K H1 a xs)∧R (Itl K a) H1
theorem xa6 {pins:List (Addr×Obj)}{σ:St}{H:Hp}{s:Shared}{R:It→Hp→Prop}{E:Value→Shared→Prop}{lo hi:Int}{t u v:Tok}{tk:Nat}(I:Inv X pins σ H s)(h1:-(2 ^ 62)≤lo)(h2:lo<2 ^ 62)(h3:-(2 ^ 62)≤hi)(h4:hi<2 ^ 62)
  (q:R (Itr lo (hi-lo).toNat) H):wpAny (model X.prog X.w) X.A (pyIter (.ref s.heap.objs.size)) (PIE X pins σ tg R) E { s with heap:=s.heap.push { cls:=.type "range", data:=.fields #[.int lo t,.int hi u,.int 1 v] },toks:=tk }:=by
 refine wpAny_pyIter_range (IsRange.new ..) (small_one h1 h2 h3 h4) ?_
 have I1:Inv X pins σ H { s with heap:=s.heap.push { cls:=.type "range", data:=.fields #[.int lo t,.int hi u,.int 1 v] },toks:=tk }:=I.kept fun b o e=>Heap.get?_push_of_some _ e
 refine⟨(s.heap.push { cls:=.type "range", data:=.fields #[.int lo t,.int hi u,.int 1 v] }).objs.size,[(s.heap.push { cls:=.type "range", data:=.fields #[.int lo t,.int hi u,.int 1 v] }).objs.size],_,_,H,rfl,
  I1.kept (t':=tk) fun b o e=>Heap.get?_push_of_some _ e,pB _ lo (hi-lo).toNat,?_,fun b hb=>?_,q⟩
 ·have e1:lo+((0:Nat):Int)*1=lo:=by simp
  have e2:(((hi-lo).toNat:Nat):Int)-((0:Nat):Int)=Builtin.Range.rangeSize lo hi 1:=by rw[rangeSize_one];split<;>omega
  show IsRangeIter _ _ (lo+((0:Nat):Int)*1) ((((hi-lo).toNat:Nat):Int)-((0:Nat):Int)) 1
  rw[e1,e2]
  exact Heap.get?_push_size _ rfl
 ·have e:b=(s.heap.push { cls:=.type "range", data:=.fields #[.int lo t,.int hi u,.int 1 v] }).objs.size:=by simpa using hb
  subst e
  exact I1.fpOk (xjK _) (I1.hok.fresh (xjK _))
def xfC (ta:TA):TI:=fun σ H R=>ta σ H fun vs H1=>∃j:Int,vs=[.int j]∧-(2 ^ 62)≤j∧j<2 ^ 62∧R (Itr 0 j.toNat) H1
theorem je {a:Expr}{ta:TA}{p pos:Pos}(hg:Gl X "range")(hm:X.mg "range" = none)(ha:PA X [a] ta)(hs:starEach [a] X.env=[(false,eval a X.env)]:=by rfl):PI X tg (.Call (.Name "range" p) [a] [] pos) (xfC ta):=by
 intro pins s σ H R I h
 refine Call_ (dq I hg hm boot_range (PyProof.Rows.callWith_type1 (thn (@ha pos pins s σ H _ I h) fun us s1 ⟨vs,H1,I1,r1,q1⟩=>?_) hs rfl))
 obtain⟨j,e,q1,q2,q⟩:=q1
 subst e
 cases r1 with
 | cons r rr =>
  cases rr
  obtain⟨t,rfl⟩:=r
  exact call_range_1 (xa6 I1 (by omega) (by omega) q1 q2 (by simpa using q))
def xhf (wi:TI)(g:TG)(tb:TS):TS:=fun D σ H=>wi σ H fun J H1=>∃W:Nat→Nat→St→Hp→Prop,(∃m,W 0 m σ H1)∧∀i m σ H,W i m σ H →
 (J.stop i H∧D.nx σ H)∨(J.go i H∧∃N:St→Hp→Prop,(∀ σ' H',N σ' H'→∃m',m' < m∧W (i+1) m' σ' H')∧∀x H',J.yld i H x H'→g x σ H' fun σ2 H2=>tb { D with nx:=N,ct:=N,bk:=D.nx } σ2 H2)
def uq (fp:List Addr)(h:Heap):List (Addr×Obj):=fp.filterMap fun b=>(h.get? b).map fun o=>(b,o)
theorem zd {fp:List Addr}{h:Heap}{b:Addr}{o:Obj}(hb:b∈fp)(e:h.get? b=some o):(b,o)∈uq fp h:=xjj.mpr ⟨b,hb,by rw[e];rfl⟩
theorem jr {fp:List Addr}{h:Heap}{p:Addr×Obj}(hp:p∈uq fp h):p.1∈fp∧h.get? p.1=some p.2:=by
 obtain⟨b,hb,e⟩:=xjj.mp hp
 cases q:h.get? b with
 | none=>rw[q] at e;cases e
 | some o =>
  rw[q] at e
  have e':(b,o)=p:=xjZ e
  subst e'
  exact⟨hb,q⟩
theorem Inv.pinned {pins:List (Addr×Obj)}{σ:St}{H:Hp}{s:Shared}{fp:List Addr}(I:Inv X pins σ H s)(hf:∀b∈fp,fW X pins H b)(ho:∀b∈fp,∃o,s.heap.get? b=some o∧∀v,o.data≠.cell v):Inv X (pins++uq fp s.heap) σ H s :=
 I.pins_of fun p hp=>(xjc.mp hp).elim (fun z=>I.pin p (xje _ z)) fun z=>by
  obtain⟨hb,e⟩:=jr z
  obtain⟨f0,f1,f2,_⟩:=hf p.1 hb
  obtain⟨o,e',d⟩:=ho p.1 hb
  rw[e] at e';cases e'
  exact⟨e,f0,f1,f2,d⟩
theorem Inv.unpinned {pins pl:List (Addr×Obj)}{σ:St}{H:Hp}{s:Shared}(I:Inv X (pins++pl) σ H s):Inv X pins σ H s:=I.pins_of fun p hp=>I.pin p (xje _ (xjd _ hp))
theorem ub {iter:Expr}{body:List Stmt}{wi:TI}{g:TG}{tb:TS}{pos:Pos}(hp:PassesOwn (model X.prog X.w) X.A X.env X.xe)(hc:X.calm=true)(hi:PI X tg iter wi)(hg:PG X tg g)(hb:PSs X body tb)
  (hs:∀x,foldedSetIterable iter X.env x=pure x:=by intro _;rfl):PS X (.For tg iter body [] pos) (xhf wi g tb):=by
 intro pins s σ H D I h
 refine wpAny_For (thn (@hi pins s σ H _ I h) fun v s1 h1=>thn h1 fun itv s2 h2=>?_) hs
 obtain⟨it,fp,tn,J,H2,e,I2,T,st2,f2,W,⟨m0,w0⟩,turn⟩:=h2
 subst e
 have stat:∀ {H':Hp},(∀b∈fp,H' b=none)→∀b∈fp,fW X pins H' b:=fun hn b hb=>⟨hn b hb,(f2 b hb).2⟩
 refine codeAny_forLoop_any (fun n s'=>∃i σ' H',Inv X pins σ' H' s'∧tn i s'.heap∧(∀b∈fp,H' b=none)∧W i n σ' H') ?_ m0 ⟨0,σ,H2,I2,st2,fun b hb=>(f2 b hb).1,w0⟩
 rintro n s3 ⟨i,σ3,H3,I3,st3,fr3,w3⟩
 rcases turn i n σ3 H3 w3 with ⟨stop,qn⟩ | ⟨go,N,hN,step⟩
 ·refine wpAny_passesOwn hp (thn (T.done X rfl rfl rfl hc i pins s3 σ3 H3 X.xe I3 (stat fr3) st3 stop) fun r s4 ⟨hr,I4⟩=>?_)
  subst hr
  exact wpAny_execs_nil ⟨σ3,H3,I4,qn⟩
 ·refine wpAny_passesOwn hp (thn (T.item X rfl rfl rfl hc i pins s3 σ3 H3 X.xe I3 (stat fr3) st3 go) fun r s4 ⟨u,hr,h4⟩=>?_)
  subst hr
  refine wpAny_passesOwn hp (thn h4 fun _ s5 ⟨x,H5,I5,r5,y5,st5,fr5⟩=>?_)
  have I5':=I5.pinned (stat fr5) (T.obj _ _ st5)
  refine wpAny_passesOwn hp (thn (hg _ s5 σ3 H5 x u _ I5' r5 (step x H5 y5)) fun _ s6 ⟨σ6,H6,I6,q6⟩=>?_)
  refine wpAny_passesOwn hp (thn (@hb _ s6 σ6 H6 _ I6 q6) fun f s7 q7=>?_)
  have again:∀ {σ7:St} {H7:Hp},Inv X (pins++uq fp s5.heap) σ7 H7 s7→N σ7 H7→∃m,m<n∧∃i σ' H',Inv X pins σ' H' s7∧tn i s7.heap∧(∀b∈fp,H' b=none)∧W i m σ' H':=fun {σ7 H7} I7 n7=>by
   obtain⟨m',hm,w7⟩:=hN σ7 H7 n7
   refine⟨m',hm,i+1,σ7,H7,I7.unpinned,T.keep _ _ _ st5 fun b hb o e=>(I7.pin (b,o) (xje _ (xje _ (zd hb e)))).1,fun b hb=>?_,w7⟩
   obtain⟨o,e,d⟩:=T.obj _ _ st5 b hb
   exact(I7.pin (b,o) (xje _ (xje _ (zd hb e)))).2.1
  cases f with
  | next=>obtain⟨σ7,H7,I7,n7⟩:=q7;exact again I7 n7
  | cont=>obtain⟨σ7,H7,I7,n7⟩:=q7;exact again I7 n7
  | brk=>obtain⟨σ7,H7,I7,q7⟩:=q7;exact⟨σ7,H7,I7.unpinned,q7⟩
  | ret v=>obtain⟨x7,σ7,H7,I7,r7,q7⟩:=q7;exact⟨x7,σ7,H7,I7.unpinned,r7,q7⟩
end
end L2
namespace L2
open PySem PySem.Spec PyProof.Rows
abbrev R2:=V→V→Hp→VK→Prop
def OpR (X:Cx)(f:Value→Value→Sem Value)(r:R2):Prop :=
 ∀(pins:List (Addr×Obj)) (s:Shared) (σ:St) (H:Hp) (x y:V) (v u:Value) (Q:VK),Inv X pins σ H s→RelV x v→RelV y u→r x y H Q →
  wpAny (model X.prog X.w) X.A (f v u) (EP X pins σ Q) X.xe s
def UnR (X:Cx)(f:Value→Sem Value)(r:V→Hp→VK→Prop):Prop :=
 ∀(pins:List (Addr×Obj)) (s:Shared) (σ:St) (H:Hp) (x:V) (v:Value) (Q:VK),Inv X pins σ H s→RelV x v→r x H Q →
  wpAny (model X.prog X.w) X.A (f v) (EP X pins σ Q) X.xe s
def vJ (X:Cx)(f:Value)(r:List V→Hp→VK→Prop):Prop :=
 ∀(pins:List (Addr×Obj)) (s:Shared) (σ:St) (H:Hp) (xs:List V) (us:List Value) (Q:VK),Inv X pins σ H s→yS xs us→r xs H Q →
  wpAny (model X.prog X.w) X.A (call f us) (EP X pins σ Q) X.xe s
def tOp (r:R2)(ta tb:TE):TE:=fun σ H Q=>ta σ H fun x H1=>tb σ H1 fun y H2=>r x y H2 Q
def tUn (r:V→Hp→VK→Prop)(ta:TE):TE:=fun σ H Q=>ta σ H fun x H1=>r x H1 Q
def rI (C:Int→Int→Prop)(g:Int→Int→V):R2:=fun x y H Q=>∃i j,x=.int i∧y=.int j∧C i j∧Q (g i j) H
def rI0 (g:Int→Int→V):R2:=fun x y H Q=>∃i j,x=.int i∧y=.int j∧Q (g i j) H
def rU (g:Int→V):V→Hp→VK→Prop:=fun x H Q=>∃i,x=.int i∧Q (g i) H
section
variable {X:Cx} {a b c:Expr} {ta tb tc:TE} {pos:Pos}
theorem xgO (ha:PE X a ta)(hb:PE X b tb){pins:List (Addr×Obj)}{s:Shared}{σ:St}{H:Hp}{R:V→V→Hp→Prop}(I:Inv X pins σ H s)
  (h:ta σ H fun x H1=>tb σ H1 fun y H2=>R x y H2) {Q:Value→Shared→Prop} {f:Value→Value→Sem Value}
  (hf:∀v u s2 x y H2,Inv X pins σ H2 s2→RelV x v→RelV y u→R x y H2→wpAny (model X.prog X.w) X.A (f v u) Q X.xe s2) :
  wpAny (model X.prog X.w) X.A (eval a X.env) (fun v s₁=>wpAny (model X.prog X.w) X.A (eval b X.env) (fun u s₂=>wpAny (model X.prog X.w) X.A (f v u) Q X.xe s₂) X.xe s₁) X.xe s:=by
 refine thn (@ha pins s σ H _ I h) fun v s1 ⟨x,H1,I1,r1,q1⟩=>?_
 refine thn (@hb pins s1 σ H1 _ I1 q1) fun u s2 ⟨y,H2,I2,r2,q2⟩=>?_
 exact hf v u s2 x y H2 I2 r1 r2 q2
theorem xB {op:Operator}{r:R2}(ho:OpR X (binaryOp op) r)(ha:PE X a ta)(hb:PE X b tb):PE X (.BinOp a op b pos) (tOp r ta tb):=by
 intro pins s σ H Q I h
 exact wpAny_BinOp (xgO ha hb I h fun v u s2 x y H2 I2 rx ry q=>@ho pins s2 σ H2 x y v u Q I2 rx ry q)
theorem w_ {op:UnaryOp}{r:V→Hp→VK→Prop}(ho:UnR X (unaryOp op) r)(ha:PE X a ta):PE X (.UnaryOp op a pos) (tUn r ta):=by
 intro pins s σ H Q I h
 exact UnaryOp_ (thn (@ha pins s σ H _ I h) fun v s1 ⟨x,H1,I1,r1,q1⟩=>@ho pins s1 σ H1 x v Q I1 r1 q1)
theorem opI {f:Value→Value→Sem Value}{C:Int→Int→Prop}{g:Int→Int→Int}
  (rule:∀(i j:Int) (t u:Tok) (s:Shared) (Q:Value→Shared→Prop) (E:Value→Shared→Prop),C i j→Q (.int (g i j) s.toks) { s with toks:=s.toks+1 }→wpAny (model X.prog X.w) X.A (f (.int i t) (.int j u)) Q E s) :
  OpR X f (rI C fun i j=>.int (g i j)):=by
 intro pins s σ H x y v u Q I rx ry h
 obtain⟨i,j,rfl,rfl,hc,q⟩:=h
 obtain⟨t,rfl⟩:=rx
 obtain⟨t',rfl⟩:=ry
 exact rule i j t t' s _ _ hc ⟨.int (g i j),H,I.tok _,⟨_,rfl⟩,q⟩
theorem xhi {f:Value→Value→Sem Value}{g:Int→Int→Int}
  (rule:∀(i j:Int) (t u:Tok) (s:Shared) (Q:Value→Shared→Prop) (E:Value→Shared→Prop),Q (.int (g i j) s.toks) { s with toks:=s.toks+1 }→wpAny (model X.prog X.w) X.A (f (.int i t) (.int j u)) Q E s) :
  OpR X f (rI0 fun i j=>.int (g i j)):=by
 intro pins s σ H x y v u Q I rx ry h
 obtain⟨i,j,rfl,rfl,q⟩:=h
 obtain⟨t,rfl⟩:=rx
 obtain⟨t',rfl⟩:=ry
 exact rule i j t t' s _ _ ⟨.int (g i j),H,I.tok _,⟨_,rfl⟩,q⟩
theorem xf8 {f:Value→Value→Sem Value}{g:Int→Int→Bool}
  (rule:∀(i j:Int) (t u:Tok) (s:Shared) (Q:Value→Shared→Prop) (E:Value→Shared→Prop),Q (.bool (g i j)) s→wpAny (model X.prog X.w) X.A (f (.int i t) (.int j u)) Q E s) :
  OpR X f (rI0 fun i j=>.bl (g i j)):=by
 intro pins s σ H x y v u Q I rx ry h
 obtain⟨i,j,rfl,rfl,q⟩:=h
 obtain⟨t,rfl⟩:=rx
 obtain⟨t',rfl⟩:=ry
 exact rule i j t t' s _ _ ⟨.bl (g i j),H,I,rfl,q⟩
def xf3 (i j:Int):Prop:=0≤j∧j≤1000000∧i.natAbs<2 ^ 64
def xf5 (i j:Int):Prop:=(-(2 ^ 64)<i∧i<2 ^ 64)∨(-(2 ^ 64)<j∧j<2 ^ 64)
theorem xf5.ok {i j:Int}(h:xf5 i j):IntMulOk i j:=by
 rcases h with ⟨h1,h2⟩ | ⟨h1,h2⟩
 ·exact .of_left (intBits_le_64 h1 h2)
 ·exact .of_right (intBits_le_64 h1 h2)
theorem zF:OpR X (binaryOp .Add) (rI0 fun i j=>.int (i+j)):=xhi fun _ _ _ _ _ _ _ q=>add_int q
theorem zA:OpR X (binaryOp .Sub) (rI0 fun i j=>.int (i-j)):=xhi fun _ _ _ _ _ _ _ q=>sub_int q
theorem td:OpR X (binaryOp .Mult) (rI xf5 fun i j=>.int (i*j)):=opI fun _ _ _ _ _ _ _ hc q=>mul_int q hc.ok
theorem se:OpR X (binaryOp .Mod) (rI (fun _ j=>0<j) fun i j=>.int (i % j)):=opI fun i j _ _ _ _ _ hc q=>by
 have h1:(0:Int)<j:=hc
 exact mod_int' (by omega) (by rw[Int.fmod_eq_emod_of_nonneg i (by omega)];exact q)
theorem aI:OpR X (binaryOp .Mod) (rI (fun _ j=>j≠0) fun i j=>.int (i.fmod j)):=opI fun _ _ _ _ _ _ _ hc q=>mod_int' hc q
theorem xap:OpR X (binaryOp .Pow) (rI xf3 fun i j=>.int (i ^ j.toNat)):=opI fun _ _ _ _ _ _ _ hc q=>pow_int_small hc.1 hc.2.1 hc.2.2 q
theorem unI {f:Value→Sem Value}{g:Int→Int}
  (rule:∀(i:Int) (t:Tok) (s:Shared) (Q:Value→Shared→Prop) (E:Value→Shared→Prop),Q (.int (g i) s.toks) { s with toks:=s.toks+1 }→wpAny (model X.prog X.w) X.A (f (.int i t)) Q E s) :
  UnR X f (rU fun i=>.int (g i)):=by
 intro pins s σ H x v Q I rx h
 obtain⟨i,rfl,q⟩:=h
 obtain⟨t,rfl⟩:=rx
 exact rule i t s _ _ ⟨.int (g i),H,I.tok _,⟨_,rfl⟩,q⟩
theorem zq:UnR X (unaryOp .USub) (rU fun i=>.int (-i)):=unI fun _ _ _ _ _ q=>neg_int q
end
section
variable {X:Cx} {a b c:Expr} {ta tb tc:TE} {pos:Pos}
theorem xeU:OpR X (compareOp .Lt) (rI0 fun i j=>.bl (decide (i<j))):=xf8 fun _ _ _ _ _ _ _ q=>lt_int q
theorem hV:OpR X (compareOp .LtE) (rI0 fun i j=>.bl (decide (i≤j))):=xf8 fun _ _ _ _ _ _ _ q=>le_int q
theorem xa4:OpR X (compareOp .Gt) (rI0 fun i j=>.bl (decide (j<i))):=xf8 fun _ _ _ _ _ _ _ q=>gt_int q
theorem xgK:OpR X (compareOp .GtE) (rI0 fun i j=>.bl (decide (j≤i))):=xf8 fun _ _ _ _ _ _ _ q=>ge_int q
theorem OpR.or {f:Value→Value→Sem Value}{r r':R2}(h:OpR X f r)(h':OpR X f r'):OpR X f (fun x y H Q=>r x y H Q∨r' x y H Q):=by
 intro pins s σ H x y v u Q I rx ry q
 rcases q with q | q
 ·exact @h pins s σ H x y v u Q I rx ry q
 ·exact @h' pins s σ H x y v u Q I rx ry q
theorem yf (b:Expr){op:CmpOp}(h:op≠.In:=by decide)(h2:op≠.NotIn:=by decide):behindInMarks op b=false:=by
 have e1:(op == CmpOp.In)=false:=by cases op<;>first | rfl | exact absurd rfl h
 have e2:(op == CmpOp.NotIn)=false:=by cases op<;>first | rfl | exact absurd rfl h2
 cases b<;>simp[behindInMarks,e1,e2]
theorem zZ {op:CmpOp}{r:R2}(ho:OpR X (compareOp op) r)(ha:PE X a ta)(hb:PE X b tb)(hm:behindInMarks op b=false):PE X (.Compare a [op] [b] pos) (tOp r ta tb):=by
 intro pins s σ H Q I h
 exact wpAny_Compare1 (xgO ha hb I h fun v u s2 x y H2 I2 rx ry q=>@ho pins s2 σ H2 x y v u Q I2 rx ry q) hm
def xdv (t:TE):TT:=fun σ H Q=>t σ H fun x H'=>∃k,x=.bl k∧Q k H'
theorem yg {op:CmpOp}{r:R2}(ho:OpR X (compareOp op) r)(ha:PE X a ta)(hb:PE X b tb)(hm:behindInMarks op b=false):PT X (.Compare a [op] [b] pos) (xdv (tOp r ta tb)):=by
 intro pins s σ H Q I h
 refine wpAny_isTrue_Compare1 (thn (@ha pins s σ H _ I h) fun v s1 ⟨x,H1,I1,r1,q1⟩=>thn (@hb pins s1 σ H1 _ I1 q1) fun u s2 ⟨y,H2,I2,r2,q2⟩ =>
  thn (@ho pins s2 σ H2 x y v u _ I2 r1 r2 q2) fun c s3 ⟨z,H3,I3,r3,k,e,q3⟩=>?_) hm
 subst e
 cases r3
 exact wpAny_truthy_bool ⟨H3,I3,q3⟩
def xcH (r r':R2)(ta tb tc:TE):TE:=fun σ H Q=>ta σ H fun x H1=>tb σ H1 fun y H2=>r x y H2 fun z H3=>∃k,z=.bl k ∧
 (if k=true then tc σ H3 fun w' H4=>r' y w' H4 Q else Q (.bl false) H3)
theorem gA {op op':CmpOp}{r r':R2}(ho:OpR X (compareOp op) r)(ho':OpR X (compareOp op') r')(ha:PE X a ta)(hb:PE X b tb)(hc:PE X c tc)
  (hm:lastMarks [op,op'] [b,c]=false:=by with_unfolding_all rfl):PT X (.Compare a [op,op'] [b,c] pos) (xdv (xcH r r' ta tb tc)):=by
 intro pins s σ H Q I h
 refine isTrue_chain (thn (@ha pins s σ H _ I h) fun v s1 ⟨x,H1,I1,r1,q1⟩=>test_link (thn (@hb pins s1 σ H1 _ I1 q1) fun u s2 ⟨y,H2,I2,r2,q2⟩ =>
  thn (@ho pins s2 σ H2 x y v u _ I2 r1 r2 q2) fun d s3 ⟨z,H3,I3,r3,k,e,q3⟩=>?_)) hm
 subst e
 cases r3
 refine wpAny_truthy_bool ?_
 cases k with
 | false =>
  obtain⟨k',e',q'⟩:=q3
  cases e'
  exact ite_ff ⟨H3,I3,q'⟩
 | true =>
  refine ite_tt (test_last (thn (@hc pins s3 σ H3 _ I3 q3) fun w' s4 ⟨z',H4,I4,r4,q4⟩=>thn (@ho' pins s4 σ H4 y z' u w' _ I4 r2 r4 q4) fun d' s5 ⟨z2,H5,I5,r5,k2,e2,q5⟩=>?_))
  subst e2
  cases r5
  exact wpAny_truthy_bool ⟨H5,I5,q5⟩
theorem rB:(sizeLine:Nat)<2 ^ 63:=by rw[sizeLine_eq];decide
theorem vals1 {x:V}{us:List Value}(r:yS [x] us):∃u,us=[u]∧RelV x u:=by
 cases r with
 | cons r1 r2=>cases r2;exact⟨_,rfl,r1⟩
theorem vals2 {x y:V}{us:List Value}(r:yS [x,y] us):∃u w',us=[u,w']∧RelV x u∧RelV y w':=by
 cases r with
 | cons r1 r2 =>
  cases r2 with
  | cons r3 r4=>cases r4;exact⟨_,_,rfl,r1,r3⟩
theorem wX:vJ X (.builtin "abs") (fun xs H Q=>∃i,xs=[.int i]∧Q (.int (if i<0 then -i else i)) H):=by
 intro pins s σ H xs us Q I r h
 obtain⟨i,rfl,q⟩:=h
 obtain⟨u,rfl,t,rfl⟩:=vals1 r
 exact call_abs_int fun u tk=>⟨.int (if i<0 then -i else i),H,I.tok _,⟨_,rfl⟩,q⟩
theorem xaT (hc:X.calm=true):vJ X (.builtin "max") (fun xs H Q=>∃i j,xs=[.int i,.int j]∧Q (.int (if j>i then j else i)) H):=by
 intro pins s σ H xs us Q I r h
 obtain⟨i,j,rfl,q⟩:=h
 obtain⟨u,w',rfl,⟨t,rfl⟩,⟨t',rfl⟩⟩:=vals2 r
 refine max_two_ints (I.ok.hd hc) fun h' tk k=>⟨_,H,I.kept k,?_,q⟩
 by_cases hj:j>i
 ·rw[if_pos hj,if_pos hj];exact⟨_,rfl⟩
 ·rw[if_neg hj,if_neg hj];exact⟨_,rfl⟩
theorem lH (hc:X.calm=true):vJ X (.builtin "min") (fun xs H Q=>∃i j,xs=[.int i,.int j]∧Q (.int (if j<i then j else i)) H):=by
 intro pins s σ H xs us Q I r h
 obtain⟨i,j,rfl,q⟩:=h
 obtain⟨u,w',rfl,⟨t,rfl⟩,⟨t',rfl⟩⟩:=vals2 r
 refine min_two_ints (I.ok.hd hc) fun h' tk k=>⟨_,H,I.kept k,?_,q⟩
 by_cases hj:j<i
 ·rw[if_pos hj,if_pos hj];exact⟨_,rfl⟩
 ·rw[if_neg hj,if_neg hj];exact⟨_,rfl⟩
end
end L2
namespace L2
open PySem PySem.Spec PyProof.Rows
structure xgg (h:Heap)(x dx C:Addr)(mA:Str→Option Value):Prop where
 obj:h.get? x=some (PySem.W.instObj C dx)
 ns:h.Ns1 dx mA
 ne:dx≠x
theorem oX {h:Heap}{dx:Addr}{mA:Str→Option Value}(n:h.Ns1 dx mA):∃od,h.get? dx=some od∧∀name,PySem.W.lookIn name od=some (mA name):=by
 obtain⟨o,es,ep,ho,hd,hk,_,hm⟩:=n
 refine⟨o,ho,fun name=>?_⟩
 have e:=hm name
 unfold nsFind findBy at e
 rw[←Array.find?_toList] at e
 unfold PySem.W.lookIn
 rw[hd]
 dsimp only
 split
 ·rename_i y q
  rw[q] at e
  exact xj0 some e
 ·rename_i q
  rw[q] at e
  have a:es.toList.any (·.refKey)=false:=by
   rw[List.any_eq_false]
   intro y hy
   obtain⟨z,t,hkey⟩:=hk y (Array.mem_toList_iff.mp hy)
   simp[DictEntry.refKey,hkey]
  have a':¬es.toList.any (·.refKey)=true:=by rw[a];exact xhZ
  rw[if_neg a']
  exact xj0 some e
theorem xgg.look {h:Heap}{x dx C:Addr}{mA:Str→Option Value}(I:xgg h x dx C mA):∃od,PySem.W.InstAt h x (PySem.W.instObj C dx) C (some od)∧∀name,PySem.W.lookIn name od=some (mA name) :=
 let ⟨od,ho,hl⟩:=oX I.ns
 ⟨od,⟨I.obj,rfl,rfl,ho⟩,hl⟩
section
variable {prog:Program} {w:World} {A:Around} {E:Value→Shared→Prop} {s:Shared} {K:PySem.W.Frag} {x dx C f:Addr} {mA:Str→Option Value} {name:Str} {v:Value}
end
section
variable {P:Program} {w:World} {H H':Hp} {h h':Heap} {a C dx:Addr} {fs fs':List (Str×V)}
theorem xc5 (hok:HOk P w H h)(e:H a=some (.ins C dx fs)):∃mA,xgg h a dx C mA∧(∀f,xgl (fs.lookup f) (mA f))∧PySem.Within mA (fs.map (·.1))∧fs.length≤1000∧H dx=some (.own a):=by
 obtain⟨d,z,ne,ob,mA,n,r,q⟩:=(show zV P w H h a (.ins C dx fs) from hok a _ e)
 exact⟨mA,⟨ob,n,ne⟩,r,q,z,d⟩
end
structure Cls (K:PySem.W.Frag)(C:Addr):Prop where
 pg:PySem.W.plainGet K C Str.empty=true
 hd:PySem.W.hasDictIn K C=true
 po:PySem.W.plainOver K C=true
 sa:PySem.W.findIn K (.ref C) "__setattr__" = some (some (.builtin "object.__setattr__"))
theorem Cls.get {K:PySem.W.Frag}{C:Addr}(c:Cls K C)(f:Str):PySem.W.plainGet K C f=true:=c.pg
section
variable {X:Cx} {pins:List (Addr×Obj)} {σ:St} {H:Hp} {s:Shared} {a C dx:Addr} {fs:List (Str×V)} {f:Str} {v:V} {A:Around} {E:Value→Shared→Prop}
end
section
variable {X:Cx} {o e value:Expr} {f:Str} {pos pos' tpos:Pos} {ta tv:TE}
end
section
variable {X:Cx} {pins:List (Addr×Obj)} {σ:St} {H:Hp} {s:Shared} {A:Around} {E:Value→Shared→Prop} {Q:Value→Shared→Prop} {c:Value} {b:Bool}
inductive oi (K:PySem.W.Frag)(H:Hp):V→Value→Prop where
 | non:oi K H .non (.type "NoneType")
 | bl (x:Bool):oi K H (.bl x) (.type "bool")
 | int (i:Int):oi K H (.int i) (.type "int")
 | str (x:Str):oi K H (.str x) (.type "str")
 | flt (x:UInt64):oi K H (.flt x) (.type "float")
 | lst {a:Addr} {xs:List V} (e:H a=some (.lst xs)):oi K H (.ref a) (.type "list")
 | frz {a:Addr} {o:Obj} {xs:List V} (e:H a=some (.frz o (.lst xs))):oi K H (.ref a) (.type "list")
 | tup {a:Addr} {xs:List V} (e:H a=some (.tup xs)):oi K H (.ref a) (.type "tuple")
 | dK {a:Addr} {kvs:List (Key×V)} (e:H a=some (.dK kvs)):oi K H (.ref a) (.type "dict")
 | dT {a:Addr} {kvs:List (List Key×V)} (e:H a=some (.dT kvs)):oi K H (.ref a) (.type "dict")
 | ins {a C dx:Addr} {fs:List (Str×V)} (e:H a=some (.ins C dx fs)) (cl:Cls K C) (ha:PySem.W.findIn K (.ref C) "__class__" = some (some (.builtin "object.__class__")))
   (hn:PySem.W.specialIn K (.builtin "object.__class__") "__get__" = some (some (.builtin "getset_descriptor.__get__"))) (htk:PySem.W.takesIn K (.builtin "object.__class__")=some true)
   (hm:PySem.W.mroIn K C (.type "object")=some true):oi K H (.ref a) (.ref C)
theorem xaS {x:V}{u t:Value}(I:Inv X pins σ H s)(rx:RelV x u)(ty:oi X.K H x t)(e:PySem.W.kitOne X.K t c=some b)(h:∀tk,Q (.bool b) { s with toks:=tk }) :
  wpAny (model X.prog X.w) A (call (.builtin "isinstance") [u,c]) Q E s:=by
 cases ty with
 | non=>cases (show u=Value.none from rx);exact PySem.W.kia_one PySem.W.kitx_none I.kIn True.intro e (fun z=>nomatch z) h
 | bl y=>cases (show u=Value.bool y from rx);exact PySem.W.kia_one PySem.W.kitx_bool I.kIn True.intro e (fun z=>nomatch z) h
 | int i=>obtain⟨t,q⟩:=(show ∃t,u=Value.int i t from rx);cases q;exact PySem.W.kia_one PySem.W.kitx_int I.kIn True.intro e (fun z=>nomatch z) h
 | str y=>obtain⟨t,q⟩:=(show ∃t,u=Value.str y t from rx);cases q;exact PySem.W.kia_one PySem.W.kitx_str I.kIn True.intro e (fun z=>nomatch z) h
 | flt y=>obtain⟨t,q⟩:=(show ∃t,u=Value.float y t from rx);cases q;exact PySem.W.kia_one PySem.W.kitx_float I.kIn True.intro e (fun z=>nomatch z) h
 | @lst a xs ea =>
  cases (show u=Value.ref a from rx)
  obtain⟨_,_,n,_,h1⟩:=(show zV X.prog X.w H s.heap a (.lst xs) from I.hok a _ ea)
  exact PySem.W.kia_one PySem.W.kitx_list I.kIn ⟨_,h1,rfl⟩ e (fun z=>nomatch z) h
 | @frz a ob xs ea =>
  cases (show u=Value.ref a from rx)
  obtain⟨_,_,_,n,_,h1⟩:=(show zV X.prog X.w H s.heap a (.frz ob (.lst xs)) from I.hok a _ ea)
  exact PySem.W.kia_one PySem.W.kitx_list I.kIn ⟨_,h1,rfl⟩ e (fun z=>nomatch z) h
 | @tup a xs ea =>
  cases (show u=Value.ref a from rx)
  obtain⟨_,_,_,p⟩:=(show zV X.prog X.w H s.heap a (.tup xs) from I.hok a _ ea)
  obtain⟨o,h1,h2,_⟩:=p
  exact PySem.W.kia_one PySem.W.kitx_tuple I.kIn ⟨o,h1,h2⟩ e (fun z=>nomatch z) h
 | @dK a kvs ea =>
  cases (show u=Value.ref a from rx)
  obtain⟨_,_,vs,_,p⟩:=(show zV X.prog X.w H s.heap a (.dK kvs) from I.hok a _ ea)
  obtain⟨o,es,ep,h1,h2,_⟩:=p
  exact PySem.W.kia_one PySem.W.kitx_dict I.kIn ⟨o,h1,h2.1⟩ e (fun z=>nomatch z) h
 | @dT a kvs ea =>
  cases (show u=Value.ref a from rx)
  obtain⟨_,_,xs,_,o,es,ep,h1,h2,_⟩:=(show zV X.prog X.w H s.heap a (.dT kvs) from I.hok a _ ea)
  exact PySem.W.kia_one PySem.W.kitx_dict I.kIn ⟨o,h1,h2.1⟩ e (fun z=>nomatch z) h
 | @ins a C dx fs ea cl ha hn htk hm =>
  cases (show u=Value.ref a from rx)
  obtain⟨mA,O,_⟩:=xc5 I.hok ea
  obtain⟨od,J,_⟩:=O.look
  exact PySem.W.kia_one (PySem.W.kitx_own (cl.get _) cl.hd ha hn htk hm) I.kIn J e (fun z=>nomatch z) h
end
end L2
namespace L2
open PySem PySem.Spec PyProof.Rows
structure qZ (k:Nat)(A:Around):Prop where
 hd:A.handled=none
 dp:A.depth+3*k+5<recursionLimit
 un:A.units+16*k+200<cLine
theorem qZ.mono {j k:Nat}{A:Around}(r:qZ k A)(h:j≤k):qZ j A:=⟨r.hd,by have:=r.dp;omega,by have:=r.un;omega⟩
theorem qZ.deeper {k:Nat}{A:Around}(r:qZ (k+1) A)(env:Env):qZ k (A.deeper env) :=
 ⟨r.hd,by have:=r.dp;show A.depth+1+3*k+5<_;omega,by have:=r.un;show A.units+3+16*k+200<_;omega⟩
theorem qZ.depth {k:Nat}{A:Around}(r:qZ k A):A.depth<recursionLimit:=by have:=r.dp;omega
theorem qZ.units {k:Nat}{A:Around}(r:qZ k A):A.units+64<cLine:=by have:=r.un;omega
def nu:TA:=fun _ H Q=>Q [] H
def wK (ta:TE)(tr:TA):TA:=fun σ H Q=>ta σ H fun x H1=>tr σ H1 fun xs H2=>Q (x::xs) H2
section
variable {X:Cx} {e:Expr} {es:List Expr} {te:TE} {t:TA} {pos:Pos}
theorem ui:PA X [] nu:=fun _ _ _ _ H Q I h=>Calls.spliced_nil ⟨[],H,I,.nil,h⟩
theorem xR (ha:PE X e te)(hr:PA X es t)(hs:starEach (e::es) X.env=(false,eval e X.env)::starEach es X.env:=by rfl):PA X (e::es) (wK te t):=by
 intro pos pins s σ H Q I h
 rw[hs]
 show wpAny _ _ (spliced ((false,eval e X.env)::backTo pos (starEach es X.env))) _ _ s
 refine Calls.spliced_cons (thn (@ha pins s σ H _ I h) fun u s1 ⟨x,H1,I1,r1,q1⟩=>?_)
 exact thn (@hr pos pins s1 σ H1 _ I1 q1) fun us s2 ⟨xs,H2,I2,r2,q2⟩=>⟨x::xs,H2,I2,.cons r1 r2,q2⟩
def xgC (t:TA):TE:=fun σ H Q=>t σ H fun xs H1=>xs.length≤sizeLine∧∀p,H1 p=none→Q (.ref p) (upd H1 p (.tup xs))
def xgI (t:TA):TE:=fun σ H Q=>t σ H fun xs H1=>xs.length≤sizeLine∧∀p,H1 p=none→Q (.ref p) (upd H1 p (.lst xs))
theorem ym {x1}(h:PA X es t):PE X (.Tuple es x1 pos) (xgC t):=by
 intro pins s σ H Q I hq
 refine wpAny_Tuple_spliced (thn (@h pos pins s σ H _ I hq) fun us s1 ⟨xs,H1,I1,r,z,q⟩=>⟨by rw[←r.length];exact z,?_⟩)
 have hf:H1 s1.heap.objs.size=none:=I1.hok.fresh (xjK _)
 refine⟨.ref s1.heap.objs.size,upd H1 s1.heap.objs.size (.tup xs),I1.laid (t':=s1.toks) (fun b u e=>Heap.get?_push_of_some _ e) (xjK _) ?_,rfl,q _ hf⟩
 exact⟨z,us,r,⟨_,Heap.get?_push_size _ rfl,rfl,_,rfl⟩⟩
theorem yU (h:PA X es t):PE X (.List es pos) (xgI t):=by
 intro pins s σ H Q I hq
 refine wpAny_List_spliced (thn (@h pos pins s σ H _ I hq) fun us s1 ⟨xs,H1,I1,r,z,q⟩=>⟨by rw[←r.length];exact z,?_⟩)
 have hf:H1 s1.heap.objs.size=none:=I1.hok.fresh (xjK _)
 refine⟨.ref s1.heap.objs.size,upd H1 s1.heap.objs.size (.lst xs),I1.laid (t':=s1.toks) (fun b u e=>Heap.get?_push_of_some _ e) (xjK _) ?_,rfl,q _ hf⟩
 exact⟨z,us,0,r,Heap.get?_push_size _ rfl⟩
end
abbrev Sp:=List V→Hp→VK→XK→Prop
abbrev CXT:=List Env→Hp→Shared→XK→Value→Shared→Prop
structure xbV (P:Program)(w:World)(K:PySem.W.Frag)(mg:Str→Option Value)(base:Heap)(A:Around)(outer:List Env)(s:Shared)(H:Hp):Prop where
 frames:A.frames=some outer
 mod:Mod K mg base
 bs:∀b o,base.get? b=some o→s.heap.get? b=some o∧H b=none
 bsz:base.objs.size≤s.heap.objs.size
 funs:s.heap.FunFrames base outer
 frf:∀b∈frs outer,H b=none
 hok:HOk P w H s.heap
 bare:AllBare s.gens
def CE (outer:List Env)(P:Program)(w:World)(H:Hp)(s:Shared)(Q:VK)(u:Value)(s':Shared):Prop :=
 ∃v H',s'.os=s.os∧AllBare s'.gens∧Un (frs outer) [] H H' s.heap s'.heap∧HOk P w H' s'.heap∧RelV v u∧Q v H'
def CR (CX:CXT)(outer:List Env)(P:Program)(w:World)(H:Hp)(s:Shared)(Q:VK)(E:XK)(r:Result)(s':Shared):Prop :=
 match r with
 | .ok (.ret u)=>CE outer P w H s Q u s'
 | .ok _=>False
 | .error e=>CX outer H s E e s'
structure dz (P:Program)(w:World)(K:PySem.W.Frag)(mg:Str→Option Value)(base:Heap)(CX:CXT)(k:Nat)(f:Addr)(fd:FuncData)(ps:List Str)(sp:Sp):Prop where
 len:∀vs H Q E,sp vs H Q E→vs.length=ps.length
 run:∀(A:Around) (outer:List Env) (s:Shared) (H:Hp) (args:Args) (us:List Value) (vs:List V) (Q:VK) (E:XK),qZ k A→xbV P w K mg base A outer s H→BindsTo s fd args (ps.zip us)→yS vs us→sp vs H Q E →
  codeAny (model P w) A (.call (.ref f) args) (CR CX outer P w H s Q E) s
theorem dz.mono {P:Program}{w:World}{K:PySem.W.Frag}{mg:Str→Option Value}{base:Heap}{CX:CXT}{j k:Nat}{f:Addr}{fd:FuncData}{ps:List Str}{sp:Sp}(F:dz P w K mg base CX j f fd ps sp)(h:j≤k) :
  dz P w K mg base CX k f fd ps sp:=⟨F.len,fun A outer s H args us vs Q E hr=>F.run A outer s H args us vs Q E (hr.mono h)⟩
theorem dz.imp {P:Program}{w:World}{K:PySem.W.Frag}{mg:Str→Option Value}{base:Heap}{CX:CXT}{k:Nat}{f:Addr}{fd:FuncData}{ps:List Str}{sp sp':Sp}(F:dz P w K mg base CX k f fd ps sp)
  (h:∀vs H Q E,sp' vs H Q E→sp vs H Q E):dz P w K mg base CX k f fd ps sp' :=
 ⟨fun vs H Q E q=>F.len vs H Q E (h _ _ _ _ q),fun A outer s H args us vs Q E hr he hb hv hs=>F.run A outer s H args us vs Q E hr he hb hv (h _ _ _ _ hs)⟩
section
variable {X:Cx} {pins:List (Addr×Obj)} {σ:St} {H:Hp} {s s':Shared}
theorem Inv.env0 (I:Inv X pins σ H s):xbV X.prog X.w X.K X.mg X.base X.A X.stack s H :=
 ⟨I.ok.frames,I.ok.mod,I.bs,xjM I.ok.bsz I.sz,I.stack,I.stkFree,I.hok,I.bare⟩
theorem Inv.after {Q:VK}{u:Value}(I:Inv X pins σ H s)(h:CE X.stack X.prog X.w H s Q u s'):EP X pins σ Q u s':=by
 obtain⟨v,H',os,bare,un,hok,r,q⟩:=h
 obtain⟨hh,g,d,t,os'⟩:=s'
 obtain rfl:os'=s.os:=os
 exact⟨v,H',I.call (h':=hh) (g':=g) (d':=d) (t':=t) (ch:=[]) un hok bare (fun b z=>absurd z (by simp)),r,q⟩
end
def xgn (sp:Sp)(dvs:List V)(E:XK)(t:TA):TE:=fun σ H Q=>t σ H fun vs H1=>sp (vs++dvs) H1 Q E
def Binds (K:PySem.W.Frag)(fd:FuncData)(ps:List Str)(ds:List Value):Prop :=
 ∀(s:Shared) (us:List Value),K.In s.heap→(us++ds).length=ps.length→BindsTo s fd ⟨us,[]⟩ (ps.zip (us++ds))
theorem Binds.all {K:PySem.W.Frag}{fd:FuncData}{ps:List Str}(h:∀us:List Value,us.length=ps.length→bindArgs fd ⟨us,[]⟩=pure (ps.zip us)):Binds K fd ps []:=fun s us _ hl=>by
 rw[xiz] at hl ⊢
 exact .of_eq (h us hl)
def ft (CX:CXT)(X:Cx)(E:XK):Prop:=∀(pins:List (Addr×Obj)) (σ:St) (H:Hp) (s:Shared) (e:Value) (s':Shared),Inv X pins σ H s→CX X.stack H s E e s'→X.xe e s'
section
variable {X:Cx} {CX:CXT} {k:Nat} {f C:Addr} {fd:FuncData} {ps:List Str} {sp:Sp} {dvs:List V} {ds:List Value} {E:XK} {x m:Str} {p pos apos:Pos} {e o:Expr} {es:List Expr} {ta:TE} {t:TA}
theorem xfD {pins:List (Addr×Obj)}{σ:St}{H:Hp}{s:Shared}{Q:VK}{us:List Value}{vs:List V}(F:dz X.prog X.w X.K X.mg X.base CX k f fd ps sp)(hr:qZ k X.A)(hb:Binds X.K fd ps ds)(hd:yS dvs ds)(hx:ft CX X E)
  (I:Inv X pins σ H s) (r:yS vs us) (h:sp (vs++dvs) H Q E):wpAny (model X.prog X.w) X.A (call (.ref f) us) (EP X pins σ Q) X.xe s:=by
 have r2:yS (vs++dvs) (us++ds):=r.append hd
 have hl:(us++ds).length=ps.length:=by rw[←r2.length];exact F.len _ _ _ _ h
 refine wpAny_call (codeAny_mono (F.run X.A X.stack s H ⟨us,[]⟩ (us++ds) (vs++dvs) Q E hr I.env0 (hb s us I.kIn hl) r2 h) fun r s' hq=>?_)
 cases r with
 | error e=>exact hx pins σ H s e s' I hq
 | ok fl =>
  cases fl with
  | ret u=>exact I.after hq
  | next=>exact False.elim hq
  | brk=>exact False.elim hq
  | cont=>exact False.elim hq
theorem xah (F:dz X.prog X.w X.K X.mg X.base CX k f fd ps sp)(hr:qZ k X.A)(hg:Gl X x)(hm:X.mg x=some (.ref f))(hk:PySem.W.keepIn X.K (.ref f)=true)(hb:Binds X.K fd ps ds)(hd:yS dvs ds)(hx:ft CX X E)
  (ha:PA X (e::es) t) (hdb:(x == ("__debug__" : Str))=false:=by decide) (he:starEach (e::es) X.env=(false,eval e X.env)::starEach es X.env:=by rfl) (hpl:(backTo pos (starEach es X.env)).any (·.1)=false:=by rfl) :
  PE X (.Call (.Name x p) (e::es) [] pos) (xgn sp dvs E t):=by
 intro pins s σ H Q I h
 refine wpAny_Call_Name_kw (gT I hg hm ?_ hdb)
 refine PySem.W.callWith_K (h₀:=X.base) I.ok.mod.kin hk (thn (@ha pos pins s σ H _ I h) fun us s1 ⟨vs,H1,I1,r,q⟩=>⟨I1.kIn,?_⟩) he hpl
 exact xfD F hr hb hd hx I1 r q
end
section
variable {X:Cx} {CX:CXT} {k:Nat} {f C:Addr} {fd:FuncData} {ps ks:List Str} {sp:Sp} {E:XK} {x m:Str} {p pos apos kpos:Pos} {e o:Expr} {es:List Expr} {kws:List Keyword} {te ta:TE} {t tk:TA} {nm:Option Str}
variable {g:List Value→List Value→List Value} {gV:List V→List V→List V}
end
structure xA (N P:List Str)(sc:Scope):Prop where
 kind:sc.kind=.function
 co:sc.isCoroutine=false
 gen:sc.isGenerator=false
 nd:N.Nodup
 pre:N.take P.length=P
 par:∀x∈P,sc.names.lookup x=some .local∨sc.names.lookup x=some .cell
 nofree:∀y∈sc.names,y.2≠.free
theorem tD {kindOf:Str→Option NameKind}{x:Str}:∀ {binds:List (Str×Value)} {m:Str→Option Value},(∀v,(x,v)∉binds)→bindL kindOf binds m x=m x
 | [],_,_=>rfl
 | (n,v)::r,m,h=>by
  unfold bindL
  rw[tD fun w hw=>h w (xjg _ hw)]
  split
  ·have:x≠n:=by rintro rfl;exact h v xjh
   simp[this]
  ·rfl
theorem tM {kindOf:Str→Option NameKind}{x:Str}:∀ {binds:List (Str×Value)} {m:Str→Option Value},(∀v,(x,v)∉binds)→bindC kindOf binds m x=m x
 | [],_,_=>rfl
 | (n,v)::r,m,h=>by
  unfold bindC
  rw[tM fun w hw=>h w (xjg _ hw)]
  split
  ·rfl
  ·have:x≠n:=by rintro rfl;exact h v xjh
   simp[this]
theorem rA {kindOf:Str→Option NameKind}{x:Str}{v:Value}:∀ {P:List Str} {vs:List Value} {i:Nat} {m:Str→Option Value},P.Nodup→P[i]? = some x→vs[i]? = some v→kindOf x=some .local →
  bindL kindOf (P.zip vs) m x=some v
 | [],_,_,_,_,h,_,_=>by simp at h
 | _::_,[],_,_,_,_,h,_=>by simp at h
 | p::P,w::vs,0,m,nd,h1,h2,hk=>by
  simp at h1 h2;subst h1;subst h2
  show bindL kindOf ((p,w)::P.zip vs) m p=_
  unfold bindL
  rw[tD fun v hv=>(xju.mp nd).1 (List.of_mem_zip hv).1,if_pos hk]
  simp
 | p::P,w::vs,i+1,m,nd,h1,h2,hk=>by
  show bindL kindOf ((p,w)::P.zip vs) m x=_
  unfold bindL
  exact rA (i:=i) (xju.mp nd).2 (by simpa using h1) (by simpa using h2) hk
theorem rE {kindOf:Str→Option NameKind}{x:Str}{v:Value}:∀ {P:List Str} {vs:List Value} {i:Nat} {m:Str→Option Value},P.Nodup→P[i]? = some x→vs[i]? = some v→kindOf x≠some .local →
  bindC kindOf (P.zip vs) m x=some v
 | [],_,_,_,_,h,_,_=>by simp at h
 | _::_,[],_,_,_,_,h,_=>by simp at h
 | p::P,w::vs,0,m,nd,h1,h2,hk=>by
  simp at h1 h2;subst h1;subst h2
  show bindC kindOf ((p,w)::P.zip vs) m p=_
  unfold bindC
  rw[tM fun v hv=>(xju.mp nd).1 (List.of_mem_zip hv).1,if_neg hk]
  simp
 | p::P,w::vs,i+1,m,nd,h1,h2,hk=>by
  show bindC kindOf ((p,w)::P.zip vs) m x=_
  unfold bindC
  exact rE (i:=i) (xju.mp nd).2 (by simpa using h1) (by simpa using h2) hk
def start (N:List Str)(vs:List V):St:=vs.map some++List.replicate (N.length-vs.length) none
def gc (CX:CXT)(P:Program)(w:World)(K:PySem.W.Frag)(mg:Str→Option Value)(base:Heap)(N:List Str)(qual:Str)(scope:Scope)(f:Addr)(cd:Value)(A:Around)(outer:List Env)(s:Shared)(H:Hp)(E:XK):Cx where
 prog:=P
 w:=w
 K:=K
 mg:=mg
 base:=base
 A:=A.deeper (envOfC qual scope s.heap.objs.size f cd)
 N:=N
 s₀:=s
 H₀:=H
 env:=envOfC qual scope s.heap.objs.size f cd
 outer:=outer
 stack:=envOfC qual scope s.heap.objs.size f cd::outer
 ex:=[]
 calm:=true
 fn:=fun _=>true
 pn:=[]
 xe:=fun e s'=>wpAny (model P w) (A.deeper (envOfC qual scope s.heap.objs.size f cd)) (leaving (envOfC qual scope s.heap.objs.size f cd) e) (fun _ s''=>CX outer H s E e s'') (fun e' s''=>CX outer H s E e' s'') s'
theorem cO {sc:Scope}{n:Nat}{x:Str}(h:sc.names.lookup x=some .cell):∃c,(cellsFrom n sc.names []).lookup x=some c:=by
 have q:=PySem.W.cellsFrom_some sc.names n [] (.inl h)
 exact Option.isSome_iff_exists.mp q
theorem lx {CX:CXT}{P:Program}{w:World}{K:PySem.W.Frag}{mg:Str→Option Value}{base:Heap}{N ps:List Str}{qual:Str}{scope:Scope}{f:Addr}{cd:Value}{A:Around}{outer:List Env}{s s1:Shared}{H:Hp}{E:XK}{us:List Value}{vs:List V}
  (S:xA N ps scope) (hd:A.handled=none) (e0:xbV P w K mg base A outer s H) (hl:vs.length=ps.length) (r:yS vs us)
  (x:InCallC s s.heap.objs.size (bindL (envOfC qual scope s.heap.objs.size f cd).kindOf (ps.zip us) fun _=>none) (cellsFrom (s.heap.objs.size+1) scope.names []) (bindC (envOfC qual scope s.heap.objs.size f cd).kindOf (ps.zip us) fun _=>none) s1) :
  Inv (gc CX P w K mg base N qual scope f cd A outer s H E) [] (start N vs) H s1:=by
 have hpl:ps.length≤N.length:=by have:=xj0 List.length S.pre;rw[xi6] at this;omega
 obtain⟨h1,tk,rfl,hk⟩:=x.done
 have noA:∀b:Addr,b∉(gc CX P w K mg base N qual scope f cd A outer s H E).ex:=fun b z=>absurd (show b∈([]:List Addr) from z) (by simp)
 refine⟨⟨e0.mod,S.kind,rfl,rfl,xjK _,fun y z c h1 h2=>?_,fun y hy=>?_,fun y c _ h=>?_,fun _=>hd,Around.frames_deeper e0.frames,.inr ⟨rfl,rfl⟩,fun b z=>absurd z (noA b),e0.bs,e0.bsz,fun b _ _=>noA b,fun b z=>absurd z (noA b),e0.funs,e0.frf⟩,
  rfl,e0.bare,Un.kept hk,⟨_,x.toInCall.ns,fun i y v h1 h2 h3=>?_⟩,fun y c h=>⟨_,x.cell y c h⟩,e0.hok.fresh (xjK _),fun y c h=>?_,fun p hp=>absurd (show p∈([]:List (Addr×Obj)) from hp) (by simp),e0.hok.kept hk,?_⟩
 ·exact name_of_addr x.apart (PySem.mem_of_lookup h1) (PySem.mem_of_lookup h2)
 ·have hy:scope.names.lookup y=some .cell∨scope.names.lookup y=some .free:=hy
  rcases hy with hy | hy
  ·exact cO hy
  ·exact absurd rfl (S.nofree _ (PySem.mem_of_lookup hy))
 ·exact xjJ (x.above y c (PySem.mem_of_lookup h))
 ·have hi:i<vs.length:=by
   unfold start at h2
   by_cases hi:i<vs.length
   ·exact hi
   ·rw[List.getElem?_append_right (by simpa using hi)] at h2
    rw[List.getElem?_replicate] at h2
    split at h2<;>cases h2
  have ha:vs[i]? = some v:=by
   unfold start at h2
   rw[xiO (by simpa using hi),xiS] at h2
   cases e:vs[i]? with
   | none=>rw[e] at h2;cases h2
   | some a=>rw[e] at h2;cases h2;rfl
  obtain⟨u,hu,rv⟩:=r.get ha
  have hp:ps[i]? = some y:=by
   rw[←S.pre,List.getElem?_take_of_lt (by omega)];exact h1
  have ndP:ps.Nodup:=by rw[←S.pre];exact S.nd.sublist (List.take_sublist _ _)
  refine⟨u,rv,?_⟩
  rcases S.par y (xjn hp) with k | k
  ·exact .inl ⟨k,rA ndP hp hu k⟩
  ·obtain⟨c,e⟩:=cO (n:=s.heap.objs.size+1) k
   refine .inr ⟨.inl k,c,e,?_⟩
   have q:=x.cell y c e
   rw[rE ndP hp hu (by show scope.names.lookup y≠_;rw[k];decide)] at q
   exact q
 ·exact e0.hok.fresh (xjJ (x.above y c (PySem.mem_of_lookup h)))
 ·unfold start
  show _=N.length
  rw[xiW,xi0,xi2]
  omega
theorem xbO {CX:CXT}{P:Program}{w:World}{K:PySem.W.Frag}{mg:Str→Option Value}{base:Heap}{k:Nat}{f:Addr}{name qual:Str}{params:Arguments}{body:List Stmt}{scope:Scope}{dV kV doc pm cdv ct oc:Value}{an od:Option Addr}
  {osl:Array (Option Value)} {N ps:List Str} {sp:Sp} (lk:K.lookup f=some ⟨oc,od,.func (PySem.W.fnOf name qual params body scope dV kV doc pm an cdv ct),osl⟩) (hcd:PySem.W.codeIn K cdv qual=true) (S:xA N ps scope)
  (len:∀vs H Q E,sp vs H Q E→vs.length=ps.length)
  (hbody:∀(A:Around) (outer:List Env) (s:Shared) (H:Hp) (vs:List V) (Q:VK) (E:XK),qZ k (A.deeper (envOfC qual scope s.heap.objs.size f cdv))→sp vs H Q E →
   ∃t,PSs (gc CX P w K mg base N qual scope f cdv A outer s H E) body t∧t { nx:=fun _ H'=>Q .non H',rt:=Q } (start N vs) H) :
  dz P w K mg base CX (k+1) f (PySem.W.fnOf name qual params body scope dV kV doc pm an cdv ct) ps sp:=by
 refine⟨len,fun A outer s H args us vs Q E hr e0 hb r hsp=>?_⟩
 have hl:=len _ _ _ _ hsp
 have KX:K.In s.heap:=e0.mod.kin.keeps fun b o e=>(e0.bs b o e).1
 have lim:s.heap.NoLimit:=e0.mod.nolimit.keeps fun b o e=>(e0.bs b o e).1
 have hkind:∀y∈ps.zip us,scope.names.lookup y.1=some .local∨(scope.names.lookup y.1=some .cell∧((cellsFrom (s.heap.objs.size+1) scope.names []).lookup y.1).isSome=true):=fun⟨n,v⟩ hy=>by
  rcases S.par n (List.of_mem_zip hy).1 with q | q
  ·exact .inl q
  ·exact .inr ⟨q,PySem.W.cellsFrom_some _ _ _ (.inl q)⟩
 refine codeAny_call_function hr.depth (KX _ _ lk) rfl S.co S.gen rfl (PySem.W.codeRec_of KX hcd) (hb _ _ _ _ ?_)
 refine wpAny_newFunctionEnv_cells S.kind hkind fun env he s1 x=>?_
 subst he
 refine⟨lim.keeps x.toInCall.keep,codeAny_func ?_⟩
 obtain⟨t,ht,hq⟩:=hbody A outer s H vs Q E (hr.deeper _) hsp
 have I:Inv (gc CX P w K mg base N qual scope f cdv A outer s H E) [] (start N vs) H s1:=lx S hr.hd e0 hl r x
 refine wpAny_mono (@ht [] s1 (start N vs) H _ I hq) (fun fl s' hs=>?_) fun e s' hs=>hs
 have fin:∀ {σ':St} {H':Hp} {v:V} {u:Value},Inv (gc CX P w K mg base N qual scope f cdv A outer s H E) [] σ' H' s'→RelV v u→Q v H'→CE outer P w H s Q u s' :=
  fun {σ' H' v u} J rv q=>⟨v,H',J.os,J.bare,J.base,J.hok,rv,q⟩
 cases fl with
 | ret u =>
  obtain⟨v,σ',H',J,rv,q⟩:=hs
  exact fin J rv q
 | next =>
  obtain⟨σ',H',J,q⟩:=hs
  exact fin (v:=V.non) (u:=Value.none) J rfl q
 | brk =>
  obtain⟨_,_,_,q⟩:=hs
  exact False.elim q
 | cont =>
  obtain⟨_,_,_,q⟩:=hs
  exact False.elim q
end L2
namespace L2
open PySem PySem.Spec PyProof.Rows
section
variable {X:Cx} {x:Str} {p pos:Pos} {e:Expr} {es:List Expr} {t:TA} {id T:String} {r:List V→Hp→VK→Prop}
def tCB (r:List V→Hp→VK→Prop)(t:TA):TE:=fun σ H Q=>t σ H fun vs H1=>r vs H1 Q
theorem xr (hc:vJ X (.builtin id) r)(hg:Gl X x)(hm:X.mg x=none)(hv:bootBuiltins x=some (.builtin id))(ha:PA X (e::es) t)(hn:x ≠ "__name__" := by decide)(hdb:(x == ("__debug__" : Str))=false:=by decide)
  (he:starEach (e::es) X.env=(false,eval e X.env)::starEach es X.env:=by rfl) (hpl:(backTo pos (starEach es X.env)).any (·.1)=false:=by rfl):PE X (.Call (.Name x p) (e::es) [] pos) (tCB r t):=by
 intro pins s σ H Q I h
 refine wpAny_Call_Name_kw (dq I hg hm hv ?_ hn hdb)
 exact PyProof.Rows.callWith_builtin1 (thn (@ha pos pins s σ H _ I h) fun us s1 ⟨vs,H1,I1,r1,q1⟩=>@hc pins s1 σ H1 vs us Q I1 r1 q1) he hpl
theorem qy (hc:vJ X (.type T) r)(hg:Gl X x)(hm:X.mg x=none)(hv:bootBuiltins x=some (.type T))(ha:PA X (e::es) t)(hn:x ≠ "__name__" := by decide)(hdb:(x == ("__debug__" : Str))=false:=by decide)
  (he:starEach (e::es) X.env=(false,eval e X.env)::starEach es X.env:=by rfl) (hpl:(backTo pos (starEach es X.env)).any (·.1)=false:=by rfl):PE X (.Call (.Name x p) (e::es) [] pos) (tCB r t):=by
 intro pins s σ H Q I h
 refine wpAny_Call_Name_kw (dq I hg hm hv ?_ hn hdb)
 exact PyProof.Rows.callWith_type1 (thn (@ha pos pins s σ H _ I h) fun us s1 ⟨vs,H1,I1,r1,q1⟩=>@hc pins s1 σ H1 vs us Q I1 r1 q1) he hpl
end
end L2
namespace HT
open PySem PyProof.Rows
def lexLt:List Int→List Int→Bool
 | [],[]=>false
 | [],_::_=>true
 | _::_,[]=>false
 | x::xs,y::ys=>if x=y then lexLt xs ys else decide (x<y)
theorem pV (x y:Int)(xs ys:List Int):lexLt (x::xs) (y::ys)=if x=y then lexLt xs ys else decide (x<y):=rfl
theorem aq:lexLt [] []=false:=rfl
theorem f_ (y:Int)(ys:List Int):lexLt [] (y::ys)=true:=rfl
theorem fV (x:Int)(xs:List Int):lexLt (x::xs) []=false:=rfl
theorem xbF (A:Around)(s:Shared)(a:Int)(t:Tok)(c:Int)(u:Tok):∃e,SeqAt.EqAt A s (.int a t) (.int c u) e∧(e=true↔a=c) :=
 ⟨(a == c),SeqAt.EqAt.int_int a t c u,by simp⟩
theorem xcd (A:Around)(s:Shared)(a:Int)(t:Tok)(c:Int)(u:Tok)(prog:Program)(w:World)(E:Value→Shared→Prop)(Q:Value→Shared→Prop)(h:Q (.bool (decide (a<c))) s) :
  wpAny (model prog w) A (richCompare .Lt (.int a t) (.int c u)) Q E s :=
 (PyProof.Rows.lt_int h:wpAny (model prog w) A (compareOp .Lt (.int a t) (.int c u)) Q E s)
section
open PySem.SeqAt
open PySem.AutoSeq1 (wpAny_loadPart')
open PySem.MeetsSeq PySem.MeetsSeq2 PySem.MeetsSeq3
theorem a_ (l b:Addr)(items items2:Array Value)(n n2:Nat)(dd dd2:Option Addr)(sl sl2:Array (Option Value))(ns ms:List Int)(hi:IntsAre items.toList ns)(hj:IntsAre items2.toList ms) :
  Meets (Builtin.«tuple.__lt__» ⟨[.ref l,.ref b],[]⟩)
   (fun _ R s=>s.heap.get? l=some { cls:=.type "tuple", dict:=dd,data:=.seq items n,slots:=sl }∧s.heap.get? b=some { cls:=.type "tuple", dict:=dd2,data:=.seq items2 n2,slots:=sl2 } ∧
    R (.ok (.ret (.bool (lexLt ns ms)))) s) :=
 .of_wp fun prog w A R s h=>by
  obtain⟨hp,g,d,tk,os⟩:=s;obtain⟨hl,hb,h⟩:=h
  have f2:=AutoSeq1.sub_tuple_tuple
  have z1:items.size=ns.length:=by rw[←hi.length];simp
  have z2:items2.size=ms.length:=by rw[←hj.length];simp
  wp_walk using wpAny_loadPart' hl,wpAny_loadPart' hb,wpAny_forIn_list _ (fun rest b s'=>b.1=none∧s'=⟨hp,g,d,tk,os⟩∧∃(vs ws:List Value) (ns' ms':List Int),rest=vs.zip ws ∧
   IntsAre vs ns'∧IntsAre ws ms'∧ns'.length+items2.size=ms'.length+items.size∧R (.ok (.ret (.bool (lexLt ns' ms')))) ⟨hp,g,d,tk,os⟩) _
  case turn =>
   rintro⟨y,x⟩ rest b s' ⟨hb',rfl,vs,ws,ns',ms',hz,hvi,hwi,hlen,hR⟩
   cases hvi with
   | nil=>rw[List.zip_nil_left] at hz;cases hz
   | cons a t hvi' =>
    cases hwi with
    | nil=>rw[List.zip_nil_right] at hz;cases hz
    | cons c u hwi' =>
     rw[List.zip_cons_cons] at hz
     injection hz with hyx hrest
     injection hyx with hy hx
     subst hy hx
     rw[pV] at hR
     simp only[xiX] at hlen
     obtain⟨e,he,hiff⟩:=xbF A.in1 ⟨hp,g,d,tk,os⟩ a t c u
     refine wpAny_bind (he prog w _ _ ?_)
     cases e with
     | true =>
      rw[if_pos (hiff.mp rfl)] at hR
      wp_walk
      exact⟨rfl,rfl,_,_,_,_,hrest,hvi',hwi',by omega,hR⟩
     | false =>
      rw[if_neg (fun q=>absurd (hiff.mpr q) xhZ)] at hR
      have hri:=xcd A.in1 ⟨hp,g,d,tk,os⟩ a t c u prog w
      wp_walk using hri
      exact⟨_,rfl,by simpa using hR⟩
  case fin =>
   rintro⟨b1,b2⟩ s' ⟨hb',rfl,vs,ws,ns',ms',hz,hvi,hwi,hlen,hR⟩
   simp only at hb'
   subst hb'
   have hv:lexLt ns' ms'=decide (items.size<items2.size):=by
    cases hvi with
    | nil =>
     cases hwi with
     | nil =>
      simp only[xi1] at hlen
      rw[aq]
      exact(xj2 (by omega)).symm
     | cons c u hw =>
      simp only[xi1,xiX] at hlen
      rw[f_]
      exact(xj3 (by omega)).symm
    | cons a t hv =>
     cases hwi with
     | nil =>
      simp only[xi1,xiX] at hlen
      rw[fV]
      exact(xj2 (by omega)).symm
     | cons c u hw =>
      rw[List.zip_cons_cons] at hz
      cases hz
   rw[hv] at hR
   wp_walk
   exact⟨_,rfl,by simpa [Builtin.Tuple.tupleCompareSizes] using hR⟩
  case h =>
   exact⟨rfl,rfl,items.toList,items2.toList,ns,ms,rfl,hi,hj,by omega,h⟩
end
section
variable {prog:Program} {w:World} {A:Around} {E:Value→Shared→Prop} {s:Shared}
theorem p8 {l b:Addr}{items items2:Array Value}{ns ms:List Int}{Q:Value→Shared→Prop}(hl:IsTup s.heap l items)(hb:IsTup s.heap b items2)(hi:IntsAre items.toList ns)(hj:IntsAre items2.toList ms)
  (hu:A.units<cLine) (h:Q (.bool (lexLt ns ms)) s):wpAny (model prog w) A (compareOp .Lt (.ref l) (.ref b)) Q E s:=by
 obtain⟨⟨cls,dd,data,sl⟩,ho,hc,n,hd⟩:=id hl
 obtain⟨⟨cls2,dd2,data2,sl2⟩,ho2,hc2,n2,hd2⟩:=id hb
 simp only at hc hd hc2 hd2
 subst hc hd hc2 hd2
 exact richCompare_meets_room (op:=.Lt) ⟨_,ho,rfl⟩ ⟨_,ho2,rfl⟩ PySem.F.slot_tuple_lt PySem.F.entry_tuple_lt (PySem.F.args_tuple_lt_2 _ _) (a_ l b items items2 n n2 dd dd2 sl sl2 ns ms hi hj)
  ⟨ho,ho2,show Value.bool (lexLt ns ms)≠Value.notImplemented∧Q (.bool (lexLt ns ms)) s from⟨(fun x=>nomatch x),h⟩⟩ hu
theorem xdX {t b:Addr}{vs ws:List Value}{Q:Value→Shared→Prop}(ht:IsTup s.heap t vs.toArray)(hb:IsTup s.heap b ws.toArray)(hv:vs≠[])
  (h1:ws=[]→Q (.ref t) s) (h2:ws≠[]→Q (.ref s.heap.objs.size) { s with heap:=s.heap.push { cls:=.type "tuple", data:=.seq (vs++ws).toArray } })
  (hsz:vs.length+ws.length≤sizeLine):wpAny (model prog w) A (binaryOp .Add (.ref t) (.ref b)) Q E s:=by
 obtain⟨⟨cls,dd,data,sl⟩,ho,hc,n,hd⟩:=id ht
 obtain⟨⟨cls2,dd2,data2,sl2⟩,ho2,hc2,n2,hd2⟩:=id hb
 simp only at hc hd hc2 hd2
 subst hc hd hc2 hd2
 have e:vs.toArray++ws.toArray=(vs++ws).toArray:=by simp
 by_cases hw:ws=[]
 ·exact concat_meets ⟨_,ho,rfl⟩ ⟨_,ho2,rfl⟩ noFill_tuple_add seq_tuple_add PySem.F.slot_tuple_add PySem.F.entry_tuple_add (PySem.F.args_tuple_add_2 _ _)
   (tuple_addW1 t b vs.toArray ws.toArray n n2 dd dd2 sl sl2 (by simpa using hv) (by simp[hw])) ⟨ho,ho2,h1 hw⟩
 ·refine concat_meets ⟨_,ho,rfl⟩ ⟨_,ho2,rfl⟩ noFill_tuple_add seq_tuple_add PySem.F.slot_tuple_add PySem.F.entry_tuple_add (PySem.F.args_tuple_add_2 _ _)
   (tuple_addW2 t b vs.toArray ws.toArray n n2 dd dd2 sl sl2 (by simpa using hv) (by simpa using hw) (by rw[xjC,xjC];exact hsz)) ⟨ho,ho2,?_⟩
  rw[e]
  exact h2 hw
def sIx (n d:Nat):Option Int→Nat
 | none=>d
 | some v=>if v<0 then(v+(n:Int)).toNat else min v.toNat n
theorem aU (n d:Nat):sIx n d none=d:=rfl
theorem lE (n d k:Nat):sIx n d (some (k:Int))=min k n:=by
 show(if (k:Int)<0 then((k:Int)+(n:Int)).toNat else min (k:Int).toNat n)=min k n
 rw[if_neg (by omega),xir]
theorem xeE (n d:Nat)(hd:d≤n)(o:Option Int):sIx n d o≤n:=by
 cases o with
 | none=>exact hd
 | some v =>
  show(if v<0 then(v+(n:Int)).toNat else min v.toNat n)≤n
  by_cases hv:v<0
  ·rw[if_pos hv];omega
  ·rw[if_neg hv];exact Nat.min_le_right _ _
theorem xai (v:Int)(n d:Nat):(if v<0 then max (v+(n:Int)) 0 else min v (n:Int))=((sIx n d (some v):Nat):Int):=by
 show(if v<0 then max (v+(n:Int)) 0 else min v (n:Int))=(((if v<0 then(v+(n:Int)).toNat else min v.toNat n):Nat):Int)
 by_cases hv:v<0
 ·simp only[if_pos hv];omega
 ·simp only[if_neg hv];omega
theorem pQ (lo hi:Option Int)(n:Nat):Builtin.Slice.sliceAdjust lo hi 1 (n:Int)=(((sIx n 0 lo:Nat):Int),((sIx n n hi:Nat):Int)):=by
 have h1:¬((1:Int)<0):=by omega
 unfold Builtin.Slice.sliceAdjust
 simp only[h1,xj6]
 refine Prod.ext ?_ ?_
 ·cases lo with
  | none=>rfl
  | some v=>exact xai v n 0
 ·cases hi with
  | none=>rfl
  | some v=>exact xai v n n
theorem oq (i j:Nat):Builtin.Slice.slicePlaces (i:Int) (j:Int) 1=j-i:=by
 unfold Builtin.Slice.slicePlaces
 have h1:(1:Int)>0:=by omega
 simp only[h1,if_true,Int.ediv_one]
 split<;>omega
theorem dN {v:Value}{o:Option Int}{Q:Option Int→Shared→Prop}(p:IsPart v o)(h:Q o s):wpAny (model prog w) A (Builtin.Slice.slicePartIndex v) Q E s:=by
 cases p with
 | none=>exact slicePart_none h
 | int i t=>exact slicePart_int h
theorem vG {sl:Addr}{vl vu:Value}{lo hi:Option Int}{n:Nat}{Q:Int×Int×Nat→Shared→Prop}(hs:s.heap.IsSliceOf sl vl vu .none)(pl:IsPart vl lo)(pu:IsPart vu hi)
  (h:Q (((sIx n 0 lo:Nat):Int),1,sIx n n hi-sIx n 0 lo) s):wpAny (model prog w) A (Builtin.Slice.sliceApplied (.ref sl) (pure (n:Int))) Q E s:=by
 obtain⟨os,hos,hcs,hds⟩:=id hs
 unfold Builtin.Slice.sliceApplied Builtin.Slice.sliceFields
 refine wpAny_bind (wpAny_bind (wpAny_field hos hds (x:=vl) rfl (wpAny_bind (wpAny_field hos hds (x:=vu) rfl (wpAny_bind (wpAny_field hos hds (x:=.none) rfl (wpAny_pure ?_)))))))
 refine wpAny_bind (slicePart_none ?_)
 show wpAny _ _ (if ((1:Int) == 0)=true then _ else _) _ _ s
 rw[if_neg (by decide)]
 refine wpAny_bind (dN pl (wpAny_bind (dN pu (wpAny_bind (wpAny_pure ?_)))))
 show wpAny _ _ (match Builtin.Slice.sliceAdjust lo hi 1 (n:Int) with | (lo,hi)=>pure (lo,(1:Int),Builtin.Slice.slicePlaces lo hi 1)) _ _ s
 rw[pQ lo hi n]
 show wpAny _ _ (pure (((sIx n 0 lo:Nat):Int),(1:Int),Builtin.Slice.slicePlaces ((sIx n 0 lo:Nat):Int) ((sIx n n hi:Nat):Int) 1)) _ _ s
 rw[oq]
 exact wpAny_pure h
theorem xby (xs:Array Value)(i k:Nat):((List.range k).filterMap fun(m:Nat)=>xs[((i:Int)+(m:Int)*1).toNat]?).toArray=((xs.toList.drop i).take k).toArray:=by
 have e:(fun(m:Nat)=>xs[((i:Int)+(m:Int)*1).toNat]?)=fun m=>xs[i+m]?:=by
  funext m
  have:((i:Int)+(m:Int)*1).toNat=i+m:=by omega
  rw[this]
 rw[e]
 have:=pick_run xs i k
 rw[List.filterMap_map] at this
 have e2:((fun x=>xs[x]?) ∘ fun x=>i+x)=fun m=>xs[i+m]?:=rfl
 rw[e2] at this
 rw[this]
theorem jU {t sl:Addr}{items:Array Value}{vl vu:Value}{lo hi:Option Int}{Q:Value→Shared→Prop}(ht:IsTup s.heap t items)(hs:s.heap.IsSliceOf sl vl vu .none)(pl:IsPart vl lo)(pu:IsPart vu hi)
  (hw:¬(sIx items.size 0 lo=0∧sIx items.size items.size hi=items.size))
  (h:Q (.ref s.heap.objs.size) { s with heap:=s.heap.push { cls:=.type "tuple", data:=.seq ((items.toList.drop (sIx items.size 0 lo)).take (sIx items.size items.size hi-sIx items.size 0 lo)).toArray } })
  (hsz:items.size≤sizeLine):wpAny (model prog w) A (getItem (.ref t) (.ref sl)) Q E s:=by
 have htake:sizeOk (.seq ((items.toList.drop (sIx items.size 0 lo)).take (sIx items.size items.size hi-sIx items.size 0 lo)).toArray):=by
  show((items.toList.drop (sIx items.size 0 lo)).take (sIx items.size items.size hi-sIx items.size 0 lo)).toArray.size≤sizeLine
  rw[xjC,xi6,xiY,xhW]
  omega
 have hj:sIx items.size items.size hi≤items.size:=xeE _ _ (xjK _) hi
 obtain⟨os,hos,hcs,hds⟩:=id hs
 have hTs:s.TypeIs (.ref sl) "slice" := ⟨os,hos,hcs⟩
 unfold getItem
 try with_reducible refine wpAny_holding ?_
 first | refine wpAny_bind (wpAny_pure ?_) | skip
 refine wpAny_bind (wpAny_sequenceKey ht.typeIs (by decide) ?_)
 refine wpAny_bind (wpAny_callSpecial?_slot (name:=Str.ofString "__getitem__") ht.typeIs PyProof.Rows.slot_tuple_getitem
  (wpAny_call_entry PyProof.Rows.slot_tuple_getitem ht.typeIs entry_tuple_getitem ?_ (args_tuple_getitem _ _)))
 show wpAny _ _ (Builtin.Tuple.tupleItemsOf (.ref t) >>= _) _ _ s
 refine wpAny_bind (tupleItemsOf_ ht ?_)
 refine wpAny_bind (wpAny_typeOf hTs ?_)
 rw[if_pos (by decide)]
 refine wpAny_bind (vG hs pl pu ?_)
 have hno:¬((((sIx items.size 0 lo:Nat):Int) == 0&&(1:Int) == 1&&(sIx items.size items.size hi-sIx items.size 0 lo) == items.size)=true):=by
  intro q
  rw[xhX,xhX] at q
  have q1:((sIx items.size 0 lo:Nat):Int)=0:=eq_of_beq q.1.1
  have q2:sIx items.size items.size hi-sIx items.size 0 lo=items.size:=eq_of_beq q.2
  exact hw ⟨by omega,by omega⟩
 show wpAny _ _ (if (((sIx items.size 0 lo:Nat):Int) == 0&&(1:Int) == 1&&(sIx items.size items.size hi-sIx items.size 0 lo) == items.size)=true then _ else _) _ _ s
 rw[if_neg hno,xby]
 first
  | exact wpAny_bind (m:=Builtin.Tuple.tupleExact _) (wpAny_newObj_type (wpAny_pure ⟨_,rfl,wpAny_pure h⟩) htake)
  | exact wpAny_bind (m:=Builtin.Tuple.tupleExact _) (wpAny_newObj_type (wpAny_bind (wpAny_pure (wpAny_pure ⟨_,rfl,wpAny_pure h⟩))) htake)
  | exact wpAny_bind (wpAny_bind (m:=Builtin.Tuple.tupleExact _) (wpAny_newObj_type (wpAny_pure (wpAny_pure ⟨_,rfl,wpAny_pure h⟩)) htake))
  | exact wpAny_bind (wpAny_bind (m:=Builtin.Tuple.tupleExact _) (wpAny_newObj_type (wpAny_pure ⟨_,rfl,wpAny_pure h⟩) htake))
end
end HT
namespace L2
open PySem PySem.Spec PyProof.Rows
abbrev TO:=St→Hp→(Option Int→Hp→Prop)→Prop
def PO (X:Cx)(e:Option Expr)(t:TO):Prop :=
 ∀(pins:List (Addr×Obj)) (s:Shared) (σ:St) (H:Hp) (Q:Option Int→Hp→Prop),Inv X pins σ H s→t σ H Q →
  wpAny (model X.prog X.w) X.A (evalPart e X.env) (fun u s'=>∃o H',Inv X pins σ H' s'∧IsPart u o∧Q o H') X.xe s
def lF:TO:=fun _ H Q=>Q none H
def xc8 (t:TE):TO:=fun σ H Q=>t σ H fun x H1=>∃i,x=.int i∧Q (some i) H1
theorem intsAre_of {ns:List Int}:∀ {us:List Value},yS (ns.map V.int) us→IntsAre us ns:=by
 induction ns with
 | nil=>intro us r;rw[xja] at r;cases r;exact .nil
 | cons n ns ih =>
  intro us r
  rw[xi9] at r
  cases r with
  | cons r1 r2 =>
   obtain⟨t,e⟩:=r1
   subst e
   exact .cons n t (ih r2)
section
variable {X:Cx} {e:Expr} {te:TE} {lo hi:Option Expr} {tl th:TO} {pos p2:Pos}
theorem jE:PO X none lF:=by
 intro pins s σ H Q I h
 rw[evalPart_none]
 exact wpAny_pure ⟨none,H,I,.none,h⟩
theorem kO (h:PE X e te):PO X (some e) (xc8 te):=by
 intro pins s σ H Q I hw
 rw[evalPart_some]
 refine thn (@h pins s σ H _ I hw) fun u s1 ⟨x,H1,I1,r1,q1⟩=>?_
 obtain⟨i,rfl,q⟩:=q1
 obtain⟨t,rfl⟩:=r1
 exact⟨some i,H1,I1,.int i t,q⟩
def SlR (X:Cx)(r:V→Option Int→Option Int→Hp→VK→Prop):Prop :=
 ∀(pins:List (Addr×Obj)) (s:Shared) (σ:St) (H:Hp) (x:V) (v vl vu:Value) (lo hi:Option Int) (sl:Addr) (Q:VK),Inv X pins σ H s→RelV x v→s.heap.IsSliceOf sl vl vu .none→IsPart vl lo→IsPart vu hi→r x lo hi H Q →
  ∃T id,typeLookup (.type T) "__getitem__" = pure (some (.builtin id))∧s.TypeIs v T∧wpAny (model X.prog X.w) X.A (getItem v (.ref sl)) (EP X pins σ Q) X.xe s
def tSl (r:V→Option Int→Option Int→Hp→VK→Prop)(te:TE)(tl th:TO):TE:=fun σ H Q=>te σ H fun x H1=>tl σ H1 fun l H2=>th σ H2 fun u H3=>r x l u H3 Q
theorem qL {r:V→Option Int→Option Int→Hp→VK→Prop}(hr:SlR X r)(he:PE X e te)(hl:PO X lo tl)(hu:PO X hi th):PE X (.Subscript e (.Slice lo hi none p2) pos) (tSl r te tl th):=by
 intro pins s σ H Q I h
 refine Subscript_ (thn (@he pins s σ H _ I h) fun v s1 ⟨x,H1,I1,r1,q1⟩=>?_)
 refine wpAny_Slice (thn (@hl pins s1 σ H1 _ I1 q1) fun vl s2 ⟨l,H2,I2,pl,q2⟩=>thn (@hu pins s2 σ H2 _ I2 q2) fun vu s3 ⟨u,H3,I3,pu,q3⟩=>?_)
 rw[evalPart_none]
 refine wpAny_pure ?_
 have I4:Inv X pins σ H3 { s3 with heap:=s3.heap.push { cls:=.type "slice", data:=.fields #[vl,vu,.none] } }:=I3.kept (t':=s3.toks) fun b ob q=>Heap.get?_push_of_some _ q
 obtain⟨T,id,hT,ht,hg⟩:=hr pins { s3 with heap:=s3.heap.push { cls:=.type "slice", data:=.fields #[vl,vu,.none] } } σ H3 x v vl vu l u s3.heap.objs.size Q I4 r1 (Heap.IsSliceOf.new ..) pl pu q3
 show wpAny (model X.prog X.w) X.A (subscriptTail e (.Slice lo hi none p2) v (.ref s3.heap.objs.size)) (EP X pins σ Q) X.xe { s3 with heap:=s3.heap.push { cls:=.type "slice", data:=.fields #[vl,vu,.none] } }
 exact tail_any (ops:=[.ref s3.heap.objs.size,v]) ht hT hg (by with_unfolding_all rfl)
def pZ (xs:List V)(lo hi:Option Int):List V:=(xs.drop (HT.sIx xs.length 0 lo)).take (HT.sIx xs.length xs.length hi-HT.sIx xs.length 0 lo)
theorem gK (xs:List V)(lo hi:Option Int):(pZ xs lo hi).length≤xs.length:=by
 unfold pZ
 rw[xi6,xiY]
 omega
def xhu (K:PySem.W.Frag):V→Option Int→Option Int→Hp→VK→Prop:=fun x lo hi H Q=>∃a xs,x=.ref a∧SqT K H a xs ∧
 ¬(HT.sIx xs.length 0 lo=0∧HT.sIx xs.length xs.length hi=xs.length)∧∀p,H p=none→Q (.ref p) (upd H p (.tup (pZ xs lo hi)))
theorem xfR:SlR X (xhu X.K):=by
 intro pins s σ H x v vl vu lo hi sl Q I rx hs pl pu h
 obtain⟨a,xs,rfl,hx,hw,q⟩:=h
 cases rx
 obtain⟨its,r,ht,hz⟩:=I.tuple hx
 have hlen:its.toArray.size=xs.length:=by rw[xjC];exact r.length.symm
 refine⟨"tuple", _,PyProof.Rows.slot_tuple_getitem.lookup,ht.typeIs,?_⟩
 refine HT.jU ht hs pl pu (by rw[hlen];exact hw) ?_ (by rw[hlen];exact hz)
 rw[hlen]
 refine⟨.ref s.heap.objs.size,_,I.laid (t':=s.toks) (o:=.tup (pZ xs lo hi)) (fun b ob q=>Heap.get?_push_of_some _ q) (xjK _) ?_,rfl,q _ (I.hok.fresh (xjK _))⟩
 exact⟨xjM (gK xs lo hi) hz,_,(r.drop (HT.sIx xs.length 0 lo)).take (HT.sIx xs.length xs.length hi-HT.sIx xs.length 0 lo),IsTup.new _ _⟩
def xg9 (K:PySem.W.Frag):R2:=fun x y H Q=>∃a b ns ms,x=.ref a∧y=.ref b∧SqT K H a (ns.map V.int)∧SqT K H b (ms.map V.int)∧Q (.bl (HT.lexLt ns ms)) H
theorem xfj (hu:X.A.units<cLine):OpR X (compareOp .Lt) (xg9 X.K):=by
 intro pins s σ H x y v u Q I rx ry h
 obtain⟨a,b,ns,ms,rfl,rfl,ha,hb,q⟩:=h
 cases rx
 cases ry
 obtain⟨its,r1,p1,_⟩:=I.tuple ha
 obtain⟨its2,r2,p2,_⟩:=I.tuple hb
 have i1:IntsAre its.toArray.toList ns:=intsAre_of r1
 have i2:IntsAre its2.toArray.toList ms:=intsAre_of r2
 exact HT.p8 p1 p2 i1 i2 hu ⟨.bl (HT.lexLt ns ms),H,I,rfl,q⟩
def xgy (K:PySem.W.Frag):R2:=fun x y H Q=>∃a b xs ys,x=.ref a∧y=.ref b∧SqT K H a xs∧SqT K H b ys∧xs≠[]∧xs.length+ys.length≤sizeLine ∧
 (ys=[]→Q (.ref a) H)∧(ys≠[]→∀p,H p=none→Q (.ref p) (upd H p (.tup (xs++ys))))
theorem yS.nil_iff {xs:List V}{us:List Value}(r:yS xs us):us=[]↔xs=[]:=by
 cases r with
 | nil=>simp
 | cons _ _=>simp
theorem xdN:OpR X (binaryOp .Add) (xgy X.K):=by
 intro pins s σ H x y v u Q I rx ry h
 obtain⟨a,b,xs,ys,rfl,rfl,ha,hb,hx,hz,q1,q2⟩:=h
 cases rx
 cases ry
 obtain⟨its,r1,p1,_⟩:=I.tuple ha
 obtain⟨its2,r2,p2,_⟩:=I.tuple hb
 refine HT.xdX p1 p2 (fun z=>hx (r1.nil_iff.mp z)) (fun z=>⟨.ref a,H,I,rfl,q1 (r2.nil_iff.mp z)⟩) (fun z=>?_) (by rw[←r1.length,←r2.length];exact hz)
 refine⟨.ref s.heap.objs.size,_,I.laid (t':=s.toks) (o:=.tup (xs++ys)) (fun b ob q=>Heap.get?_push_of_some _ q) (xjK _) ?_,rfl,q2 (fun w=>z (r2.nil_iff.mpr w)) _ (I.hok.fresh (xjK _))⟩
 exact⟨by rw[xiW];exact hz,_,r1.append r2,IsTup.new _ _⟩
end
end L2
namespace L2
open PySem PySem.Spec PyProof.Rows
def ixN (n:Nat)(i:Int):Option Nat:=if 0≤i then(if i<n then some i.toNat else none) else if -(n:Int)≤i then some (i+n).toNat else none
def atI {α:Type}(xs:List α)(i:Int):Option α:=(ixN xs.length i).bind fun j=>xs[j]?
theorem lT {n:Nat}{i:Int}{j:Nat}(h:ixN n i=some j):seqIndex? i n=some j∧j<n∧-(n:Int)≤i∧i<n:=by
 unfold ixN at h
 by_cases h0:0≤i
 ·rw[if_pos h0] at h
  by_cases h1:i<n
  ·rw[if_pos h1] at h
   have e:i.toNat=j:=xjZ h
   exact⟨by rw[seqIndex_of h0 h1,e],by omega,by omega,h1⟩
  ·rw[if_neg h1] at h;cases h
 ·rw[if_neg h0] at h
  by_cases h1:-(n:Int)≤i
  ·rw[if_pos h1] at h
   have e:(i+n).toNat=j:=xjZ h
   exact⟨by rw[seqIndex_neg (by omega) h1,e],by omega,h1,by omega⟩
  ·rw[if_neg h1] at h;cases h
theorem mR {α:Type}{xs:List α}{i:Int}{v:α}(h:atI xs i=some v):∃j,seqIndex? i xs.length=some j∧xs[j]? = some v∧j<xs.length∧-(xs.length:Int)≤i∧i<xs.length:=by
 unfold atI at h
 cases e:ixN xs.length i with
 | none=>rw[e] at h;cases h
 | some j =>
  rw[e] at h
  obtain⟨h1,h2,h3,h4⟩:=lT e
  exact⟨j,h1,h,h2,h3,h4⟩
theorem xdH {α:Type}{xs:List α}{j:Nat}{v:α}(h:xs[j]? = some v):atI xs (j:Int)=some v:=by
 have hj:j<xs.length:=(xiR.mp h).1
 have e:ixN xs.length (j:Int)=some j:=by
  unfold ixN
  rw[if_pos (by omega),if_pos (by omega)];simp
 unfold atI;rw[e];exact h
theorem xbq {α:Type}(xs:List α)(v:α):atI (xs++[v]) (-1)=some v:=by
 have hl:(xs++[v]).length=xs.length+1:=by simp
 have e:ixN (xs++[v]).length (-1)=some xs.length:=by
  unfold ixN
  rw[hl,if_neg (by decide),if_pos (by omega)]
  congr 1
  omega
 unfold atI
 rw[e]
 show(xs++[v])[xs.length]? = some v
 simp
def xdw (b:Expr):Prop:=∀o i,subscripted b false o i=operate [o,i] (getItem o i)
def IxR (X:Cx)(r:R2):Prop :=
 ∀(value slice:Expr) (pins:List (Addr×Obj)) (s:Shared) (σ:St) (H:Hp) (x y:V) (v u:Value) (Q:VK),Inv X pins σ H s→RelV x v→RelV y u→r x y H Q →
  subscripted slice false v u=operate [v,u] (getItem v u)→wpAny (model X.prog X.w) X.A (subscriptTail value slice v u) (EP X pins σ Q) X.xe s
def MtR (X:Cx)(id:String)(r:V→List V→Hp→VK→Prop):Prop :=
 ∀(pins:List (Addr×Obj)) (s:Shared) (σ:St) (H:Hp) (x:V) (xs:List V) (v:Value) (us:List Value) (Q:VK),Inv X pins σ H s→RelV x v→yS xs us→r x xs H Q →
  wpAny (model X.prog X.w) X.A (call (.builtin id) (v::us)) (EP X pins σ Q) X.xe s
section
variable {X:Cx} {a b:Expr} {ta tb:TE} {pos:Pos}
theorem IxR.or {r r':R2}(h:IxR X r)(h':IxR X r'):IxR X (fun x y H Q=>r x y H Q∨r' x y H Q):=by
 intro value slice pins s σ H x y v u Q I rx ry q hs
 rcases q with q | q
 ·exact h value slice pins s σ H x y v u Q I rx ry q hs
 ·exact h' value slice pins s σ H x y v u Q I rx ry q hs
theorem uI {r:R2}(hr:IxR X r)(ha:PE X a ta)(hb:PE X b tb)(hs:xdw b):PE X (.Subscript a b pos) (tOp r ta tb):=by
 intro pins s σ H Q I h
 exact Subscript_ (xgO ha hb I h fun v u s2 x y H2 I2 rx ry q=>hr a @b pins s2 σ H2 x y v u Q I2 rx ry q (hs _ _))
def xgq (K:PySem.W.Frag):R2:=fun x y H Q=>∃p xs i v,x=.ref p∧y=.int i∧SqL K H p xs∧atI xs i=some v∧Q v H
def xg8 (K:PySem.W.Frag):R2:=fun x y H Q=>∃p xs i v,x=.ref p∧y=.int i∧SqT K H p xs∧atI xs i=some v∧Q v H
def xhh:R2:=fun x y H Q=>∃z i c,x=.str z∧y=.int i∧z.length≤sizeLine∧atI z.cps.toList i=some c∧Q (.str ⟨#[c]⟩) H
theorem oz:IxR X (xgq X.K):=by
 intro value slice pins s σ H x y v u Q I rx ry h hs
 obtain⟨p,xs,i,z,rfl,rfl,hq,he,q⟩:=h
 cases rx
 obtain⟨t,rfl⟩:=ry
 obtain⟨its,r,pl,hz⟩:=I.list hq
 obtain⟨j,h1,h2,h3,h4,h5⟩:=mR he
 obtain⟨w,ew,rw'⟩:=r.get h2
 have hl:=r.length
 have hn:=rB
 have fin:EP X pins σ Q w s:=⟨z,H,I,rw',q⟩
 by_cases h0:0≤i
 ·have hj:i.toNat=j:=by
   rw[seqIndex_of h0 h5] at h1
   exact xjZ h1
  exact item_listR pl.isList h0 (by omega) (by rw[hj];simpa using ew) fin hs
 ·have hj:(i+(its.toArray.size:Int)).toNat=j:=by
   rw[seqIndex_neg (by omega) h4] at h1
   rw[xjC,←hl]
   exact xjZ h1
  exact subscriptTail_builtinR (x:=w) pl.isList.typeIs slot_list_getitem.lookup
   (wpAny_getItem_list_neg (Q:=fun r s'=>r=w∧EP X pins σ Q r s') pl.isList (by omega) (by rw[xjC]<;>omega) (by omega) (by rw[hj];simpa using ew) ⟨rfl,fin⟩) hs
theorem xff:IxR X (xg8 X.K):=by
 intro value slice pins s σ H x y v u Q I rx ry h hs
 obtain⟨p,xs,i,z,rfl,rfl,hq,he,q⟩:=h
 cases rx
 obtain⟨t,rfl⟩:=ry
 obtain⟨its,r,pl,hz⟩:=I.tuple hq
 obtain⟨j,h1,h2,h3,h4,h5⟩:=mR he
 obtain⟨w,ew,rw'⟩:=r.get h2
 have hl:=r.length
 have hn:=rB
 have fin:EP X pins σ Q w s:=⟨z,H,I,rw',q⟩
 exact subscriptTail_builtinR (x:=w) pl.typeIs slot_tuple_getitem.lookup
  (getItem_tuple (j:=j) (Q:=fun r s'=>r=w∧EP X pins σ Q r s') pl (by omega) (by omega) (by rw[xjC,←hl];exact h1) (by simpa using ew) ⟨rfl,fin⟩) hs
theorem xfm:IxR X xhh:=by
 intro value slice pins s σ H x y v u Q I rx ry h hs
 obtain⟨z,i,c,rfl,rfl,hz,he,q⟩:=h
 obtain⟨t,rfl⟩:=rx
 obtain⟨t',rfl⟩:=ry
 obtain⟨j,h1,h2,h3,h4,h5⟩:=mR he
 have hl:z.cps.toList.length=z.length:=by simp[Str.length]
 rw[hl] at h1 h4 h5
 have hn:=rB
 exact tail_any (typeIs_str s z t) slot_str_getitem.lookup (getItem_str (c:=c) (by
  have e1:decide (i < -(2 ^ 63:Int))=false:=xj2 (by omega)
  have e2:decide (i≥2 ^ 63)=false:=xj2 (by omega)
  rw[e1,e2,Bool.or_false]) (by rw[h1];simpa using h2) ⟨.str ⟨#[c]⟩,H,I.tok _,⟨_,rfl⟩,q⟩) hs
def rIx (K:PySem.W.Frag):R2:=fun x y H Q=>xgq K x y H Q∨xg8 K x y H Q∨xhh x y H Q
theorem xeK:IxR X (rIx X.K):=oz.or (xff.or xfm)
theorem pF (its:List Value)(n j:Nat)(u:Value):Obj.mapSeq (·.setIfInBounds j u) { cls:=.type "list", data:=.seq its.toArray n }={ cls:=.type "list", data:=.seq (its.set j u).toArray n }:=by
 simp[Obj.mapSeq]
theorem Inv.lst {pins:List (Addr×Obj)}{σ:St}{H:Hp}{s:Shared}{p:Addr}{xs:List V}(I:Inv X pins σ H s)(h:H p=some (.lst xs)) :
  ∃(its:List Value) (n:Nat),yS xs its∧s.heap.get? p=some { cls:=.type "list", data:=.seq its.toArray n }∧xs.length≤sizeLine:=by
 obtain⟨z,its,n,r,e⟩:=I.hok p _ h
 exact⟨its,n,r,e,z⟩
theorem Inv.lstUpd {pins:List (Addr×Obj)}{σ:St}{H:Hp}{s:Shared}{p:Addr}{xs ys:List V}{its its':List Value}{n n':Nat}{f:Obj→Obj}(I:Inv X pins σ H s)(h:H p=some (.lst xs))
  (ho:s.heap.get? p=some { cls:=.type "list", data:=.seq its.toArray n }) (hf:f { cls:=.type "list", data:=.seq its.toArray n }={ cls:=.type "list", data:=.seq its'.toArray n' }) (r:yS ys its') (hz:ys.length≤sizeLine) (t:Nat) :
  Inv X pins σ (upd H p (.lst ys)) { s with heap:=s.heap.update p f,toks:=t }:=by
 have e:(s.heap.update p f).get? p=some { cls:=.type "list", data:=.seq its'.toArray n' }:=by
  rw[Heap.get?_update_self f ho (by rw[hf]<;>rfl),hf]
 refine I.write (x:=p) (e:=p) (by rw[h];trivial) (.inl rfl) (fun b u hb q=>(Heap.get?_update_other _ _ (Ne.symm hb)).trans q) ⟨_,e⟩ ?_
 exact⟨hz,its',n',r,e⟩
def xgv:V→V→V→Hp→(Hp→Prop)→Prop:=fun o i v H Q=>∃p xs k j,o=.ref p∧i=.int k∧H p=some (.lst xs)∧ixN xs.length k=some j∧Q (upd H p (.lst (xs.set j v)))
theorem set_list:xht X xgv:=by
 intro pins s σ H o i v ov iv u Q I ro ri rv h
 obtain⟨p,xs,k,j,rfl,rfl,hp,hj,q⟩:=h
 cases ro
 obtain⟨t,rfl⟩:=ri
 obtain⟨its,n,r,ho,hz⟩:=I.lst hp
 obtain⟨h1,h2,h3,h4⟩:=lT hj
 have hl:=r.length
 have hn:=rB
 have I':Inv X pins σ (upd H p (.lst (xs.set j v))) { s with heap:=s.heap.update p (Obj.mapSeq (·.setIfInBounds j u)) } :=
  I.lstUpd hp ho (pF its n j u) (r.set rv j) (by rw[xi4];exact hz) s.toks
 by_cases h0:0≤k
 ·have hk:k.toNat=j:=by
   rw[seqIndex_of h0 h4] at h1
   exact xjZ h1
  exact PySem.W.ki_setAt ho h0 (by omega) (by rw[xjC,←hl];exact h4) (by rw[hk];exact⟨_,I',q⟩)
 ·have hk:(k+(its.toArray.size:Int)).toNat=j:=by
   rw[seqIndex_neg (by omega) h3] at h1
   rw[xjC,←hl]
   exact xjZ h1
  exact PySem.W.ki_setBack ho (by omega) (by rw[xjC,←hl];exact h3) (by omega) (by rw[hk];exact⟨_,I',q⟩)
theorem rC (lo hi:Option Int)(n:Nat):(sliceBounds lo hi none n).1=((HT.sIx n 0 lo:Nat):Int)∧(sliceBounds lo hi none n).2.1=((HT.sIx n n hi:Nat):Int)∧(sliceBounds lo hi none n).2.2=1:=by
 refine⟨?_,?_,rfl⟩
 ·cases lo with
  | none=>simp[sliceBounds,HT.sIx]
  | some i =>
   simp only[sliceBounds,HT.sIx,Option.getD_none,show(1:Int)>0 by decide,if_true]
   by_cases h:i<0
   ·simp only[h,if_true]<;>omega
   ·simp only[h,xj6]<;>omega
 ·cases hi with
  | none=>simp[sliceBounds,HT.sIx]
  | some i =>
   simp only[sliceBounds,HT.sIx,Option.getD_none,show(1:Int)>0 by decide,if_true]
   by_cases h:i<0
   ·simp only[h,if_true]<;>omega
   ·simp only[h,xj6]<;>omega
theorem aJ (its:List Value)(lo hi:Option Int):slicePick its.toArray lo hi none=((its.drop (HT.sIx its.length 0 lo)).take (HT.sIx its.length its.length hi-HT.sIx its.length 0 lo)).toArray:=by
 obtain⟨h1,h2,h3⟩:=rC lo hi its.toArray.size
 unfold slicePick
 rw[h1,h2,h3]
 simp only[sliceRange_one,pick_run,xjC]<;>rfl
def xf6 (K:PySem.W.Frag):V→Option Int→Option Int→Hp→VK→Prop:=fun x lo hi H Q=>∃a xs,x=.ref a∧SqL K H a xs∧∀p,H p=none→Q (.ref p) (upd H p (.lst (pZ xs lo hi)))
theorem oy:SlR X (xf6 X.K):=by
 intro pins s σ H x v vl vu lo hi sl Q I rx hs pl pu h
 obtain⟨a,xs,rfl,hx,q⟩:=h
 cases rx
 obtain⟨its,r,ht,hz⟩:=I.list hx
 have hlen:=r.length
 refine⟨"list", _,slot_list_getitem.lookup,ht.isList.typeIs,?_⟩
 refine wpAny_getItem_list_slice ht.isList hs pl pu .none (by simp) ?_ (by rw[xjC]<;>omega)
 rw[aJ,←hlen]
 refine⟨.ref s.heap.objs.size,_,I.laid (t':=s.toks) (o:=.lst (pZ xs lo hi)) (fun b ob q=>Heap.get?_push_of_some _ q) (xjK _) ?_,rfl,q _ (I.hok.fresh (xjK _))⟩
 exact⟨xjM (gK xs lo hi) hz,_,0,(r.drop (HT.sIx xs.length 0 lo)).take (HT.sIx xs.length xs.length hi-HT.sIx xs.length 0 lo),Heap.get?_push_size _ rfl⟩
theorem rq:vJ X (.builtin "len") (fun xs H Q=>∃p ys,xs=[.ref p]∧(SqL X.K H p ys∨SqT X.K H p ys)∧Q (.int ys.length) H):=by
 intro pins s σ H xs us Q I r h
 obtain⟨p,ys,rfl,hq,q⟩:=h
 obtain⟨u,rfl,rx⟩:=vals1 r
 cases rx
 have hn:=rB
 rcases hq with hq | hq
 ·obtain⟨its,r',pl,hz⟩:=I.list hq
  have hlen:=r'.length
  exact Calls.call_len_list pl.isList (by simp only[xjC]<;>omega) ⟨.int ys.length,H,I.tok _,⟨s.toks+1,by rw[xjC,hlen]⟩,q⟩
 ·obtain⟨its,r',pl,hz⟩:=I.tuple hq
  have hlen:=r'.length
  exact len_tuple pl (by simp only[xjC]<;>omega) ⟨.int ys.length,H,I.tok _,⟨s.toks+1,by rw[xjC,hlen]⟩,q⟩
theorem t7:vJ X (.type "list") (fun xs H Q=>∃p ys,xs=[.ref p]∧(SqL X.K H p ys∨SqT X.K H p ys)∧∀l,H l=none→Q (.ref l) (upd H l (.lst ys))):=by
 intro pins s σ H xs us Q I r h
 obtain⟨p,ys,rfl,hq,q⟩:=h
 obtain⟨u,rfl,rx⟩:=vals1 r
 cases rx
 have fin:∀(its:List Value),yS ys its→ys.length≤sizeLine→∀(h':Heap) (c':Nat),(∀b o',s.heap.get? b=some o'→h'.get? b=some o') →
   h'.get? s.heap.objs.size=some { cls:=.type "list", dict:=none,data:=.seq its.toArray c',slots := #[] }→EP X pins σ Q (.ref s.heap.objs.size) { s with heap:=h' }:=fun its r' hz h' c' kp e =>
  ⟨.ref s.heap.objs.size,_,I.laid (t':=s.toks) kp (xjK _) (show zV X.prog X.w _ h' _ (.lst ys) from⟨hz,its,c',r',e⟩),rfl,q _ (I.hok.fresh (xjK _))⟩
 rcases hq with hq | hq
 ·obtain⟨its,r',pl,hz⟩:=I.list hq
  have hlen:=r'.length
  obtain⟨o,ho,hc,n,hd⟩:=pl.isList
  exact call_list_seq p (.inl rfl) ho hc hd (fun h' c' kp e=>fin its r' hz h' c' kp e) (by simp only[xjC]<;>omega)
 ·obtain⟨its,r',pl,hz⟩:=I.tuple hq
  have hlen:=r'.length
  obtain⟨o,ho,hc,n,hd⟩:=pl
  exact call_list_seq p (.inr rfl) ho hc hd (fun h' c' kp e=>fin its r' hz h' c' kp e) (by simp only[xjC]<;>omega)
theorem az:vJ X (.type "tuple") (fun xs H Q=>∃p ys,xs=[.ref p]∧((SqL X.K H p ys∧∀l,H l=none→Q (.ref l) (upd H l (.tup ys)))∨(SqT X.K H p ys∧Q (.ref p) H))):=by
 intro pins s σ H xs us Q I r h
 obtain⟨p,ys,rfl,h⟩:=h
 obtain⟨u,rfl,rx⟩:=vals1 r
 cases rx
 rcases h with ⟨hq,q⟩ | ⟨hq,q⟩
 ·obtain⟨its,r',pl,hz⟩:=I.list hq
  have hlen:=r'.length
  refine call_tuple_list pl.isList (fun h' kp=>?_) (by simp only[xjC]<;>omega)
  have I1:Inv X pins σ H { s with heap:=h' }:=I.kept (t':=s.toks) kp
  have I2:Inv X pins σ (upd H h'.objs.size (.tup ys)) { s with heap:=h'.push { cls:=.type "tuple", data:=.seq its.toArray } } :=
   I1.laid (t':=s.toks) (fun b o e=>Heap.get?_push_of_some _ e) (xjK _) (show zV X.prog X.w _ _ _ (.tup ys) from⟨hz,its,r',IsTup.new _ _⟩)
  exact⟨.ref h'.objs.size,_,I2,rfl,q _ (I1.hok.fresh (xjK _))⟩
 ·obtain⟨its,r',pl,hz⟩:=I.tuple hq
  exact call_tuple_same pl ⟨.ref p,H,I,rfl,q⟩
def tyV (K:PySem.W.Frag)(T:String)(x:V)(H:Hp):Prop:=match x with
 | .str _=>T = "str"
 | .int _=>T = "int"
 | .ref p=>(T = "list" ∧ ∃xs,SqL K H p xs)∨(T = "tuple" ∧ ∃o,K.lookup p=some o∧o.cls=.type "tuple" ∧ o.dict=none) ∨
   (T = "dict" ∧ ((∃kvs,H p=some (.dK kvs))∨∃kvs,H p=some (.dT kvs)))∨(T = "set" ∧ ∃S n,H p=some (.set S n))
 | _=>False
theorem xcG {pins:List (Addr×Obj)}{σ:St}{H:Hp}{s:Shared}{T:String}{x:V}{v:Value}(I:Inv X pins σ H s)(r:RelV x v)(ty:tyV X.K T x H) :
  s.TypeIs v T∧∀a,v=.ref a→∃ob,s.heap.get? a=some ob∧ob.dict=none:=by
 cases x with
 | str z =>
  obtain⟨t,rfl⟩:=r
  cases (show T = "str" from ty)
  exact⟨typeIs_str s z t,fun _ e=>nomatch e⟩
 | int i =>
  obtain⟨t,rfl⟩:=r
  cases (show T = "int" from ty)
  exact⟨typeIs_int s i t,fun _ e=>nomatch e⟩
 | ref p =>
  cases r
  rcases ty with ⟨rfl,xs,hq⟩ | ⟨rfl,o,hk,hc,hd⟩ | ⟨rfl,hk⟩ | ⟨rfl,S,n,hk⟩
  ·obtain⟨its,_,pl,_⟩:=I.list hq
   refine⟨pl.isList.typeIs,fun a e=>?_⟩
   cases e
   obtain⟨o,n,e,c,hd,_⟩:=pl
   exact⟨o,e,hd⟩
  ·refine⟨⟨o,I.kIn p o hk,hc⟩,fun a e=>?_⟩
   cases e
   exact⟨o,I.kIn _ o hk,hd⟩
  ·have z:∃o,s.heap.get? p=some o∧o.ExactDict:=by
    rcases hk with ⟨kvs,hk⟩ | ⟨kvs,hk⟩
    ·obtain⟨_,_,_,_,o,_,_,e,ex,_⟩:=I.hok p _ hk
     exact⟨o,e,ex⟩
    ·obtain⟨_,_,_,_,o,_,_,e,ex,_⟩:=I.hok p _ hk
     exact⟨o,e,ex⟩
   obtain⟨o,e,ex⟩:=z
   refine⟨⟨o,e,ex.1⟩,fun a e2=>?_⟩
   cases e2
   exact⟨o,e,ex.2.1⟩
  ·obtain⟨o,_,_,_,e,ex,_⟩:=I.hok p _ hk
   refine⟨⟨o,e,ex.1⟩,fun a e2=>?_⟩
   cases e2
   exact⟨o,e,ex.2.1⟩
 | _=>exact False.elim ty
def xhj (K:PySem.W.Frag)(T:String)(r:V→List V→Hp→VK→Prop)(to:TE):TE:=fun σ H Q=>to σ H fun x H1=>tyV K T x H1∧r x [] H1 Q
def tBM (K:PySem.W.Frag)(T:String)(r:V→List V→Hp→VK→Prop)(to:TE)(t:TA):TE:=fun σ H Q=>to σ H fun x H1=>tyV K T x H1∧t σ H1 fun xs H2=>r x xs H2 Q
variable {o e:Expr} {es:List Expr} {to:TE} {t:TA} {name:Str} {apos cpos:Pos} {T id:String} {r:V→List V→Hp→VK→Prop}
theorem xeX (pa:PlainAttrs T)(slot:Slot T name id)(hty:typeOf (.builtin id)=pure (.type "method_descriptor"))(hm:MtR X id r)(ho:PE X o to)
  (hbase:attributeBase o name X.env (eval o X.env)=eval o X.env:=by rfl) (hline:(apos.endLine == cpos.line)=true:=by rfl):PE X (.Call (.Attribute o name apos) [] [] cpos) (xhj X.K T r to):=by
 intro pins s σ H Q I h
 refine wpAny_Call_method0_late hbase hline (thn (@ho pins s σ H _ I h) fun v s1 ⟨x,H1,I1,r1,ty,q1⟩=>?_)
 obtain⟨h1,h2⟩:=xcG I1 r1 ty
 exact⟨T,id,pa,slot,hty,h1,h2,Calls.callWith_builtin rfl (PySem.evalArgs_none (@hm pins s1 σ H1 x [] v [] Q I1 r1 .nil q1))⟩
theorem fX (pa:PlainAttrs T)(slot:Slot T name id)(hty:typeOf (.builtin id)=pure (.type "method_descriptor"))(hm:MtR X id r)(ho:PE X o to)(ha:PA X (e::es) t)
  (hbase:attributeBase o name X.env (eval o X.env)=eval o X.env:=by rfl)
  (hfew:((backTo cpos (starEach (e::es) X.env)).all (fun x=>!x.1)&&(backToKw cpos (keywordEach [] X.env)).all (fun x=>x.1.isSome)
   && decide ((e::es).length+([]:List Keyword).length+(if ([]:List Keyword).isEmpty then 0 else 1)<30))=true:=by rfl)
  (hline:(apos.endLine == cpos.line)=true:=by rfl) (hs:starEach (e::es) X.env=(false,eval e X.env)::starEach es X.env:=by rfl) (hplain:(backTo cpos (starEach es X.env)).any (·.1)=false:=by rfl) :
  PE X (.Call (.Attribute o name apos) (e::es) [] cpos) (tBM X.K T r to t):=by
 intro pins s σ H Q I h
 refine wpAny_Call_method_late hbase hfew hline rfl (thn (@ho pins s σ H _ I h) fun v s1 ⟨x,H1,I1,r1,ty,q1⟩=>?_)
 obtain⟨h1,h2⟩:=xcG I1 r1 ty
 refine⟨T,id,pa,slot,hty,h1,h2,?_⟩
 have hA:=@ha cpos pins s1 σ H1 _ I1 q1
 rw[hs] at hA ⊢
 refine Calls.callWith_builtin (by show(false || (backTo cpos (starEach es X.env)).any (·.1))=false;rw[hplain]<;>rfl) (Calls.evalArgs_plain ?_)
 exact thn hA fun us s2 ⟨vs,H2,I2,r2,q2⟩=>@hm pins s2 σ H2 x vs v us Q I2 r1 r2 q2
end
end L2
namespace L2
open PySem PySem.Spec PyProof.Rows
def MtM (X:Cx)(id:String)(r:V→List V→Hp→VK→Prop):Prop :=
 ∀(pins:List (Addr×Obj)) (s:Shared) (σ:St) (H:Hp) (x:V) (xs:List V) (v:Value) (us:List Value) (Q:VK),Inv X pins σ H s→RelV x v→yS xs us→r x xs H Q →
  wpAny (model X.prog X.w) X.A (call (.builtin id) (v::us)) (EP X pins σ Q) X.xe s
theorem yS.one:∀ {x:V} {us:List Value},yS [x] us→∃u,us=[u]∧RelV x u
 | _,_,.cons r .nil=>⟨_,rfl,r⟩
theorem yS.zero:∀ {us:List Value},yS [] us→us=[]
 | _,.nil=>rfl
theorem yS.dropLast {xs:List V}{us:List Value}(h:yS xs us):yS xs.dropLast us.dropLast:=by
 induction h with
 | nil=>exact .nil
 | cons r t ih =>
  cases t with
  | nil=>exact .nil
  | cons q t'=>exact .cons r ih
theorem yS.rep {xs:List V}{us:List Value}(h:yS xs us):∀k:Nat,yS (List.replicate k xs).flatten (List.replicate k us).flatten
 | 0=>.nil
 | k+1=>by
  rw[xjy,xjy,xiK,xiK]
  exact yS.append h (yS.rep h k)
theorem pI {α:Type}(l:List α):l.eraseIdx (l.length-1)=l.dropLast:=by
 induction l with
 | nil=>rfl
 | cons a r ih =>
  cases r with
  | nil=>rfl
  | cons b r =>
   have e:(a::b::r).length-1=((b::r).length-1)+1:=by
    have h1:(a::b::r).length=r.length+2:=rfl
    have h2:(b::r).length=r.length+1:=rfl
    omega
   rw[e,List.eraseIdx_cons_succ,ih]
   all_goals rfl
theorem foldl_rep (its:List Value):∀(k:Nat) (acc:List Value),
  List.foldl (fun x1 x2=>x1++x2) acc.toArray (List.replicate k its.toArray)=(acc++(List.replicate k its).flatten).toArray
 | 0,acc=>by simp
 | k+1,acc=>by
  have e:acc.toArray++its.toArray=(acc++its).toArray:=by simp
  have e2:(acc++its)++(List.replicate k its).flatten=acc++(List.replicate (k+1) its).flatten:=by
   rw[xjy,xiK,xiy]
  rw[←e2,←foldl_rep its k (acc++its),←e,xjy,xiM]
section
variable {X:Cx} {pins:List (Addr×Obj)} {σ:St} {H:Hp} {s:Shared} {l b:Addr} {xs ys zs:List V}
theorem Inv.lset {its its':List Value}{n:Nat}{f:Array Value→Array Value}{t':Nat}(I:Inv X pins σ H s)(hH:H l=some (.lst xs))
  (e:s.heap.get? l=some { cls:=.type "list", data:=.seq its.toArray n }) (hf:f its.toArray=its'.toArray) (hv:yS ys its') (hz:ys.length≤sizeLine) :
  Inv X pins σ (upd H l (.lst ys)) { s with heap:=s.heap.update l (Obj.mapSeq f),toks:=t' }:=by
 have q:=PySem.IsL.update e f
 rw[hf] at q
 refine I.write (x:=l) (e:=l) (by rw[hH];exact trivial) (.inl rfl) (fun b' u hb hu=>(Heap.get?_update_other s.heap (Obj.mapSeq f) (Ne.symm hb)).trans hu) ⟨_,q⟩ ?_
 exact⟨hz,its',_,hv,q⟩
theorem Inv.lnew {its:List Value}{t':Nat}(I:Inv X pins σ H s)(hv:yS ys its)(hz:ys.length≤sizeLine) :
  Inv X pins σ (upd H s.heap.objs.size (.lst ys)) { s with heap:=s.heap.push { cls:=.type "list", data:=.seq its.toArray },toks:=t' } :=
 I.laid (fun _ _ q=>Heap.get?_push_of_some _ q) (xjK _) ⟨hz,its,0,hv,Heap.get?_push_size _ rfl⟩
theorem Inv.fresh (I:Inv X pins σ H s):H s.heap.objs.size=none:=I.hok.fresh (xjK _)
theorem Inv.lstM (I:Inv X pins σ H s)(hH:H l=some (.lst xs)):xs.length≤sizeLine∧∃(its:List Value) (n:Nat),yS xs its∧xs.length=its.length∧s.heap.get? l=some { cls:=.type "list", data:=.seq its.toArray n }:=by
 obtain⟨z,its,n,r,e⟩:=I.hok l _ hH
 exact⟨z,its,n,r,r.length,e⟩
theorem xbE {n:Nat}(h:n≤sizeLine):Builtin.List.listTooLong n=false:=by
 unfold Builtin.List.listTooLong
 exact xj2 (by omega)
end
section
variable {X:Cx}
def oK:V→List V→Hp→VK→Prop:=fun x vs H Q=>∃l xs y,x=.ref l∧vs=[y]∧H l=some (.lst xs)∧xs.length<sizeLine∧Q .non (upd H l (.lst (xs++[y])))
theorem wJ:MtM X "list.append" oK:=by
 intro pins s σ H x vs v us Q I rx rv h
 obtain⟨l,xs,y,rfl,rfl,hH,hz,q⟩:=h
 cases rx
 obtain⟨u,rfl,ru⟩:=rv.one
 obtain⟨z,its,n,r,hl,e⟩:=I.lstM hH
 refine call_meets F.slot_list_append ⟨_,e,rfl⟩ F.entry_list_append (F.args_list_append_2 _ _) (PySem.list_append l its.toArray n u (by rw[xjC];omega)) ⟨e,?_⟩
 refine⟨.non,_,I.lset (its':=its++[u]) hH e (by simp) (r.append (.cons ru .nil)) ?_,rfl,q⟩
 rw[xiW,xi5]
 omega
def xgT:V→List V→Hp→VK→Prop:=fun x vs H Q=>∃l xs y,x=.ref l∧vs=[]∧H l=some (.lst xs)∧xs[xs.length-1]? = some y∧Q y (upd H l (.lst xs.dropLast))
theorem xfl:MtM X "list.pop" xgT:=by
 intro pins s σ H x vs v us Q I rx rv h
 obtain⟨l,xs,y,rfl,rfl,hH,hy,q⟩:=h
 cases rx
 have hus:=rv.zero
 subst hus
 obtain⟨z,its,n,r,hl,e⟩:=I.lstM hH
 obtain⟨u,hu,ru⟩:=r.get hy
 have hy':its.toArray[its.toArray.size-1]? = some u:=by
  show its.toArray[its.length-1]? = some u
  rw[←Array.getElem?_toList,←hl]
  exact hu
 refine call_meets F.slot_list_pop ⟨_,e,rfl⟩ F.entry_list_pop (F.args_list_pop_1 _) (MeetsSeq.list_pop_last l its.toArray n u hy' (by rw[xjC];omega)) ⟨e,?_⟩
 refine⟨y,_,I.lset (its':=its.dropLast) hH e ?_ r.dropLast ?_,ru,q⟩
 ·show its.toArray.eraseIdxIfInBounds (its.toArray.size-1)=its.dropLast.toArray
  rw[xjC,List.eraseIdxIfInBounds_toArray,pI]
 ·rw[List.length_dropLast]
  omega
def xfZ:R2:=fun x y H Q=>∃l b xs zs,x=.ref l∧y=.ref b∧H l=some (.lst xs)∧H b=some (.lst zs)∧xs.length+zs.length≤sizeLine∧∀p,H p=none→Q (.ref p) (upd H p (.lst (xs++zs)))
theorem dZ:OpR X (binaryOp .Add) xfZ:=by
 intro pins s σ H x y v u Q I rx ry h
 obtain⟨l,b,xs,zs,rfl,rfl,hH,hB,hz,q⟩:=h
 cases rx
 cases ry
 obtain⟨z,its,n,r,hl,e⟩:=I.lstM hH
 obtain⟨z2,its2,n2,r2,hl2,e2⟩:=I.lstM hB
 refine PySem.P.add_list e e2 ?_ (by rw[xjC,xjC];omega)
 have ea:its.toArray++its2.toArray=(its++its2).toArray:=by simp
 rw[ea]
 exact⟨.ref _,_,I.lnew (t':=s.toks) (r.append r2) (by rw[xiW];omega),rfl,q _ I.fresh⟩
def xgW:R2:=fun x y H Q=>∃l k xs,x=.ref l∧y=.int k∧H l=some (.lst xs)∧-(2 ^ 63)≤k∧k<2 ^ 63∧xs.length*k.toNat≤sizeLine ∧
 ∀p,H p=none→Q (.ref p) (upd H p (.lst (List.replicate k.toNat xs).flatten))
theorem len_rep {α:Type}(xs:List α)(k:Nat):(List.replicate k xs).flatten.length=k*xs.length:=by
 induction k with
 | zero=>simp
 | succ k ih=>rw[xjy,xiK,xiW,ih,Nat.succ_mul,Nat.add_comm]
theorem xeu:OpR X (binaryOp .Mult) xgW:=by
 intro pins s σ H x y v u Q I rx ry h
 obtain⟨l,k,xs,rfl,rfl,hH,h1,h2,hz,q⟩:=h
 cases rx
 obtain⟨t,rfl⟩:=ry
 obtain⟨z,its,n,r,hl,e⟩:=I.lstM hH
 have hlen:its.toArray.size*k.toNat≤sizeLine:=by rw[xjC,←hl];exact hz
 have hcap:¬its.toArray.size*k.toNat>(2 ^ 63-1) / 8:=by
  have:(sizeLine:Nat)≤(2 ^ 63-1) / 8:=by decide
  omega
 have hfit:¬(!Builtin.List.listFitsIndex k)=true:=by
  rw[fitsIndex_both h1 h2]
  exact xhZ
 have hlong:¬Builtin.List.listTooLong (its.toArray.size*k.toNat)=true:=by
  rw[xbE hlen]
  exact xhZ
 have hnew:List.foldl (fun x1 x2=>x1++x2) #[] (List.replicate (if its.toArray.isEmpty=true then 0 else k.toNat) its.toArray)=(List.replicate k.toNat its).flatten.toArray:=by
  have f0:∀m:Nat,List.foldl (fun x1 x2=>x1++x2) #[] (List.replicate m its.toArray)=(List.replicate m its).flatten.toArray:=fun m=>by
   have:=foldl_rep its m []
   rw[xjr] at this
   exact this
  rw[f0]
  cases its with
  | nil=>simp
  | cons a r'=>rw[if_neg (by simp)]
 refine wpAny_binaryOp_repeat_ref (T := "list") (U := "int") (by decide) ⟨_,e,rfl⟩ (fun s'=>typeIs_int s' k t) noFill_list_mul F.fills_int_mul F.slot_int_rmul repeat_list F.slot_int_index.lookup
  (call_meets F.slot_int_rmul (typeIs_int s k t) F.entry_int_rmul (F.args_int_rmul_2 _ _) (int___rmul___int_list k t l its.toArray n)
   ⟨e,rfl,⟨_,e,rfl⟩,call_meets F.slot_list_mul ⟨_,e,rfl⟩ F.entry_list_mul (F.args_list_mul_2 _ _) (AutoListH.list___mul___list_int_3 l its.toArray n k t hfit hcap hlong) ⟨e,?_⟩⟩)
 rw[hnew]
 exact⟨.ref _,_,I.lnew (t':=s.toks) (r.rep k.toNat) (by rw[len_rep,Nat.mul_comm];exact hz),rfl,q _ I.fresh⟩
end
section
variable {prog:Program} {w:World} {A:Around} {E:Value→Shared→Prop} {s:Shared}
end
section
variable {X:Cx}
end
end L2
namespace Att
open PySem PySem.W PySem.Calls PyProof.Rows
theorem gP {P:Params}{h:Heap}:∀(ns:List Int) (vs:List Value),WellAll P h vs (ns.map WData.int)→IntsAre vs ns:=by
 intro ns
 induction ns with
 | nil =>
  intro vs w
  rw[xja] at w
  cases w
  exact .nil
 | cons n ns ih =>
  intro vs w
  rw[xi9] at w
  cases w with
  | cons a b =>
   cases a
   exact .cons _ _ (ih _ b)
theorem xaW {l:OpenLaw}{n:Nat}(hn:l.most=some n){P:Params}{h:Heap}{args:List WData}{vals:List Value}
  (hpre:l.row.toRowW.claim.pre args=true) (hwl:WellAll P h vals args) :
  ∃a vs ns,vals=[Value.ref a]∧args=[WData.list (ns.map WData.int)]∧h.get? a=some { cls:=.type "list", data:=.seq vs.toArray }∧IntsAre vs ns∧ns.length≤n:=by
 have hsh:WShape.hasAll [] args [.list .int]=true:=(pre_splitW hpre).1
 have hc:l.pre.holds [] { args:=args }=true:=(pre_splitW hpre).2
 obtain⟨d,r,rfl,h1,h2⟩:=hasAllW_cons hsh
 obtain rfl:=hasAllW_nil h2
 obtain⟨xs,rfl,h3⟩:=hasW_list h1
 obtain⟨ns,rfl⟩:=items_int h3
 have hlen:ns.length≤n:=by
  unfold OpenLaw.pre at hc
  have h4:(WTm.not (.lt (.lit (.int (n:Int))) (.len (.arg 0)))).holds [] { args:=[.list (ns.map .int)] }=true:=by
   have h4:=(holds_andW hc).1
   rw[hn] at h4
   exact h4
  have h5:=condW_of h4 (w_not (w_lt w_lit (w_len_list (w_arg rfl))))
  rw[xi0] at h5
  refine Nat.le_of_not_lt fun q=>?_
  have q':(n:Int)<((ns.length:Nat):Int):=by omega
  first
   | (rw[xj3 q'] at h5;exact absurd h5 (by decide))
   | (simp at h5;omega)
 cases hwl with
 | cons w1 w2 =>
  cases w2
  cases w1 with
  | list ho hall=>exact⟨_,_,ns,rfl,rfl,ho,gP ns _ hall,hlen⟩
theorem xan (l:OpenLaw)(args:List WData):l.row.toRowW.claim.post args (.bool true) args=true :=
 postW_of (r:=l.row.toRowW) (X:=(true == true))
  (show WShape.has [] (.bool true) .bool=true by first | rfl | decide | simp[WShape.has,WShape.arms,WShape.armsAll])
  (show(WTm.eq .res (.lit (.bool true))).value [] { args:=args,res:=some (.bool true),after:=args }=some (.bool (true == true)) from w_eq_bool (w_res rfl) w_lit) rfl
theorem gH {l:OpenLaw}{n:Nat}{q:Program}{loose:List Str}{XP:(Str→Option Value)→Heap→Prop}{YP:World→Heap→Prop}{d:DefRec}
  (hn:l.most=some n) (hdf:d.params.defaults=[])
  (call:∀(w:World) (s₀ s₁:Shared) (mg mb:Str→Option Value) (fa:Addr) (o:Obj) (pm cd doc:Value) (a:Addr) (vs:List Value) (ns:List Int),
   Ground q loose [] XP w s₀ mg mb s₁.heap→YP w s₁.heap →
   s₁.heap.get? fa=some o→o.data=.func (docDef d.name d.params d.body d.scope pm cd doc)→s₁.heap.CodeRec cd d.name→mg d.name=some (.ref fa) →
   s₁.heap.get? a=some { cls:=.type "list", data:=.seq vs.toArray }→IntsAre vs ns→ns.length≤n→s₁.gens = #[] →
   codeAny (model l.prog w) callerA (.call (.ref fa) ⟨[.ref a],[]⟩) (fun r s'=>r=.ok (.ret (.bool true))∧OldK s₁.heap s'.heap∧s'.os=s₁.os∧AllBare s'.gens) s₁) :
  WalkO q loose XP YP l.row.toRowW d [] (fun f vs=>PySem.call f vs):=by
 intro w s₀ s₁ mg mb G Y fa o pm cd doc dV kV ho hd hcd hD hmg hg args vals as hpre hlay hrd hwl hlo
 obtain rfl:dV=.none:=Dflts.none hD hdf
 obtain rfl:kV=.none:=Dflts.noKw hD
 obtain⟨a,vs,ns,rfl,rfl,hobj,hints,hlen⟩:=xaW hn hpre hwl
 refine enter_call (codeAny_mono (call w s₀ s₁ mg mb fa o pm cd doc a vs ns G Y ho (fd_plain hd) hcd hmg hobj hints hlen hg) fun r s' hq=>?_)
 obtain⟨rfl,h2,h3,h4⟩:=hq
 exact⟨.inl ⟨.bool true,.bool true,[],rfl,fun _=>rfl,.bool true,xan l _,fun _=>⟨List.Pairwise.nil,fun _ hm=>(nomatch hm)⟩⟩,h2,h3,h4⟩
section
variable {prog:Program} {w:World} {A:Around} {E:Value→Shared→Prop} {s:Shared} {K:Frag}
def ledger (h:Heap)(L d:Addr):List (Addr×Obj):=(List.range h.objs.size).filterMap fun a=>if a=L∨a=d then none else(h.get? a).map fun o=>(a,o)
end
end Att
namespace L2
open PySem PySem.Spec PyProof.Rows
theorem fm:∀ {vs:List Value} {ns:List Int},IntsAre vs ns→yS (ns.map V.int) vs
 | _,_,.nil=>.nil
 | _,_,.cons n t h=>.cons ⟨t,rfl⟩ (fm h)
def xgA (H:Hp):Prop:=∀b,H b=none∨∃o xs,H b=some (.frz o (.lst xs))
theorem xbo {P:Program}{w:World}{K:PySem.W.Frag}{mg mb:Str→Option Value}{CX:CXT}{k:Nat}{fa a:Addr}{fd:FuncData}{x:Str}{sp:Sp}{s₁:Shared}{vs:List Value}{ns:List Int}
  (KX:K.In s₁.heap) (hns:s₁.heap.Ns mainGlobals mg) (hb:s₁.heap.Ns builtinsNs mb) (hbb:∀x:Str,x ≠ "__name__" → mb x=bootBuiltins x) (hlim:s₁.heap.NoLimit) (hg:s₁.gens = #[])
  (ha:s₁.heap.get? a=some { cls:=.type "list", data:=.seq vs.toArray }) (hi:IntsAre vs ns) (hl:ns.length≤sizeLine) (hr:qZ k callerA)
  (F:∀base:Heap,K.In base→base.Ns mainGlobals mg→dz P w K mg base CX k fa fd [x] sp) (hbind:∀(s:Shared) (u:Value),BindsTo s fd ⟨[u],[]⟩ [(x,u)])
  (hsp:∀H:Hp,xgA H→SqL K H a (ns.map V.int)→sp [.ref a] H (fun v _=>v=.bl true) fun _ _ _=>False)
  (hCX:∀H e s',CX [] H s₁ (fun _ _ _=>False) e s'→False) :
  codeAny (model P w) callerA (.call (.ref fa) ⟨[.ref a],[]⟩) (fun r s'=>r=.ok (.ret (.bool true))∧OldK s₁.heap s'.heap∧s'.os=s₁.os∧AllBare s'.gens) s₁:=by
 have rv:=fm hi
 have lenV:=hi.length
 have core:∀H:Hp,xgA H→SqL K H a (ns.map V.int)→HOk P w H s₁.heap→(∀b,H b≠none→b=a)→(H a≠none→K.lookup a=none) →
   codeAny (model P w) callerA (.call (.ref fa) ⟨[.ref a],[]⟩) (fun r s'=>r=.ok (.ret (.bool true))∧OldK s₁.heap s'.heap∧s'.os=s₁.os∧AllBare s'.gens) s₁:=by
  intro H hO hS hok hA hK
  have base_of:∀ {b:Addr} {o:Obj},s₁.heap.get? b=some o→H b=none→(cN s₁.heap H).get? b=some o:=fun e n=>bj e n
  have noA:∀ {b:Addr} {o:Obj} {es:Array DictEntry} {ep:Nat},s₁.heap.get? b=some o→o.data=.dict es ep→H b=none:=fun {b o es ep} e d=>by
   cases q:H b with
   | none=>rfl
   | some u =>
    have e':b=a:=hA b (by rw[q];simp)
    subst e'
    rw[ha] at e;cases e
    have d':Data.seq vs.toArray _=Data.dict es ep:=d
    cases d'
  have nsK:∀ {b:Addr} {m:Str→Option Value},s₁.heap.Ns b m→(cN s₁.heap H).Ns b m:=fun {b m} ⟨o,es,ep,e,d,r⟩=>⟨o,es,ep,base_of e (noA e d),d,r⟩
  have hKb:K.In (cN s₁.heap H):=fun b o e=>base_of (KX b o e) (by
   cases q:H b with
   | none=>rfl
   | some u =>
    have e':b=a:=hA b (by rw[q];simp)
    subst e'
    rw[hK (by rw[q];simp)] at e;cases e)
  have hM:Mod K mg (cN s₁.heap H):=⟨hKb,nsK hns,⟨mb,nsK hb,hbb⟩,let ⟨mc,h1,h2⟩:=hlim;⟨mc,nsK h1,h2⟩⟩
  have e0:xbV P w K mg (cN s₁.heap H) callerA [] s₁ H:=⟨rfl,hM,fun b o e=>oC e,Nat.le_of_eq (rN _ _),trivial,fun b hb=>absurd (show b∈([]:List Addr) from hb) (by simp),hok,.of_eq hg⟩
  refine codeAny_mono ((F _ hKb (nsK hns)).run callerA [] s₁ H ⟨[.ref a],[]⟩ [.ref a] [.ref a] _ _ hr e0 (hbind s₁ (.ref a)) (.cons rfl .nil) (hsp H hO hS)) fun r s' h=>?_
  cases r with
  | error e=>exact(hCX H e s' h).elim
  | ok fl =>
   cases fl with
   | next=>exact False.elim h
   | brk=>exact False.elim h
   | cont=>exact False.elim h
   | ret u =>
    obtain⟨v,H',os,bare,un,hok',r',q⟩:=h
    have q':v=.bl true:=q
    subst q'
    obtain rfl:u=Value.bool true:=r'
    refine⟨rfl,OldK.of_keep fun b o e=>?_,os,bare⟩
    cases q:H b with
    | none=>exact un.keep b o e q (by intro z;exact absurd (show b∈([]:List Addr) from z) (by simp)) (by simp)
    | some u =>
     rcases hO b with z | ⟨ob,xs,z⟩
     ·rw[q] at z;cases z
     ·have z2:=un.frzs b ob _ z
      obtain⟨e1,_⟩:=hok b _ z
      obtain⟨e2,_⟩:=hok' b _ z2
      rw[e] at e1;cases e1
      exact e2
 cases hk:K.lookup a with
 | some o =>
  have e:=KX a o hk
  rw[ha] at e
  cases e
  refine core (fun _=>none) (fun _=>.inl rfl) (.inr ⟨_,vs.toArray,_,hk,rfl,rfl,rfl,by rw[xjC,lenV];exact hl,by simpa using rv⟩) (fun b u z=>by have z':(none:Option HO)=some u:=z;cases z') (fun b z=>absurd rfl z) fun z=>absurd rfl z
 | none =>
  refine core (fun b=>if b=a then some (.frz { cls:=.type "list", data:=.seq vs.toArray } (.lst (ns.map V.int))) else none) (fun b=>?_) (.inl (.inr ⟨{ cls:=.type "list", data:=.seq vs.toArray },if_pos rfl⟩)) (fun b u z=>?_) (fun b z=>?_) fun _=>hk
  ·by_cases hb:b=a
   ·exact .inr ⟨_,_,if_pos hb⟩
   ·exact .inl (if_neg hb)
  ·by_cases hb:b=a
   ·have z':=(if_pos hb).symm.trans z
    cases z'
    subst hb
    exact⟨ha,by rw[xi0];exact hl,vs,_,rv,ha⟩
   ·have z':=(if_neg hb).symm.trans z
    cases z'
  ·by_cases hb:b=a
   ·exact hb
   ·exact absurd (if_neg hb) z
end L2
namespace L2
open PySem PySem.Spec PyProof.Rows
abbrev KOf {K:PySem.W.Frag}{h:Heap}(_:K.In h):PySem.W.Frag:=K
theorem xgE {l:PySem.W.OpenLaw}{n k:Nat}{q:Program}{loose:List Str}{XP:(Str→Option Value)→Heap→Prop}{YP:World→Heap→Prop}{d:DefRec}{K:Params→PySem.W.Frag}{CX:World→CXT}{sp:World→Sp}{x:Str}
  (hn:l.most=some n) (hn2:n≤sizeLine) (hdf:d.params.defaults=[]) (hr:qZ k callerA)
  (hY:∀(w:World) (h:Heap),YP w h→(K w.params).In h)
  (F:∀(w:World) (mg:Str→Option Value) (fa:Addr) (h:Heap),(K w.params).In h→h.Ns mainGlobals mg→mg d.name=some (.ref fa) →
   ∃fd:FuncData,(∀(s:Shared) (u:Value),BindsTo s fd ⟨[u],[]⟩ [(x,u)]) ∧
    ∀base:Heap,(K w.params).In base→base.Ns mainGlobals mg→dz l.prog w (K w.params) mg base (CX w) k fa fd [x] (sp w))
  (hsp:∀(w:World) (H:Hp) (a:Addr) (ns:List Int),ns.length≤n→xgA H→SqL (K w.params) H a (ns.map V.int)→sp w [.ref a] H (fun v _=>v=.bl true) fun _ _ _=>False)
  (hCX:∀(w:World) (H:Hp) (s:Shared) (e:Value) (s':Shared),CX w [] H s (fun _ _ _=>False) e s'→False) :
  PySem.W.WalkO q loose XP YP l.row.toRowW d [] (fun f vs=>PySem.call f vs):=by
 refine Att.gH hn hdf fun w s₀ s₁ mg mb fa o pm cd doc a vs ns G Y ho hd hcd hmg hobj hints hlen hg=>?_
 have KX:=hY w _ Y
 obtain⟨fd,hb,hF⟩:=F w mg fa _ KX G.T.g hmg
 exact xbo KX G.T.g G.T.b G.T.builtins G.T.nolimit hg hobj hints (xjM hlen hn2) hr hF hb (fun H hO hS=>hsp w H a ns hlen hO hS) fun H e s'=>hCX w H s₁ e s'
end L2
namespace L2
open PySem PySem.Spec PyProof.Rows
def wu (s:Stmt):Arguments:=match s with
 | .FunctionDef _ a _ _ _ _ _ _ _ _=>a
 | _=>{ posonlyargs:=[],args:=[],vararg:=none,kwonlyargs:=[],kw_defaults:=[],kwarg:=none,defaults:=[] }
def yQ (s:Stmt):List Stmt:=match s with
 | .FunctionDef _ _ b _ _ _ _ _ _ _=>b
 | _=>[]
def xh (s:Stmt):Scope:=match s with
 | .FunctionDef _ _ _ _ _ _ sc _ _ _=>sc
 | _=>{ kind:=.function,names:=[],isGenerator:=false,isCoroutine:=false }
abbrev CX0:CXT:=fun _ _ _ _ _ _=>False
abbrev E0:XK:=fun _ _ _=>False
theorem xgB {X:Cx}:ft CX0 X E0:=fun _ _ _ _ _ _ _ h=>h.elim
structure Fun (K:PySem.W.Frag)(x qual:Str)(st:Stmt)(f:Addr)(fd:FuncData):Prop where
 ex:∃(oc:Value) (od:Option Addr) (kV doc pm:Value) (an:Option Addr) (cdv ct:Value) (osl:Array (Option Value)),
  fd=PySem.W.fnOf x qual (wu st) (yQ st) (xh st) .none kV doc pm an cdv ct∧K.lookup f=some ⟨oc,od,.func fd,osl⟩∧PySem.W.codeIn K cdv qual=true
 kp:PySem.W.keepIn K (.ref f)=true
section
variable {P:Program} {w:World} {K:PySem.W.Frag} {mg:Str→Option Value} {base:Heap}
theorem Fun.ok {x qual:Str}{st:Stmt}{f:Addr}{fd:FuncData}{N ps:List Str}{k:Nat}{sp:Sp}(F:Fun K x qual st f fd)(S:xA N ps (xh st))(len:∀vs H Q E,sp vs H Q E→vs.length=ps.length)
  (hbody:∀(cdv:Value) (A:Around) (outer:List Env) (s:Shared) (H:Hp) (vs:List V) (Q:VK) (E:XK),qZ k (A.deeper (envOfC qual (xh st) s.heap.objs.size f cdv))→sp vs H Q E →
   ∃t,PSs (gc CX0 P w K mg base N qual (xh st) f cdv A outer s H E).nox (yQ st) t∧t { nx:=fun _ H'=>Q .non H',rt:=Q } (start N vs) H):dz P w K mg base CX0 (k+1) f fd ps sp:=by
 obtain⟨oc,od,kV,doc,pm,an,cdv,ct,osl,rfl,lk,hcd⟩:=F.ex
 refine xbO lk hcd S len fun A outer s H vs Q E hr hsp=>?_
 obtain⟨t,h,q⟩:=hbody cdv A outer s H vs Q E hr hsp
 exact⟨t,h.nox,q⟩
theorem Fun.binds {x qual:Str}{st:Stmt}{f:Addr}{fd:FuncData}{ps:List Str}(F:Fun K x qual st f fd)
  (h:∀(kV doc pm:Value) (an:Option Addr) (cdv ct:Value) (us:List Value),us.length=ps.length→bindArgs (PySem.W.fnOf x qual (wu st) (yQ st) (xh st) .none kV doc pm an cdv ct) ⟨us,[]⟩=pure (ps.zip us)):Binds K fd ps []:=by
 obtain⟨oc,od,kV,doc,pm,an,cdv,ct,osl,rfl,lk,hcd⟩:=F.ex
 exact .all (h kV doc pm an cdv ct)
theorem oZ {x qual:Str}{st:Stmt}{f:Addr}{oc:Value}{od an:Option Addr}{osl:Array (Option Value)}{kV doc pm cdv ct:Value}(l:K.lookup f=some ⟨oc,od,.func (PySem.W.fnOf x qual (wu st) (yQ st) (xh st) .none kV doc pm an cdv ct),osl⟩)
  (c:PySem.W.codeIn K cdv qual=true) (k:PySem.W.keepIn K (.ref f)=true):Fun K x qual st f (PySem.W.fnOf x qual (wu st) (yQ st) (xh st) .none kV doc pm an cdv ct):=⟨⟨oc,od,kV,doc,pm,an,cdv,ct,osl,rfl,l,c⟩,k⟩
end
theorem lh {n:Nat}(h:n≤1000):n<sizeLine:=xjO h (by decide)
section
variable {X:Cx}
theorem pv (i:Nat){x:Str}{pos:Pos}(hN:X.N[i]? = some x:=by rfl)(hv:Vis X.env.scope x:=by first | exact Or.inl rfl | exact Or.inr (Or.inl rfl) | exact Or.inr (Or.inr rfl))(hd:(x == ("__debug__" : Str))=false:=by decide)
  (hcd:(x == ("__classdict__" : Str))=false:=by decide):PE X (.Name x pos) (dD i):=xcY hN hv hd hcd
end
theorem nJ {A B:Prop}(h:B):if false=true then A else B:=by
 rw[if_neg xhZ]
 exact h
theorem om {A B:Prop}(h:A):if true=true then A else B:=by
 rw[if_pos rfl]
 exact h
theorem xha {c A B:Prop}[Decidable c](h1:c→A)(h2:¬c→B):if c then A else B:=by
 by_cases h:c
 ·rw[if_pos h]
  exact h1 h
 ·rw[if_neg h]
  exact h2 h
end L2
namespace L2
open PySem PySem.Spec PyProof.Rows
def jV (env:Env):List (Str×NameKind)→List (Str×Addr)→List (Str×Addr)
 | [],cs=>cs
 | (n,k)::r,cs=>if k == NameKind.free then(match env.cells.lookup n with | some a=>jV env r ((n,a)::cs) | none=>jV env r cs) else jV env r cs
theorem nY {env:Env}:∀(l:List (Str×NameKind)) (cs:List (Str×Addr)),(∀y∈l,y.2=NameKind.free→∃c,env.cells.lookup y.1=some c) →
  (forIn l cs (fun(x:Str×NameKind) (r:List (Str×Addr))=>(if (x.2 == NameKind.free)=true then(do let a ←cellOf env x.1;pure (ForInStep.yield ((x.1,a)::r))) else pure (ForInStep.yield r):Sem (ForInStep (List (Str×Addr))))))=pure (jV env l cs)
 | [],cs,_=>rfl
 | (n,k)::r,cs,h=>by
  rw[List.forIn_cons]
  have hr:∀y∈r,y.2=NameKind.free→∃c,env.cells.lookup y.1=some c:=fun y hy=>h y (xjg _ hy)
  by_cases hk:k=NameKind.free
  ·subst hk
   obtain⟨c,hc⟩:=h (n,.free) xjh rfl
   have hc':env.cells.lookup n=some c:=hc
   have e1:cellOf env n=pure c:=by unfold cellOf;rw[hc']
   have e2:jV env ((n,.free)::r) cs=jV env r ((n,c)::cs):=by
    show(if (NameKind.free == NameKind.free)=true then _ else _)=_
    rw[if_pos (show(NameKind.free == NameKind.free)=true from rfl),hc']
   rw[e2,if_pos (show((NameKind.free == NameKind.free)=true) from rfl),e1,pure_bind,pure_bind]
   exact nY r _ hr
  ·have hb:(k == NameKind.free)=false:=by simpa using hk
   have e2:jV env ((n,k)::r) cs=jV env r cs:=by
    show(if (k == NameKind.free)=true then _ else _)=_
    rw[hb];rfl
   rw[e2,if_neg (by rw[hb];exact xhZ),pure_bind]
   exact nY r _ hr
theorem mY {sc:Scope}{env:Env}(h:∀y∈sc.names,y.2=NameKind.free→∃c,env.cells.lookup y.1=some c):closureFor sc env=pure (jV env sc.names []):=by
 have q:=nY (env:=env) sc.names [] h
 unfold closureFor
 show(do let r ←forIn sc.names [] (fun(x:Str×NameKind) (r:List (Str×Addr))=>_);pure r)=_
 rw[show(forIn sc.names ([]:List (Str×Addr)) (fun(x:Str×NameKind) (r:List (Str×Addr))=>match x with
   | (name,kind)=>if (kind == NameKind.free)=true then(do let a ←cellOf env name;pure (ForInStep.yield ((name,a)::r))) else pure (ForInStep.yield r)):Sem (List (Str×Addr)))=pure (jV env sc.names []) from q]
 rfl
theorem wU {env:Env}{x:Str}{c:Addr}:∀(l:List (Str×NameKind)) (cs:List (Str×Addr)),(jV env l cs).lookup x=some c→(∀c,cs.lookup x=some c→env.cells.lookup x=some c)→env.cells.lookup x=some c
 | [],cs,h,hc=>hc c h
 | (n,k)::r,cs,h,hc=>by
  unfold jV at h
  split at h
  ·split at h
   ·rename_i a ha
    refine wU r _ h fun c' h'=>?_
    rw[xi7] at h'
    by_cases e:x == n
    ·rw[e] at h'
     have:x=n:=by simpa using e
     rw[this,ha];exact h'
    ·have e':(x == n)=false:=by simpa using e
     rw[e'] at h'
     exact hc c' h'
   ·exact wU r _ h hc
  ·exact wU r _ h hc
theorem js {env:Env}{x:Str}{c:Addr}(he:env.cells.lookup x=some c):∀(l:List (Str×NameKind)) (cs:List (Str×Addr)),cs.lookup x=some c→(jV env l cs).lookup x=some c
 | [],cs,h=>h
 | (n,k)::r,cs,h=>by
  unfold jV
  split
  ·split
   ·rename_i a ha
    refine js he r _ ?_
    rw[xi7]
    by_cases e:x == n
    ·rw[e]
     have e':x=n:=by simpa using e
     rw[e',ha] at he
     exact he
    ·have e':(x == n)=false:=by simpa using e
     rw[e']
     exact h
   ·exact js he r _ h
  ·exact js he r _ h
theorem qG {env:Env}{x:Str}{c:Addr}(he:env.cells.lookup x=some c):∀(l:List (Str×NameKind)) (cs:List (Str×Addr)),(x,NameKind.free)∈l→(jV env l cs).lookup x=some c
 | (n,k)::r,cs,h=>by
  rcases xjf.mp h with e | e
  ·have e1:n=x:=xj0 (·.1) e.symm
   have e2:k=.free:=xj0 (·.2) e.symm
   subst e1 e2
   unfold jV
   rw[if_pos (show(NameKind.free == NameKind.free)=true from rfl),he]
   exact js he r _ (by rw[xi7];simp)
  ·unfold jV
   split
   ·split
    ·exact qG he r _ e
    ·exact qG he r _ e
   ·exact qG he r _ e
def x_ (X:Cx)(sc:Scope)(N:List Str)(C:Addr)(s:Shared)(H:Hp)(ex:List Addr):Cx :=
 { X with N:=N,s₀:=s,H₀:=H,env:=compEnvC sc (jV X.env sc.names []) C X.env,outer:=X.stack,stack:=X.stack,ex:=ex,fn:=fun _=>false,pn:=[],xe:=fun _ _=>False }
def xaV (XN:List Str)(xs sc:Scope)(N:List Str)(tau:List (Option Nat)):Bool :=
 decide (sc.kind=.function)&&sc.names.all (fun y=>decide (y.2≠.cell))&&sc.names.all (fun y=>decide (y.2≠.local) || decide (sc.names.lookup y.1=some .local))&&decide N.Nodup&&decide (tau.length=N.length) &&
 (tau.zip N).all (fun p=>match p.1 with | none=>true | some j=>decide (XN[j]? = some p.2)&&decide (sc.names.lookup p.2=some .free)) &&
 sc.names.all (fun y=>decide (y.2≠.free) || decide (xs.names.lookup y.1=some .cell) || decide (xs.names.lookup y.1=some .free))&&decide (xs.kind=.function)
structure vE (X:Cx)(sc:Scope)(N:List Str)(tau:List (Option Nat)):Prop where
 kind:sc.kind=.function
 nocell:∀y∈sc.names,y.2≠.cell
 loc:∀y∈sc.names,y.2=.local→sc.names.lookup y.1=some .local
 nd:N.Nodup
 len:tau.length=N.length
 out:∀(i j:Nat) (x:Str),tau[i]? = some (some j)→N[i]? = some x→X.N[j]? = some x∧sc.names.lookup x=some .free
 fr:∀y∈sc.names,y.2=.free→X.env.scope.names.lookup y.1=some .cell∨X.env.scope.names.lookup y.1=some .free
 okind:X.env.scope.kind=.function
theorem zip_get {α β:Type}:∀ {l:List α} {k:List β} {i:Nat} {a:α} {b:β},l[i]? = some a→k[i]? = some b→(a,b)∈l.zip k
 | [],_,_,_,_,h,_=>by simp at h
 | _::_,[],_,_,_,_,h=>by simp at h
 | x::l,y::k,0,a,b,h1,h2=>by simp at h1 h2;subst h1;subst h2;simp
 | x::l,y::k,i+1,a,b,h1,h2=>by
  have:=zip_get (l:=l) (k:=k) (i:=i) (by simpa using h1) (by simpa using h2)
  rw[List.zip_cons_cons]
  exact xjg _ this
theorem za {X:Cx}{sc:Scope}{N XN:List Str}{xs:Scope}{tau:List (Option Nat)}(h:xaV XN xs sc N tau=true)(h1:X.N=XN)(h2:X.env.scope=xs):vE X sc N tau:=by
 subst h1 h2
 unfold xaV at h
 simp only[xhX,xiw,xj4,xh0] at h
 obtain⟨⟨⟨⟨⟨⟨⟨k,c⟩,l⟩,nd⟩,len⟩,out⟩,fr⟩,ok⟩:=h
 refine⟨k,c,fun y hy e=>(l y hy).resolve_left (fun z=>z e),nd,len,fun i j x e1 e2=>?_,fun y hy e=>?_,ok⟩
 ·have:=out _ (zip_get e1 e2)
  simpa using this
 ·rcases fr y hy with (z | z) | z
  ·exact absurd e z
  ·exact .inl z
  ·exact .inr z
def qo (tau:List (Option Nat))(σ:St):St:=tau.map fun o=>match o with | some j=>(σ[j]?).getD none | none=>none
theorem qm {sc:Scope}{env:Env}:∀ {l:List (Str×NameKind)} {x:Str} {k:NameKind},
  (l.map fun(n,k)=>if (k == NameKind.free&&env.scope.kind == .function&&env.kindOf n == some .cell) then(n,NameKind.cell) else(n,k)).lookup x=some k→((∀y∈l,y.2≠NameKind.cell)→k≠.local→(x,NameKind.free)∈l∨l.lookup x=some k∧k≠.cell)
 | [],x,k,h=>by simp at h
 | (n,k')::r,x,k,h=>by
  intro nc nl
  have ih:=@qm sc env r x k
  have h:List.lookup x ((if (k' == NameKind.free&&env.scope.kind == .function&&env.kindOf n == some .cell)=true then(n,NameKind.cell) else(n,k'))::(r.map _))=some k:=h
  by_cases hx:x=n
  ·subst hx
   by_cases hc:(k' == NameKind.free&&env.scope.kind == .function&&env.kindOf x == some .cell)=true
   ·left
    have:k'=.free:=by
     simp only[xhX] at hc
     simpa using hc.1.1
    subst this
    exact xjh
   ·rw[if_neg hc,xi7] at h
    simp at h
    subst h
    right
    exact⟨by rw[xi7];simp,nc (x,k') xjh⟩
  ·have e:(x == n)=false:=by simpa using hx
   have h':List.lookup x (r.map fun(n,k)=>if (k == NameKind.free&&env.scope.kind == .function&&env.kindOf n == some .cell) then(n,NameKind.cell) else(n,k))=some k:=by
    split at h
    ·rw[xi7,e] at h;exact h
    ·rw[xi7,e] at h;exact h
   rcases ih h' (fun y hy=>nc y (xjg _ hy)) nl with z | ⟨z,w⟩
   ·exact .inl (xjg _ z)
   ·exact .inr ⟨by rw[xi7,e];exact z,w⟩
section
variable {X:Cx} {sc:Scope} {N:List Str} {tau:List (Option Nat)} {pins:List (Addr×Obj)} {σ:St} {H:Hp} {s:Shared}
theorem vE.cells (k:vE X sc N tau)(ok:X.Ok):∀y∈sc.names,y.2=NameKind.free→∃c,X.env.cells.lookup y.1=some c:=fun y hy e=>ok.has y.1 (k.fr y hy e)
theorem vE.vis (k:vE X sc N tau){x:Str}(h:(relabel sc X.env).names.lookup x=some .cell∨(relabel sc X.env).names.lookup x=some .free):(x,NameKind.free)∈sc.names:=by
 rcases h with h | h
 ·rcases qm (sc:=sc) (env:=X.env) (l:=sc.names) h k.nocell (by decide) with z | ⟨_,z⟩
  ·exact z
  ·exact absurd rfl z
 ·rcases qm (sc:=sc) (env:=X.env) (l:=sc.names) h k.nocell (by decide) with z | ⟨z,_⟩
  ·exact z
  ·exact PySem.mem_of_lookup z
theorem m7 (k:vE X sc N tau)(I:Inv X pins σ H s){fp:List Addr}(hf:∀b∈fp,fW X pins H b)(hob:∀b∈fp,∃o,s.heap.get? b=some o) :
  (x_ X sc N (s.heap.objs.size+1) s H fp).Ok where
 mod:=I.ok.mod
 kind:=k.kind
 glob:=I.ok.glob
 blt:=I.ok.blt
 above:=xjL _
 inj:=fun x y c h1 h2=>I.ok.inj x y c (wU _ _ h1 fun _ z=>by simp at z) (wU _ _ h2 fun _ z=>by simp at z)
 has:=fun x h=>by
  have m:=k.vis h
  obtain⟨c,e⟩:=k.cells I.ok _ m rfl
  exact⟨c,qG e _ _ m⟩
 cab:=fun x c h=>by cases h
 hd:=I.ok.hd
 frames:=I.ok.frames
 stk:=.inl rfl
 exf:=fun b hb=>⟨fun z=>by
  obtain⟨o,e⟩:=hob b hb
  have l:=Heap.lt_size e
  have z':b=s.heap.objs.size+1:=z
  rw[z'] at l
  exact xjN _ (Nat.lt_of_succ_lt l),fun x c h=>(hf b hb).2.2.2.2.1 x c (wU _ _ h fun _ z=>by simp at z)⟩
 bs:=I.bs
 bsz:=xjM I.ok.bsz I.sz
 noex:=fun b o e hb=>by
  rcases(hf b hb).2.2.2.1 with z | z
  ·exact I.ok.noex b o e z
  ·exact absurd (xjP (Heap.lt_size (I.ok.bs b o e).1) z) (xjN _)
 exfs:=fun b hb z=>by
  rcases xjf.mp (I.stkSub b z) with e | e
  ·exact(hf b hb).2.1 e
  ·exact(hf b hb).2.2.1 e
 funs:=I.stack
 frf:=I.stkFree
theorem u7 {i:Nat}{v:V}(h:(qo tau σ)[i]? = some (some v)):∃j,tau[i]? = some (some j)∧σ[j]? = some (some v):=by
 unfold qo at h
 rw[xiS] at h
 cases e:tau[i]? with
 | none=>rw[e] at h;cases h
 | some o =>
  rw[e] at h
  cases o with
  | none=>cases h
  | some j =>
   have h':(σ[j]?).getD none=some v:=by simpa using h
   refine⟨j,rfl,?_⟩
   cases q:σ[j]? with
   | none=>rw[q] at h';cases h'
   | some o'=>rw[q] at h';exact xj0 some h'
theorem bM (k:vE X sc N tau)(I:Inv X pins σ H s){fp:List Addr}(hf:∀b∈fp,fW X pins H b)(hob:∀b∈fp,∃o,s.heap.get? b=some o){h1:Heap}{t':Nat}
  (kp:∀b o,s.heap.get? b=some o→h1.get? b=some o) (hn:h1.Ns (s.heap.objs.size+1) (fun _=>none)) (hD:h1.get? s.heap.objs.size=some { cls:=.type "list", data:=.seq #[] 0 }) :
  Inv (x_ X sc N (s.heap.objs.size+1) s H fp) [(s.heap.objs.size,{ cls:=.type "list", data:=.seq #[] 0 })] (qo tau σ) H { s with heap:=h1,toks:=t' } where
 ok:=m7 k I hf hob
 os:=rfl
 bare:=I.bare
 base:=Un.kept kp
 loc:=⟨_,hn,fun i x v e1 e2 e3=>by
  obtain⟨j,t1,t2⟩:=u7 e2
  obtain⟨o1,o2⟩:=k.out i j x t1 e1
  have m:(x,NameKind.free)∈sc.names:=PySem.mem_of_lookup o2
  have hk:=k.fr _ m rfl
  obtain⟨mm,hn',hl⟩:=I.loc
  obtain⟨u,r,l⟩:=hl j x v o1 t2 (hk.elim (fun z=>.inr (.inl z)) fun z=>.inr (.inr z))
  refine⟨u,r,.inr ⟨?_,?_⟩⟩
  ·rcases e3 with z | z | z
   ·exfalso
    have:∀ {l:List (Str×NameKind)},l.lookup x=some .free→(l.map fun(n,k)=>if (k == NameKind.free&&X.env.scope.kind == .function&&X.env.kindOf n == some .cell) then(n,NameKind.cell) else(n,k)).lookup x≠some .local:=by
     intro l
     induction l with
     | nil=>intro h;simp at h
     | cons y r ih =>
      obtain⟨n,k'⟩:=y
      intro h q
      have q:List.lookup x ((if (k' == NameKind.free&&X.env.scope.kind == .function&&X.env.kindOf n == some .cell)=true then(n,NameKind.cell) else(n,k'))::(r.map _))=some .local:=q
      by_cases hx:x=n
      ·subst hx
       rw[xi7] at h
       simp at h
       subst h
       split at q
       ·rw[xi7] at q;simp at q
       ·rw[xi7] at q;simp at q
      ·have e:(x == n)=false:=by simpa using hx
       rw[xi7,e] at h
       refine ih h ?_
       split at q
       ·rw[xi7,e] at q;exact q
       ·rw[xi7,e] at q;exact q
    exact this o2 z
   ·exact .inl z
   ·exact .inr z
  ·rcases l with ⟨z,_⟩ | ⟨_,c,ec,hc⟩
   ·exfalso
    have z:X.env.scope.names.lookup x=some .local:=z
    rcases hk with q | q<;>rw[z] at q<;>cases q
   ·obtain⟨o,ho,hd⟩:=hc
    exact⟨c,qG ec _ _ m,o,kp c o ho,hd⟩⟩
 cell:=fun x c h=>by
  obtain⟨v,o,ho,hd⟩:=I.cell x c (wU _ _ h fun _ z=>by simp at z)
  exact⟨v,o,kp c o ho,hd⟩
 free:=I.hok.fresh (xjL _)
 freeC:=fun x c h=>I.freeC x c (wU _ _ h fun _ z=>by simp at z)
 pin:=fun p hp=>by
  have e:p=(s.heap.objs.size,{ cls:=.type "list", data:=.seq #[] 0 }):=by simpa [x_] using hp
  subst e
  refine⟨hD,I.hok.fresh (xjK _),xjT (xjR _),fun z=>?_,fun v=>by simp⟩
  rcases xjf.mp (I.stkSub _ z) with e | e
  ·exact absurd (e▸I.lt) (xjN _)
  ·exact I.nofs (xjK _) e
 hok:=I.hok.kept kp
 len:=by
  show(qo tau σ).length=N.length
  unfold qo
  rw[xi0]
  exact k.len
end
end L2
namespace L2
open PySem PySem.Spec PyProof.Rows
theorem j9 {prog:Program}{w:World}{A:Around}{R:Result→Shared→Prop}{s:Shared}{elt target iter:Expr}{ifs:List Expr}{scope:Scope}{pos:Pos}{it acc:Value}{env:Env}(I:Nat→Shared→Prop)
  (turn:∀n s,I n s→wpAny (model prog w) A (pyNext it) (fun r s₁=>match r with
   | none=>R (.ok .next) s₁
   | some v=>wpAny (model prog w) A (letOwnedTupleGo target it v) (fun _ s₀=>wpAny (model prog w) A (assign target env v) (fun _ s₂ =>
     wpAny (model prog w) A (forIn ifs true fun c r=>if r=true then do let ok ←isTrue c env (eval c env);pure (ForInStep.yield ok) else pure (ForInStep.yield r)) (fun ok s₃ =>
      if ok=true then wpAny (model prog w) A (eval elt env) (fun x s₄ =>
       wpAny (model prog w) A (call (.builtin "list.append") [acc,x]) (fun _ s₅=>∃m,m<n∧I m s₅) (notedBy (model prog w) A env fun e s'=>R (.error e) s') s₄) (notedBy (model prog w) A env fun e s'=>R (.error e) s') s₃
      else ∃m,m<n∧I m s₃) (notedBy (model prog w) A env fun e s'=>R (.error e) s') s₂) (notedBy (model prog w) A env fun e s'=>R (.error e) s') s₀) (notedBy (model prog w) A env fun e s'=>R (.error e) s') s₁) (notedBy (model prog w) A env fun e s'=>R (.error e) s') s)
  (n:Nat) (h:I n s) :
  codeAny (model prog w) A (.compLoop (.ListComp elt [⟨target,iter,ifs,0⟩] scope pos) 0 it acc env) R s:=by
 refine codeAny_loop rfl I (fun n s hI=>?_) n h
 show wpAny _ A ((compTurn (.ListComp elt [⟨target,iter,ifs,0⟩] scope pos) 0 it acc env).onRaise (fun x=>do noteFrame x env;theTreesLotGoes x)) _ _ s
 refine wpAny_noted ?_
 rw[compTurn_list]
 refine wpAny_bind (wpAny_standAt (wpAny_bind (wpAny_mono (turn n s hI) (fun r s₁ h₁=>?_) fun _ _ h'=>h')))
 cases r with
 | none=>exact wpAny_pure h₁
 | some v =>
  refine wpAny_bind (wpAny_mono h₁ (fun _ s₀ h₀=>?_) fun _ _ h'=>h')
  refine wpAny_bind (wpAny_mono h₀ (fun _ s₂ h₂=>wpAny_bind (wpAny_mono h₂ (fun ok s₃ h₃=>?_) fun _ _ h'=>h')) fun _ _ h'=>h')
  cases ok with
  | false=>exact wpAny_pure ⟨rfl,h₃⟩
  | true =>
   exact wpAny_bind (wpAny_bind (wpAny_mono h₃ (fun x s₄ h₄=>wpAny_bind (wpAny_mono h₄ (fun _ s₅ h₅=>wpAny_pure (wpAny_pure ⟨rfl,h₅⟩)) fun _ _ h'=>h')) fun _ _ h'=>h'))
def PIf (Y:Cx)(ifs:List Expr)(t:TT):Prop :=
 ∀(pins:List (Addr×Obj)) (s:Shared) (σ:St) (H:Hp) (Q:Bool→Hp→Prop),Inv Y pins σ H s→t σ H Q →
  wpAny (model Y.prog Y.w) Y.A (forIn ifs true fun c r=>if r=true then do let ok ←isTrue c Y.env (eval c Y.env);pure (ForInStep.yield ok) else pure (ForInStep.yield r)) (TP Y pins σ Q) Y.xe s
def xeH:TT:=fun _ H Q=>Q true H
theorem vq {Y:Cx}:PIf Y [] xeH:=fun pins s σ H Q I h=>wpAny_tests_nil ⟨H,I,h⟩
theorem fb {Y:Cx}{c:Expr}{t:TT}(h:PT Y c t):PIf Y [c] t:=fun pins s σ H Q I q=>wpAny_tests_one (@h pins s σ H Q I q)
def Agree (tau:List (Option Nat))(σ σ2:St):Prop:=∀i j:Nat,tau[i]? = some (some j)→σ2[i]? = σ[i]?
def GA (tau:List (Option Nat))(g:TG):Prop:=∀x σ H Q,g x σ H Q→g x σ H (fun σ2 H2=>Q σ2 H2∧Agree tau σ σ2)
def GAs (tau:List (Option Nat))(t:TGs):Prop:=∀xs σ H Q,t xs σ H Q→t xs σ H (fun σ2 H2=>Q σ2 H2∧Agree tau σ σ2)
theorem uN {tau:List (Option Nat)}{i:Nat}(h:tau[i]? = some none):GA tau (fY i):=fun x σ H Q q=>⟨q,fun k j e=>by
 rw[xiT]
 rintro rfl
 rw[h] at e;cases e⟩
theorem aB {tau:List (Option Nat)}:GAs tau xgG:=fun xs σ H Q q=>⟨q.1,q.2,fun _ _ _=>rfl⟩
theorem kR {K:PySem.W.Frag}{n:Nat}{t:TGs}{tau:List (Option Nat)}(h:GAs tau t):GA tau (xf7 K n t):=fun x σ H Q q=>by
 obtain⟨a,xs,e,sq,l,r⟩:=q
 exact⟨a,xs,e,sq,l,h _ _ _ _ r⟩
theorem wW {tau:List (Option Nat)}{i:Nat}{u:TGs}(h:tau[i]? = some none)(hu:GAs tau u):GAs tau (xdA (fY i) u):=fun xs σ H Q q=>by
 obtain⟨v,r,e,q⟩:=q
 refine⟨v,r,e,?_⟩
 have q':u r (σ.set i (some v)) H Q:=q
 show u r (σ.set i (some v)) H _
 have:=hu _ _ _ _ q'
 have e2:(fun σ2 H2=>Q σ2 H2∧Agree tau (σ.set i (some v)) σ2)=(fun σ2 H2=>Q σ2 H2∧Agree tau σ σ2):=by
  funext σ2 H2
  have:Agree tau (σ.set i (some v)) σ2↔Agree tau σ σ2:=by
   have key:∀(k j:Nat),tau[k]? = some (some j)→(σ.set i (some v))[k]? = σ[k]?:=fun k j e=>by
    rw[xiT]
    rintro rfl
    rw[h] at e;cases e
   constructor
   ·intro z k j e;rw[z k j e,key k j e]
   ·intro z k j e;rw[z k j e,key k j e]
  exact propext (and_congr_right fun _=>this)
 rw[←e2]
 exact this
def xd7 (wi:TI)(tau:List (Option Nat))(g:TG)(tc:TT)(te:TE):TE:=fun σ H Q=>wi σ H fun J H1 =>
 ∃W:Nat→Nat→List V→Hp→Prop,(∃m,W 0 m [] H1)∧∀i m ys H,W i m ys H →
  (J.stop i H∧∀p,H p=none→Q (.ref p) (upd H p (.lst ys))) ∨
  (J.go i H∧ys.length<sizeLine∧∀x H',J.yld i H x H'→g x (qo tau σ) H' fun σ2 H2=>tc σ2 H2 fun b H3=>if b=true then te σ2 H3 fun y H4=>∃m',m' < m∧W (i+1) m' (ys++[y]) H4 else ∃m',m' < m∧W (i+1) m' ys H3)
section
variable {X:Cx} {sc:Scope} {N:List Str} {tau:List (Option Nat)} {pins:List (Addr×Obj)} {σ:St} {H:Hp} {s:Shared}
theorem bW (k:vE X sc N tau)(I:Inv X pins σ H s){fp:List Addr}(hf:∀b∈fp,fW X pins H b){σ':St}{H':Hp}{s':Shared}{its:List Value}{n:Nat}{ys:List V}
  (J:Inv (x_ X sc N (s.heap.objs.size+1) s H fp) [(s.heap.objs.size,{ cls:=.type "list", data:=.seq its.toArray n })] σ' H' s') (rv:yS ys its) (hz:ys.length≤sizeLine) :
  Inv X pins σ (upd H' s.heap.objs.size (.lst ys)) s'∧H' s.heap.objs.size=none∧(upd H' s.heap.objs.size (.lst ys)) (s.heap.objs.size+1)=none:=by
 obtain⟨pD,nD,_,_,_⟩:=J.pin (s.heap.objs.size,{ cls:=.type "list", data:=.seq its.toArray n }) (by simp[x_])
 have nC:H' (s.heap.objs.size+1)=none:=J.free
 have B:Un (frs X.stack) fp H H' s.heap s'.heap:=J.base
 have ltD:∀b o,s.heap.get? b=some o→b≠s.heap.objs.size:=fun b o e=>xjT (Heap.lt_size e)
 refine⟨I.call' (ch:=fp) J.os ⟨B.keep,B.slot,fun b o e n hx=>?_,B.there,fun b xs e=>?_,fun b o u e=>?_,fun b ps e=>?_⟩ (fun b u e=>?_) J.bare (fun b hb=>?_),nD,?_⟩
 ·rw[xN (ltD b o e)];exact B.free b o e n hx
 ·have q:=B.tups b xs e
  rw[xN (xw q nD)];exact q
 ·have q:=B.frzs b o u e
  rw[xN (xw q nD)];exact q
 ·obtain⟨more,q⟩:=B.tbls b ps e
  exact⟨more,by rw[xN (xw q nD)];exact q⟩
 ·by_cases hb:b=s.heap.objs.size
  ·subst hb
   rw[xQ] at e
   cases e
   exact⟨hz,its,n,rv,pD⟩
  ·rw[xN hb] at e
   exact(J.hok b u e).stay (fun c v _ q=>q) (fun c q=>by rw[xN (xw q nD)];exact q) (fun c xs q=>by rw[xN (xw q nD)];exact q) fun c o u q=>by rw[xN (xw q nD)];exact q
 ·obtain⟨_,f1,_,f3,f4,f5⟩:=hf b hb
  exact⟨f3,f1,f4,f5⟩
 ·rw[xN (xjS (xjR _))];exact nC
theorem gY (I0:Inv X pins σ H s){σ':St}{H':Hp}{s':Shared}{h':Heap}(I:Inv X pins σ' H' s')(hC:H' (s.heap.objs.size+1)=none)(hs:Heap.SameBut (s.heap.objs.size+1) s'.heap h') :
  Inv X pins σ' H' { s' with heap:=h' }:=by
 have lt:∀b o,s.heap.get? b=some o→b≠s.heap.objs.size+1:=fun b o e=>xjT (xjQ (Heap.lt_size e))
 refine I.turned (t':=s'.toks) (it:=s.heap.objs.size+1) (fun b o hb e=>(hs.2 b hb).trans e) hC ?_ (.inr (xjM I0.sz (xjL _))) (fun x c e=>?_) (fun p hp=>?_)
 ·exact xjS (xjQ I0.lt)
 ·obtain⟨v,o,ho,_⟩:=I0.cell x c e
  exact lt c o ho
 ·exact lt _ _ (I0.pin p hp).1
theorem pP {elt tg iter:Expr}{ifs:List Expr}{g:TG}{tc:TT}{te:TE}{pos:Pos}(k:vE X sc N tau)(hc:X.calm=true)(I:Inv X pins σ H s){it:Addr}{fp:List Addr}{tn:Nat→Heap→Prop}{J:It}
  (T:Turn X.prog X.w X.K tg J fp it tn) (st0:tn 0 s.heap) (hf:∀b∈fp,fW X pins H b) (hga:GA tau g)
  (hg:∀C s H ex,PG (x_ X sc N C s H ex) tg g) (ht:∀C s H ex,PIf (x_ X sc N C s H ex) ifs tc) (he:∀C s H ex,PE (x_ X sc N C s H ex) elt te)
  {W:Nat→Nat→List V→Hp→Prop} {Z:List V→Hp→Prop} (w0:∃m,W 0 m [] H) (turn:∀i m ys H,W i m ys H →
   (J.stop i H∧Z ys H) ∨
   (J.go i H∧ys.length<sizeLine∧∀x H',J.yld i H x H'→g x (qo tau σ) H' fun σ2 H2=>tc σ2 H2 fun b H3=>if b=true then te σ2 H3 fun y H4=>∃m',m' < m∧W (i+1) m' (ys++[y]) H4 else ∃m',m' < m∧W (i+1) m' ys H3))
  {E:Value→Shared→Prop} {RR:Value→Addr→Result→Shared→Prop}
  (fin:∀ σ' H' s' ys its n,Inv (x_ X sc N (s.heap.objs.size+1) s H fp) [(s.heap.objs.size,{ cls:=.type "list", data:=.seq its.toArray n })] σ' H' s'→yS ys its→ys.length≤sizeLine→Z ys H'→RR (.ref s.heap.objs.size) (s.heap.objs.size+1) (.ok .next) s') :
  wpAny (model X.prog X.w) X.A (newList []) (fun acc s₃=>wpAny (model X.prog X.w) X.A (newFunctionEnv sc X.env.globals (jV X.env sc.names []) [] X.env.qual none .none (some X.env)) (fun cenv s₄ =>
   codeAny (model X.prog X.w) X.A (.compStart (.ListComp elt [⟨tg,iter,ifs,0⟩] sc pos) 0 (.ref it) acc { cenv with scope:=relabel sc X.env }) (RR acc cenv.locals) s₄) E s₃) E s:=by
 have hob:∀b∈fp,∃o,s.heap.get? b=some o:=fun b hb=>let ⟨o,e,_⟩:=T.obj _ _ st0 b hb;⟨o,e⟩
 refine wpAny_newObj_type (wpAny_newFunctionEnv k.nocell (by intro y hy;simp at hy) (fun h₁ hns₁ hsb₁=>?_) k.kind)
 dsimp only at hns₁ hsb₁ ⊢
 generalize hH2:s.heap.push { cls:=.type "list", dict:=none,data:=.seq ([]:List Value).toArray }=H2 at hns₁ hsb₁ ⊢
 have hC:H2.objs.size=s.heap.objs.size+1:=by rw[←hH2,Heap.size_push]
 have old:∀b o,s.heap.get? b=some o→h₁.get? b=some o:=fun b o e=>hsb₁.extBut b o (by rw[hC];exact xjT (xjQ (Heap.lt_size e))) (Heap.get?_push_of_some _ (hH2▸Heap.get?_push_of_some _ e))
 have hacc:h₁.get? s.heap.objs.size=some { cls:=.type "list", data:=.seq #[] 0 }:=hsb₁.extBut _ _ (by rw[hC];exact xjT (xjR _)) (Heap.get?_push_of_some _ (hH2▸Heap.get?_push_size _ rfl))
 rw[hC] at hns₁ ⊢
 have I1:Inv (x_ X sc N (s.heap.objs.size+1) s H fp) [(s.heap.objs.size,{ cls:=.type "list", data:=.seq #[] 0 })] (qo tau σ) H { s with heap:=h₁,toks:=s.toks+([]:List (Str×Value)).length } :=
  bM k I hf hob old hns₁ hacc
 have st1:tn 0 h₁:=T.keep _ _ _ st0 fun b _ o e=>old b o e
 have ltD:∀b∈fp,b≠s.heap.objs.size:=fun b hb=>by
  obtain⟨o,e⟩:=hob b hb
  exact xjT (Heap.lt_size e)
 have ltC:∀b∈fp,b≠s.heap.objs.size+1:=fun b hb=>by
  obtain⟨o,e⟩:=hob b hb
  exact xjT (xjQ (Heap.lt_size e))
 have stat:∀ {H':Hp} {its:List Value} {n:Nat},(∀b∈fp,H' b=none)→∀b∈fp,fW (x_ X sc N (s.heap.objs.size+1) s H fp) [(s.heap.objs.size,{ cls:=.type "list", data:=.seq its.toArray n })] H' b:=fun {H' its n} hn b hb=>by
  have cx:=m7 (N:=N) k I hf hob
  refine⟨hn b hb,ltC b hb,cx.exfs b hb,.inl hb,(cx.exf b hb).2,fun p hp=>?_⟩
  have e:p=(s.heap.objs.size,{ cls:=.type "list", data:=.seq its.toArray n }):=by simpa [x_] using hp
  subst e
  exact Ne.symm (ltD b hb)
 obtain⟨m0,w0⟩:=w0
 have loop:codeAny (model X.prog X.w) X.A (.compLoop (.ListComp elt [⟨tg,iter,ifs,0⟩] sc pos) 0 (.ref it) (.ref s.heap.objs.size) (compEnvC sc (jV X.env sc.names []) (s.heap.objs.size+1) X.env)) (RR (.ref s.heap.objs.size) (s.heap.objs.size+1)) { s with heap:=h₁,toks:=s.toks+([]:List (Str×Value)).length }:=by
  refine j9 (fun m s'=>∃i ys H' its n,Inv (x_ X sc N (s.heap.objs.size+1) s H fp) [(s.heap.objs.size,{ cls:=.type "list", data:=.seq its.toArray n })] (qo tau σ) H' s'∧yS ys its∧ys.length≤sizeLine∧tn i s'.heap∧(∀b∈fp,H' b=none)∧W i m ys H') ?_ m0
   ⟨0,[],H,[],0,I1,.nil,xjW _,st1,fun b hb=>(hf b hb).1,w0⟩
  rintro m s3 ⟨i,ys,H3,its,n,I3,rv,hz,st3,fr3,w3⟩
  rcases turn i m ys H3 w3 with ⟨stop,z⟩ | ⟨go,hlt,step⟩
  ·refine wpAny_mono (T.done (x_ X sc N (s.heap.objs.size+1) s H fp) rfl rfl rfl hc i _ s3 _ H3 (fun _ _=>False) I3 (stat fr3) st3 stop) (fun r s4 ⟨hr,I4⟩=>?_) fun _ _ f=>f.elim
   subst hr
   exact fin _ _ _ _ _ _ I4 rv hz z
  ·refine wpAny_mono (T.item (x_ X sc N (s.heap.objs.size+1) s H fp) rfl rfl rfl hc i _ s3 _ H3 (fun _ _=>False) I3 (stat fr3) st3 go) (fun r s4 ⟨u,hr,h4⟩=>?_) fun _ _ f=>f.elim
   subst hr
   refine wpAny_mono h4 (fun _ s5 ⟨x,H5,I5,r5,y5,st5,fr5⟩=>?_) fun _ _ f=>f.elim
   have I5':=I5.pinned (stat fr5) (T.obj _ _ st5)
   refine wpAny_mono (hg _ _ _ _ _ s5 _ H5 x u _ I5' r5 (hga _ _ _ _ (step x H5 y5))) (fun _ s6 ⟨σ6,H6,I6,q6,ag⟩=>?_) fun _ _ f=>f.elim
   refine wpAny_mono (ht _ _ _ _ _ s6 σ6 H6 _ I6 q6) (fun b s7 ⟨H7,I7,q7⟩=>?_) fun _ _ f=>f.elim
   have back:∀ {H8:Hp} {s8:Shared},Inv (x_ X sc N (s.heap.objs.size+1) s H fp) ([(s.heap.objs.size,{ cls:=.type "list", data:=.seq its.toArray n })]++uq fp s5.heap) σ6 H8 s8 →
     Inv (x_ X sc N (s.heap.objs.size+1) s H fp) [(s.heap.objs.size,{ cls:=.type "list", data:=.seq its.toArray n })] (qo tau σ) H8 s8∧tn (i+1) s8.heap∧∀b∈fp,H8 b=none:=fun {H8 s8} I8=>by
    refine⟨I8.unpinned.weak (I1.len.trans I8.len.symm) fun j v e=>?_,T.keep _ _ _ st5 fun b hb o e=>(I8.pin (b,o) (xje _ (xje _ (zd hb e)))).1,fun b hb=>?_⟩
    ·obtain⟨j',t1,_⟩:=u7 e
     rw[ag j j' t1];exact e
    ·obtain⟨o,e,d⟩:=T.obj _ _ st5 b hb
     exact(I8.pin (b,o) (xje _ (xje _ (zd hb e)))).2.1
   cases b with
   | false =>
    obtain⟨m',hm,w7⟩:=q7
    obtain⟨I8,st8,fr8⟩:=back I7
    rw[if_neg xhZ]
    exact⟨m',hm,i+1,ys,H7,its,n,I8,rv,hz,st8,fr8,w7⟩
   | true =>
    rw[if_pos rfl]
    refine wpAny_mono (he _ _ _ _ s7 σ6 H7 _ I7 q7) (fun y s8 ⟨yv,H8,I8,r8,m',hm,w8⟩=>?_) fun _ _ f=>f.elim
    obtain⟨I9,st9,fr9⟩:=back I8
    obtain⟨pD,nD,dL,dF,dC⟩:=I9.pin (s.heap.objs.size,{ cls:=.type "list", data:=.seq its.toArray n }) (by simp[x_])
    refine call_meets F.slot_list_append ⟨_,pD,rfl⟩ F.entry_list_append (F.args_list_append_2 _ _) (PySem.list_append s.heap.objs.size its.toArray n y (by rw[xjC,←rv.length];exact hz)) ⟨pD,?_⟩
    have q:=PySem.IsL.update pD (fun x=>x.push y)
    obtain⟨n',q'⟩:∃n',(s8.heap.update s.heap.objs.size (Obj.mapSeq fun x=>x.push y)).get? s.heap.objs.size=some { cls:=.type "list", data:=.seq (its++[y]).toArray n' }:=⟨_,by
     rw[show(its++[y]).toArray=its.toArray.push y by simp];exact q⟩
    have kp:∀b o,b≠s.heap.objs.size→s8.heap.get? b=some o→(s8.heap.update s.heap.objs.size (Obj.mapSeq fun x=>x.push y)).get? b=some o:=fun b o hb e=>(Heap.get?_update_other s8.heap _ (Ne.symm hb)).trans e
    have I10:Inv (x_ X sc N (s.heap.objs.size+1) s H fp) [] (qo tau σ) H8 s8:=I9.pins_of fun p hp=>absurd hp (by simp)
    have I11:Inv (x_ X sc N (s.heap.objs.size+1) s H fp) [] (qo tau σ) H8 { s8 with heap:=s8.heap.update s.heap.objs.size (Obj.mapSeq fun x=>x.push y),toks:=s8.toks } :=
     I10.turned (it:=s.heap.objs.size) (t':=s8.toks) kp nD dL (.inr (xjK _)) (fun x c e z=>by
      obtain⟨v,o,ho,hd⟩:=I10.cell x c e
      rw[z,pD] at ho
      cases ho
      cases hd) (fun p hp=>absurd hp (by simp[x_]))
    refine⟨m',hm,i+1,ys++[yv],H8,its++[y],n',I11.pins_of fun p hp=>?_,rv.append (.cons r8 .nil),?_,T.keep _ _ _ st9 fun b hb o e=>kp b o (ltD b hb) e,fr9,w8⟩
    ·have e:p=(s.heap.objs.size,{ cls:=.type "list", data:=.seq (its++[y]).toArray n' }):=by simpa using hp
     subst e
     exact⟨q',nD,dL,dF,fun v=>by simp⟩
    ·rw[xiW,xi5];exact hlt
 exact codeAny_compStart_list loop (T.self _ 0 _ _ _ st1 loop)
theorem uj {elt tg iter:Expr}{ifs:List Expr}{wi:TI}{g:TG}{tc:TT}{te:TE}{pos:Pos}(k:vE X sc N tau)(hc:X.calm=true)(hga:GA tau g)(hi:PI X tg iter wi)
  (hg:∀C s H ex,PG (x_ X sc N C s H ex) tg g) (ht:∀C s H ex,PIf (x_ X sc N C s H ex) ifs tc) (he:∀C s H ex,PE (x_ X sc N C s H ex) elt te)
  (hs:∀x,foldedSetIterable iter X.env x=pure x:=by intro _;rfl):PE X (.ListComp elt [⟨tg,iter,ifs,0⟩] sc pos) (xd7 wi tau g tc te):=by
 intro pins s σ H Q I h
 rw[eval_ListComp]
 refine wpAny_comprehension_free (use:=none) rfl hs (mY (k.cells I.ok)) k.kind k.loc ?_
 refine thn (@hi pins s σ H _ I h) fun v s1 h1=>thn h1 fun itv s2 h2=>?_
 obtain⟨it,fp,tn,J,H2,e,I2,T,st2,f2,W,w0,turn⟩:=h2
 subst e
 refine pP (RR:=fun acc C=>compPost (model X.prog X.w) X.A X.xe none (EP X pins σ Q) acc C) (W:=W) (Z:=fun ys H'=>∀p,H' p=none→Q (.ref p) (upd H' p (.lst ys))) k hc I2 T st2 f2 hga hg ht he w0 turn ?_
 intro σ' H' s' ys its n J' rv hz z
 obtain⟨I',hD,hC⟩:=bW k I2 f2 J' rv hz
 obtain⟨m,hn,_⟩:=J'.loc
 exact⟨m,hn,fun h' hs'=>⟨.ref _,_,gY I2 I' hC hs',rfl,z _ hD⟩⟩
end
end L2
namespace L2
open PySem PySem.Spec PyProof.Rows
structure Own (P:Program)(w:World)(K:PySem.W.Frag)(mg:Str→Option Value)(base:Heap)(k:Nat)(x:Str)(ps:List Str)(sp:Sp):Prop where
 ex:∃(f:Addr) (fd:FuncData),dz P w K mg base CX0 k f fd ps sp∧Binds K fd ps []∧PySem.W.keepIn K (.ref f)=true∧mg x=some (.ref f)
theorem Own.mono {P:Program}{w:World}{K:PySem.W.Frag}{mg:Str→Option Value}{base:Heap}{j k:Nat}{x:Str}{ps:List Str}{sp:Sp}(h:Own P w K mg base j x ps sp)(hjk:j≤k):Own P w K mg base k x ps sp:=by
 obtain⟨f,fd,F,b,kp,m⟩:=h.ex
 exact⟨f,fd,F.mono hjk,b,kp,m⟩
theorem Own.imp {P:Program}{w:World}{K:PySem.W.Frag}{mg:Str→Option Value}{base:Heap}{k:Nat}{x:Str}{ps:List Str}{sp sp':Sp}(h:Own P w K mg base k x ps sp)(q:∀vs H Q E,sp' vs H Q E→sp vs H Q E):Own P w K mg base k x ps sp':=by
 obtain⟨f,fd,F,b,kp,m⟩:=h.ex
 exact⟨f,fd,F.imp q,b,kp,m⟩
def xeq (sp:Sp)(t:TA):TE:=fun σ H Q=>t σ H fun vs H1=>sp vs H1 Q E0
theorem xm {X:Cx}{k j:Nat}{x:Str}{ps:List Str}{sp:Sp}{p pos:Pos}{e:Expr}{es:List Expr}{t:TA}(h:Own X.prog X.w X.K X.mg X.base j x ps sp)(hr:qZ k X.A)(ha:PA X (e::es) t)(hjk:j≤k:=by decide)(hg:Gl X x:=by rfl)
  (hdb:(x == ("__debug__" : Str))=false:=by decide) (he:starEach (e::es) X.env=(false,eval e X.env)::starEach es X.env:=by rfl) (hpl:(backTo pos (starEach es X.env)).any (·.1)=false:=by rfl) :
  PE X (.Call (.Name x p) (e::es) [] pos) (xeq sp t):=by
 obtain⟨f,fd,F,b,kp,m⟩:=(h.mono hjk).ex
 intro pins s σ H Q I q
 refine xah (E:=E0) F hr hg m kp b .nil xgB ha hdb he hpl s σ H Q I ?_
 have e:(fun(vs:List V) (H1:Hp)=>sp (vs++[]) H1 Q E0)=fun vs H1=>sp vs H1 Q E0:=by
  funext vs H1;rw[xiz]
 show t σ H fun vs H1=>sp (vs++[]) H1 Q E0
 rw[e];exact q
theorem fc {P:Program}{w:World}{K:PySem.W.Frag}{mg:Str→Option Value}{base:Heap}{k:Nat}{x qual:Str}{st:Stmt}{f:Addr}{fd:FuncData}{N ps:List Str}{sp:Sp}(F:Fun K x qual st f fd)(S:xA N ps (xh st))(mgx:mg x=some (.ref f))(b:Binds K fd ps [])
  (len:∀vs H Q E,sp vs H Q E→vs.length=ps.length)
  (body:∀(cdv:Value) (A:Around) (outer:List Env) (s:Shared) (H:Hp) (vs:List V) (Q:VK) (E:XK),qZ k (A.deeper (envOfC qual (xh st) s.heap.objs.size f cdv))→sp vs H Q E →
   ∃t,PSs (gc CX0 P w K mg base N qual (xh st) f cdv A outer s H E).nox (yQ st) t∧t { nx:=fun _ H'=>Q .non H',rt:=Q } (start N vs) H):Own P w K mg base (k+1) x ps sp :=
 ⟨f,fd,F.ok S len body,b,F.kp,mgx⟩
section
variable {X:Cx}
def xeT (i j:Int):Prop:=0<j∧j.natAbs.log2<9000
theorem bX:OpR X (binaryOp .FloorDiv) (rI xeT fun i j=>.int (i / j)):=opI fun i j _ _ _ _ _ hc q=>by
 refine floordiv_int (by have:=hc.1;omega) ?_ (.inl (PyProof.noPylong_of_log2 hc.2))
 rw[Int.fdiv_eq_ediv_of_nonneg i (by have:=hc.1;omega)]
 exact q
theorem gN {i j:Int}(h0:0<j)(h:j<2 ^ 128):xeT i j:=by
 refine⟨h0,?_⟩
 have:j.natAbs<2 ^ 128:=by omega
 have:=Nat.log2_lt (n:=j.natAbs) (k:=128) (by omega)
 have h':j.natAbs.log2<128:=this.mpr (by omega)
 omega
def mz (n c:String):Bool:=n == c || (n == "bool" && c == "int")
def sC:List String:=["NoneType", "bool", "int", "str", "list", "tuple", "dict"]
def uF:List String:=["bool", "int", "str", "list", "tuple", "dict"]
theorem my {K:PySem.W.Frag}{n c:String}(hn:n∈sC)(hc:c∈uF):PySem.W.kitOne K (.type n) (.type c)=some (mz n c):=by
 simp only[sC,uF,xjf,xjv,xj9] at hn hc
 rcases hn with rfl | rfl | rfl | rfl | rfl | rfl | rfl<;>rcases hc with rfl | rfl | rfl | rfl | rfl | rfl<;>kernel_rfl
def tyN (H:Hp):V→Option String
 | .non=>some "NoneType"
 | .bl _=>some "bool"
 | .int _=>some "int"
 | .str _=>some "str"
 | .ref a=>match H a with
  | some (.lst _)=>some "list"
  | some (.frz _ (.lst _))=>some "list"
  | some (.tup _)=>some "tuple"
  | some (.dK _)=>some "dict"
  | _=>none
 | _=>none
theorem xcE {K:PySem.W.Frag}{H:Hp}{x:V}{n:String}(h:tyN H x=some n):oi K H x (.type n)∧n∈sC:=by
 cases x with
 | non=>cases h;exact⟨.non,by decide⟩
 | bl b=>cases h;exact⟨.bl b,by decide⟩
 | int i=>cases h;exact⟨.int i,by decide⟩
 | str y=>cases h;exact⟨.str y,by decide⟩
 | ref a =>
  have h:(match H a with
   | some (.lst _)=>some "list"
   | some (.frz _ (.lst _))=>some "list"
   | some (.tup _)=>some "tuple"
   | some (.dK _)=>some "dict"
   | _=>none)=some n:=h
  split at h
  ·rename_i xs e;cases h;exact⟨.lst e,by decide⟩
  ·rename_i o xs e;cases h;exact⟨.frz e,by decide⟩
  ·rename_i xs e;cases h;exact⟨.tup e,by decide⟩
  ·rename_i xs e;cases h;exact⟨.dK e,by decide⟩
  ·cases h
 | _=>cases h
def xgX (xs:List V)(H:Hp)(Q:VK):Prop:=∃x c n,xs=[x,.ty c]∧tyN H x=some n∧c∈uF∧Q (.bl (mz n c)) H
theorem zY:vJ X (.builtin "isinstance") xgX:=by
 intro pins s σ H xs us Q I r h
 obtain⟨x,c,n,rfl,ty,hc,q⟩:=h
 obtain⟨u,w',rfl,rx,ry⟩:=vals2 r
 cases ry
 obtain⟨t1,t2⟩:=xcE (K:=X.K) ty
 exact xaS I rx t1 (my t2 hc) fun tk=>⟨.bl _,H,I.tok tk,rfl,q⟩
def xfG (xs:List V)(H:Hp)(Q:VK):Prop:=∃(x:V) (p:Addr) (cs:List String) (n:String),xs=[x,.ref p]∧H p=some (.tup (cs.map V.ty))∧tyN H x=some n∧(∀c∈cs,c∈uF)∧Q (.bl (cs.any (mz n))) H
theorem lP:∀ {cs:List String} {us:List Value},yS (cs.map V.ty) us→us=cs.map Value.type
 | [],_,.nil=>rfl
 | c::cs,_,.cons r t=>by
  cases r
  rw[lP t];rfl
theorem cY {K:PySem.W.Frag}{n:String}(hn:n∈sC):∀ {cs:List String},(∀c∈cs,c∈uF)→PySem.W.kitAny K (.type n) (cs.map Value.type)=some (cs.any (mz n))
 | [],_=>rfl
 | c::cs,h=>by
  have e:=my (K:=K) hn (h c xjh)
  show(match PySem.W.kitOne K (.type n) (.type c) with | some true=>some true | some false=>PySem.W.kitAny K (.type n) (cs.map Value.type) | none=>none)=_
  rw[e,List.any_cons]
  cases mz n c with
  | true=>rfl
  | false=>exact(cY hn fun d hd=>h d (xjg _ hd)).trans (by simp)
theorem xay:vJ X (.builtin "isinstance") xfG:=by
 intro pins s σ H xs us Q I r h
 obtain⟨x,p,cs,n,rfl,hp,ty,hc,q⟩:=h
 obtain⟨u,w',rfl,rx,ry⟩:=vals2 r
 cases ry
 obtain⟨t1,t2⟩:=xcE (K:=X.K) ty
 obtain⟨_,its,rv,⟨cl,dd,dt,sl⟩,h1,h2,nn,h3⟩:=(show zV X.prog X.w H s.heap p (.tup _) from I.hok p _ hp)
 have e:=lP rv
 subst e
 simp only at h2 h3
 subst h2 h3
 have fin:∀tk,EP X pins σ Q (.bool (cs.any (mz n))) { s with toks:=tk }:=fun tk=>⟨.bl _,H,I.tok tk,rfl,q⟩
 have ka:=cY (K:=X.K) t2 hc
 cases t1 with
 | non=>cases (show u=Value.none from rx);exact PySem.W.kia_tup PySem.W.kitx_none I.kIn True.intro h1 ka (fun z=>nomatch z) fin
 | bl y=>cases (show u=Value.bool y from rx);exact PySem.W.kia_tup PySem.W.kitx_bool I.kIn True.intro h1 ka (fun z=>nomatch z) fin
 | int i=>obtain⟨t,q⟩:=(show ∃t,u=Value.int i t from rx);cases q;exact PySem.W.kia_tup PySem.W.kitx_int I.kIn True.intro h1 ka (fun z=>nomatch z) fin
 | str y=>obtain⟨t,q⟩:=(show ∃t,u=Value.str y t from rx);cases q;exact PySem.W.kia_tup PySem.W.kitx_str I.kIn True.intro h1 ka (fun z=>nomatch z) fin
 | flt y=>obtain⟨t,q⟩:=(show ∃t,u=Value.float y t from rx);cases q;exact PySem.W.kia_tup PySem.W.kitx_float I.kIn True.intro h1 ka (fun z=>nomatch z) fin
 | @lst a xs ea =>
  cases (show u=Value.ref a from rx)
  obtain⟨_,_,n,_,hh⟩:=(show zV X.prog X.w H s.heap a (.lst xs) from I.hok a _ ea)
  exact PySem.W.kia_tup PySem.W.kitx_list I.kIn ⟨_,hh,rfl⟩ h1 ka (fun z=>nomatch z) fin
 | @frz a ob xs ea =>
  cases (show u=Value.ref a from rx)
  obtain⟨_,_,_,n,_,hh⟩:=(show zV X.prog X.w H s.heap a (.frz ob (.lst xs)) from I.hok a _ ea)
  exact PySem.W.kia_tup PySem.W.kitx_list I.kIn ⟨_,hh,rfl⟩ h1 ka (fun z=>nomatch z) fin
 | @tup a xs ea =>
  cases (show u=Value.ref a from rx)
  obtain⟨_,_,_,p⟩:=(show zV X.prog X.w H s.heap a (.tup xs) from I.hok a _ ea)
  obtain⟨o,hh,h2,_⟩:=p
  exact PySem.W.kia_tup PySem.W.kitx_tuple I.kIn ⟨o,hh,h2⟩ h1 ka (fun z=>nomatch z) fin
 | @dK a kvs ea =>
  cases (show u=Value.ref a from rx)
  obtain⟨_,_,vs,_,p⟩:=(show zV X.prog X.w H s.heap a (.dK kvs) from I.hok a _ ea)
  obtain⟨o,es,ep,hh,h2,_⟩:=p
  exact PySem.W.kia_tup PySem.W.kitx_dict I.kIn ⟨o,hh,h2.1⟩ h1 ka (fun z=>nomatch z) fin
 | @dT a kvs ea =>
  cases (show u=Value.ref a from rx)
  obtain⟨_,_,xs,_,o,es,ep,hh,h2,_⟩:=(show zV X.prog X.w H s.heap a (.dT kvs) from I.hok a _ ea)
  exact PySem.W.kia_tup PySem.W.kitx_dict I.kIn ⟨o,hh,h2.1⟩ h1 ka (fun z=>nomatch z) fin
theorem dn:∀ {bs:List Bool} {us:List Value},yS (bs.map V.bl) us→us=bs.map Value.bool
 | [],_,.nil=>rfl
 | c::cs,_,.cons r t=>by
  cases r
  rw[dn t];rfl
def xec (K:PySem.W.Frag)(xs:List V)(H:Hp)(Q:VK):Prop:=∃(p:Addr) (bs:List Bool),xs=[.ref p]∧SqL K H p (bs.map V.bl)∧Q (.bl (bs.all id)) H
theorem af {bs:List Bool}:(List.range bs.length).all (fun i=>(bs[i]?).getD false)=bs.all id:=by
 rw[xhY]
 simp only[xiw,xjp,id]
 constructor
 ·intro h b hb
  obtain⟨i,hi,rfl⟩:=xjk.mp hb
  have:=h i hi
  rw[xiP hi] at this
  exact this
 ·intro h i hi
  rw[xiP hi]
  exact h _ (xiV hi)
theorem o6 (hc:X.calm=true):vJ X (.builtin "all") (xec X.K):=by
 intro pins s σ H xs us Q I r h
 obtain⟨p,bs,rfl,hl,q⟩:=h
 obtain⟨u,rfl,ru⟩:=vals1 r
 cases ru
 obtain⟨its,rv,pl,hz⟩:=I.list hl
 have e:=dn rv
 subst e
 have hl':=pl.isList
 refine call_all_walk (wpAny_pyIter_list hl' ?_)
 have hlt:p<s.heap.objs.size:=by obtain⟨o,ho,_⟩:=id hl';exact Heap.lt_size ho
 have hne:p≠s.heap.objs.size:=xjT hlt
 refine⟨_,_,_,_,_,_,fun i=>(bs[i]?).getD false,rfl,Walks.list (A:=X.A.in1) (I.ok.hd hc) _ p hne (bs.map Value.bool).toArray,⟨⟨_,Heap.get?_push_size _ rfl,rfl,rfl⟩,hl'.at fun o e=>Heap.get?_push_of_some _ e⟩,?_,fun h' tk hk=>?_⟩
 ·intro i v s' Q' E' hP hq
  have hP':(bs.map Value.bool)[i]? = some v:=by simpa using hP
  rw[xiS] at hP'
  cases eb:bs[i]? with
  | none=>rw[eb] at hP';cases hP'
  | some b =>
   rw[eb] at hP'
   cases hP'
   simp only[eb,xjX] at hq
   exact wpAny_truthy_bool hq
 ·have hk':=old_kept (l:=p) hk
  refine⟨.bl (bs.all id),H,I.kept hk',?_,q⟩
  show Value.bool _=Value.bool _
  have:(bs.map Value.bool).toArray.size=bs.length:=by simp
  rw[this,af]
end
end L2
namespace L2
open PySem PySem.Spec PyProof.Rows
structure Blt (mg:Str→Option Value)(ns:List Str):Prop where
 all:∀x∈ns,mg x=none
theorem Blt.get {mg:Str→Option Value}{ns:List Str}(B:Blt mg ns)(x:Str)(h:x∈ns:=by decide +kernel):mg x=none:=B.all x h
theorem wI:bootBuiltins "len" = some (.builtin "len"):=by decide +kernel
theorem xfg:bootBuiltins "max" = some (.builtin "max"):=by decide +kernel
theorem xfX:bootBuiltins "min" = some (.builtin "min"):=by decide +kernel
theorem ji:bootBuiltins "abs" = some (.builtin "abs"):=by decide +kernel
theorem dM:bootBuiltins "all" = some (.builtin "all"):=by decide +kernel
theorem xI:bootBuiltins "isinstance" = some (.builtin "isinstance"):=by decide +kernel
theorem uk:bootBuiltins "tuple" = some (.type "tuple"):=by decide +kernel
theorem gL:bootBuiltins "list" = some (.type "list"):=by decide +kernel
theorem xeY:bootBuiltins "int" = some (.type "int"):=by decide +kernel
theorem sj:bootBuiltins "bool" = some (.type "bool"):=by decide +kernel
theorem xfM:bootBuiltins "zip" = some (.type "zip"):=by decide +kernel
def xgo (n:Int)(b:Bool):Prop:=0≤n∧(b=false→n<2147483647)
def mH (p:Addr)(H:Hp):Prop:=∃(n:Int) (b:Bool),H p=some (.lst [.int n,.bl b])∧xgo n b
structure SB (p:Addr)(H H':Hp):Prop where
 keep:∀(b:Addr) (o:HO),b≠p→H b=some o→H' b=some o
 st:mH p H'
def xcv (K:PySem.W.Frag):Sp:=fun vs H Q _=>∃(a:Addr) (ns:List Int) (k:Int),vs=[.ref a,.int k]∧SqL K H a (ns.map V.int)∧ns.length≤63∧0≤k∧∀n:Int,Q (.int n) H
def nt (K:PySem.W.Frag):Sp:=fun vs H Q _=>∃(a:Addr) (ns:List Int) (k:Int),vs=[.ref a,.int k]∧SqL K H a (ns.map V.int)∧ns.length≤63∧0≤k ∧
 ∀(p:Addr) (n:Int) (b:Bool),H p=none→xgo n b→Q (.ref p) (upd H p (.lst [.int n,.bl b]))
def xcw:Sp:=fun vs H Q _=>∃(p:Addr) (many:Int),vs=[.ref p,.int many]∧mH p H∧0<many∧many<2 ^ 128∧∀(r:Int) (H':Hp),0≤r→r<many→SB p H H'→Q (.int r) H'
theorem xb7 {ns:List Int}{k:Int}(h0:0≤k)(h:k<(ns.length:Int)):∃v:Int,atI (ns.map V.int) k=some (.int v):=by
 have hk:k.toNat<ns.length:=by omega
 have ek:k=((k.toNat:Nat):Int):=by omega
 have q:atI (ns.map V.int) ((k.toNat:Nat):Int)=some (.int ns[k.toNat]):=xdH (by rw[xiS,xiP hk]<;>rfl)
 rw[←ek] at q
 exact⟨_,q⟩
end L2
namespace L2
open PySem PySem.Spec PyProof.Rows
section
variable {X:Cx}
theorem uo (K:PySem.W.Frag)(e:X.K=K:=by rfl):IxR X (xgq K):=e▸oz
theorem bZ (K:PySem.W.Frag)(e:X.K=K:=by rfl):SlR X (xf6 K):=e▸oy
theorem w6 (K:PySem.W.Frag)(hc:X.calm=true)(e:X.K=K:=by rfl):vJ X (.builtin "all") (xec K):=e▸o6 hc
def xdj (K:PySem.W.Frag)(xs:List V)(H:Hp)(Q:VK):Prop:=∃p ys,xs=[.ref p]∧(SqL K H p ys∨SqT K H p ys)∧Q (.int ys.length) H
theorem yz (K:PySem.W.Frag)(e:X.K=K:=by rfl):vJ X (.builtin "len") (xdj K):=e▸rq
def xdf (K:PySem.W.Frag)(xs:List V)(H:Hp)(Q:VK):Prop:=∃p ys,xs=[.ref p]∧((SqL K H p ys∧∀l,H l=none→Q (.ref l) (upd H l (.tup ys)))∨(SqT K H p ys∧Q (.ref p) H))
theorem ku (K:PySem.W.Frag)(e:X.K=K:=by rfl):vJ X (.type "tuple") (xdf K):=e▸az
def xe7 (K:PySem.W.Frag)(xs:List V)(H:Hp)(Q:VK):Prop:=∃p ys,xs=[.ref p]∧(SqL K H p ys∨SqT K H p ys)∧∀l,H l=none→Q (.ref l) (upd H l (.lst ys))
theorem dX (K:PySem.W.Frag)(e:X.K=K:=by rfl):vJ X (.type "list") (xe7 K):=e▸t7
theorem zm (K:PySem.W.Frag){pos:Pos}{es:List Expr}{k:Nat}{t:TGs}{n:Nat}(hc:X.calm=true)(h:PGs X es t)
  (hn:(assignEach es X.env).length=n:=by rfl) (hst:(assignEach es X.env).findIdx? (·.1)=none:=by rfl) (e:X.K=K:=by rfl):PG X (.Tuple es k pos) (xf7 K n t):=by
 subst e
 exact xfO hc h hn hst
end
theorem dy {α β:Type}{F:α→β→Prop}:∀ {l:List α} {k:List β} {i:Nat} {b:β},Paired F l k→k[i]? = some b→∃a,l[i]? = some a∧F a b
 | _,_,_,_,.nil,h=>by simp at h
 | _,_,0,_,.cons r _,h=>by simp at h;subst h;exact⟨_,rfl,r⟩
 | _,_,i+1,b,.cons _ t,h=>by
  obtain⟨a,e,f⟩:=dy (i:=i) t (by simpa using h)
  exact⟨a,by simpa using e,f⟩
theorem pC {α β:Type}{F:α→β→Prop}{l:List α}{k:List β}(h:Paired F l k):l.length=k.length:=Paired.length h
theorem nG {α β:Type}{F:α→β→Prop}{a:α}{b:β}{l:List α}{k:List β}(h:Paired F l k)(r:F a b):Paired F (l++[a]) (k++[b]):=Paired.snoc h r
theorem dP {α β:Type}{F:α→β→Prop}:∀ {l l':List α} {k k':List β},Paired F l k→Paired F l' k'→Paired F (l++l') (k++k')
 | _,_,_,_,.nil,s=>s
 | _,_,_,_,.cons r t,s=>.cons r (dP t s)
theorem kE {α β:Type}{F:α→β→Prop}:∀(n:Nat) {l:List α} {k:List β},Paired F l k→Paired F (l.drop n) (k.drop n)
 | 0,_,_,h=>h
 | _+1,_,_,.nil=>.nil
 | n+1,_,_,.cons _ t=>kE n t
theorem vd {α β:Type}{F:α→β→Prop}:∀(n:Nat) {l:List α} {k:List β},Paired F l k→Paired F (l.take n) (k.take n)
 | 0,_,_,_=>.nil
 | _+1,_,_,.nil=>.nil
 | n+1,_,_,.cons r t=>.cons r (vd n t)
theorem take_succ {α:Type}{l:List α}{i:Nat}{a:α}(h:l[i]? = some a):l.take (i+1)=l.take i++[a]:=by
 rw[xjH,h];rfl
theorem sz {n:Nat}(h:n≤1000):n≤sizeLine:=xjJ (lh h)
end L2
namespace L2
open PySem PySem.Spec PyProof.Rows
open Builtin.SmallTypes (nextOf)
structure Drw (it a:Addr)(vs:List Value)(tn:Nat→Heap→Prop)(src:Heap→Prop):Prop where
 mv:∀i h h',tn i h→(∀o,h.get? it=some o→h'.get? it=some o)→tn i h'
 smv:∀h h',src h→(∀o,h.get? a=some o→h'.get? a=some o)→src h'
 ob:∀i h,tn i h→∃o,h.get? it=some o∧∀v,o.data≠.cell v
 item:∀(prog:Program) (w:World) (A:Around) (E:Value→Shared→Prop) (i:Nat) (x:Value) (s:Shared) (Q:Value→Shared→Prop),tn i s.heap→src s.heap→vs[i]? = some x →
  (∀h',tn (i+1) h'→Heap.SameBut it s.heap h'→Q x { s with heap:=h' })→wpAny (model prog w) A (nextOf (.ref it)) Q E s
 fin:∀(prog:Program) (w:World) (A:Around) (E:Value→Shared→Prop) (i:Nat) (s:Shared) (Q:Value→Shared→Prop),A.handled=none→tn i s.heap→src s.heap→vs[i]? = none →
  (∀h' e,Heap.ExtBut it s.heap h'→(∃o,h'.get? e=some o∧o.cls=.type "StopIteration")→E (.ref e) { s with heap:=h' })→wpAny (model prog w) A (nextOf (.ref it)) Q E s
theorem xbH (it a:Addr)(vs:List Value):Drw it a vs (fun i h=>h.IsListIter it a i) (fun h=>h.IsList a vs.toArray) where
 mv:=fun i h h' t k=>t.at k
 smv:=fun h h' t k=>t.at k
 ob:=fun i h t=>let ⟨o,e,_,d⟩:=t;⟨o,e,fun v z=>by rw[d] at z;cases z⟩
 item:=fun prog w A E i x s Q t l e h=>wpAny_nextOf_list_item t l (by simpa using e) h
 fin:=fun prog w A E i s Q hh t l e h=>wpAny_nextOf_list_end hh t l (by simpa using e) h
section
variable {prog:Program} {w:World} {A:Around} {E:Value→Shared→Prop} {s:Shared}
theorem rO {it a:Addr}{i:Nat}{vs:List Value}{x:Value}{Q:Value→Shared→Prop}(T:s.heap.IsTupleIter it a i)(S:s.heap.IsTuple a vs.toArray)(e:vs[i]? = some x)
  (h:∀h',h'.IsTupleIter it a (i+1)→Heap.SameBut it s.heap h'→Q x { s with heap:=h' }):wpAny (model prog w) A (nextOf (.ref it)) Q E s:=by
 obtain⟨ob,hob,hcl,hdt⟩:=id T
 obtain⟨os,hos,_,nn,hsq⟩:=id S
 have e':vs.toArray[i]? = some x:=by simpa using e
 unfold nextOf
 refine wpAny_bind (wpAny_callSpecial?_slot (name:=Str.ofString "__next__") T.typeIs F.slot_tuple_iterator_next (wpAny_call_entry F.slot_tuple_iterator_next T.typeIs F.entry_tuple_iterator_next (wpAny_bind (m:=field (.ref it) 0) (wpAny_field hob hdt (x:=.ref a) rfl ?_)) (F.args_tuple_iterator_next_1 _)))
 refine wpAny_bind (m:=field (.ref it) 1) (wpAny_field hob hdt (x:=.int i 0) rfl (wpAny_bind (m:=seqItems? (.ref a)) (wpAny_seqItems hos hsq ?_)))
 simp only[xir,e']
 refine wpAny_bind (wpAny_setField hob hdt (by simp) (wpAny_pure ⟨x,rfl,wpAny_pure (h _ ⟨_,Heap.get?_update_self _ hob (Obj.isFreed_of_fields (Obj.data_mapFields hdt _)),(Obj.cls_mapFields ..).trans hcl,?_⟩ (Heap.SameBut.update ..))⟩))
 rw[Obj.data_mapFields hdt]
 simp[rawInt]
theorem nX {it a:Addr}{i:Nat}{vs:List Value}{Q:Value→Shared→Prop}(hn:A.handled=none)(T:s.heap.IsTupleIter it a i)(S:s.heap.IsTuple a vs.toArray)(e:vs[i]? = none)
  (h:∀h' x,Heap.ExtBut it s.heap h'→(∃o,h'.get? x=some o∧o.cls=.type "StopIteration")→E (.ref x) { s with heap:=h' }):wpAny (model prog w) A (nextOf (.ref it)) Q E s:=by
 obtain⟨ob,hob,hcl,hdt⟩:=id T
 obtain⟨os,hos,_,nn,hsq⟩:=id S
 have e':vs.toArray[i]? = none:=by simpa using e
 unfold nextOf
 refine wpAny_bind (wpAny_callSpecial?_slot (name:=Str.ofString "__next__") T.typeIs F.slot_tuple_iterator_next (wpAny_call_entry F.slot_tuple_iterator_next T.typeIs F.entry_tuple_iterator_next (wpAny_bind (m:=field (.ref it) 0) (wpAny_field hob hdt (x:=.ref a) rfl ?_)) (F.args_tuple_iterator_next_1 _)))
 refine wpAny_bind (m:=field (.ref it) 1) (wpAny_field hob hdt (x:=.int i 0) rfl (wpAny_bind (m:=seqItems? (.ref a)) (wpAny_seqItems hos hsq ?_)))
 simp only[xir,e']
 refine wpAny_bind (wpAny_rule (wpAny_bind (wpAny_setField hob hdt (by simp) (wpAny_bind ?_))))
 simp only[newExc,newTuple]
 refine wpAny_bind (wpAny_newObj_type (wpAny_bind (m:=firstArgMember _ _) (wpAny_of_eq (a:=Value.none) (by first | rfl | (simp only[firstArgMember];rfl)) (wpAny_newObj_type ?_ (by size_fits)))) (by size_fits))
 simp only[raiseNew]
 refine wpAny_bind (wpAny_handled ?_)
 first | rw[show A.in1.handled=none from hn] | rw[hn]
 exact wpAny_bind (wpAny_pure (wpAny_throw (h _ _ (((Heap.SameBut.update ..).extBut.push _).push _) ⟨_,Heap.get?_push_size _ rfl,rfl⟩)))
end
theorem xdn (it a:Addr)(vs:List Value):Drw it a vs (fun i h=>h.IsTupleIter it a i) (fun h=>h.IsTuple a vs.toArray) where
 mv:=fun i h h' t k=>t.at k
 smv:=fun h h' t k=>let ⟨o,e,r⟩:=t;⟨o,k o e,r⟩
 ob:=fun i h t=>let ⟨o,e,_,d⟩:=t;⟨o,e,fun v z=>by rw[d] at z;cases z⟩
 item:=fun prog w A E i x s Q t l e h=>rO t l e h
 fin:=fun prog w A E i s Q hh t l e h=>nX hh t l e h
structure ZA (z ti to i1 i2 a1 a2:Addr):Prop where
 a:ti≠z∧to≠z∧i1≠z∧i2≠z∧ti≠to∧ti≠i1∧ti≠i2∧to≠i1∧to≠i2∧i1≠i2
 b:a1≠z∧a1≠to∧a1≠i1∧a1≠i2∧a2≠z∧a2≠to∧a2≠i1∧a2≠i2
section
variable {prog:Program} {w:World} {A:Around} {E:Value→Shared→Prop} {s:Shared} {z ti to i1 i2 a1 a2:Addr} {vs us:List Value} {t1 t2:Nat→Heap→Prop} {s1 s2:Heap→Prop}
theorem xaB {k:Nat}{x y p q:Value}{Q:Value→Shared→Prop}(D:ZA z ti to i1 i2 a1 a2)(W1:Drw i1 a1 vs t1 s1)(W2:Drw i2 a2 us t2 s2)(Z:IsZip s.heap z ti to .none)(TI:IsPair s.heap ti (.ref i1) (.ref i2))(TO:IsPair s.heap to p q)
  (b1:t1 k s.heap) (b2:t2 k s.heap) (c1:s1 s.heap) (c2:s2 s.heap) (ex:vs[k]? = some x) (ey:us[k]? = some y)
  (h:∀h',IsZip h' z ti to (rawInt s.heap.objs.size)→IsPair h' to x y→t1 (k+1) h'→t2 (k+1) h'→IsPair h' s.heap.objs.size x y →
   (∀c o,c≠z→c≠to→c≠i1→c≠i2→s.heap.get? c=some o→h'.get? c=some o)→Q (.ref s.heap.objs.size) { s with heap:=h' }) :
  wpAny (model prog w) A (Builtin.«zip.__next__» ⟨[.ref z],[]⟩) (fun fin s'=>∃v,fin=.done (.ret v)∧Q v s') E s:=by
 obtain⟨⟨d1,d2,d3,d4,d5,d6,d7,d8,d9,d10⟩,e1,e2,e3,e4,e5,e6,e7,e8⟩:=D
 refine wpAny_bind (m:=field (.ref z) 2) (wpAny_field Z rfl (x:=.bool false) rfl (wpAny_bind (m:=field (.ref z) 3) (wpAny_field Z rfl (x:=.ref ti) rfl (wpAny_bind (wpAny_seqItems TI rfl ?_)))))
 refine wpAny_bind (m:=Builtin.SmallTypes.ownedTupleIsFree (.ref z)) ?_
 unfold Builtin.SmallTypes.ownedTupleIsFree
 refine wpAny_bind (wpAny_field Z rfl (x:=.none) rfl (wpAny_pure ?_))
 simp only[if_true]
 refine wpAny_bind (wpAny_rule (wpAny_bind (wpAny_field Z rfl (x:=.ref to) rfl (wpAny_bind (wpAny_setField_rec Z (by simp) fun g1 Z1 S1=>wpAny_bind ?_)))))
 replace Z1:IsZip g1 z ti to .ellipsis:=Z1
 simp only[List.zipIdx_cons,List.zipIdx_nil,List.forIn_cons,List.forIn_nil]
 refine wpAny_bind (wpAny_bind (wpAny_onRaise (wpAny_bind (m:=nextOf (.ref i1)) ?_)))
 refine W1.item _ _ _ _ k x _ _ (W1.mv _ _ _ b1 fun o=>S1.extBut _ o d3) (W1.smv _ _ c1 fun o=>S1.extBut _ o e1) ex fun g2 b12 S2=>wpAny_pure ?_
 have TO2:IsPair g2 to p q:=S2.extBut _ _ d8 (S1.extBut _ _ d2 TO)
 refine wpAny_bind (wpAny_seqItems TO2 rfl (wpAny_bind (wpAny_updateSeq_pair TO2 fun g3 TO3 S3=>wpAny_bind (wpAny_letGo (wpAny_pure ?_)))))
 replace TO3:IsPair g3 to x q:=TO3
 refine wpAny_bind (wpAny_bind (wpAny_onRaise (wpAny_bind (m:=nextOf (.ref i2)) ?_)))
 have k3:∀c o,c≠z→c≠to→c≠i1→s.heap.get? c=some o→g3.get? c=some o:=fun c o n1 n2 n3 g=>S3.extBut _ _ n2 (S2.extBut _ _ n3 (S1.extBut _ _ n1 g))
 refine W2.item _ _ _ _ k y _ _ (W2.mv _ _ _ b2 fun o=>k3 _ o d4 (Ne.symm d9) (Ne.symm d10)) (W2.smv _ _ c2 fun o=>k3 _ o e5 e6 e7) ey fun g4 b24 S4=>wpAny_pure ?_
 have TO4:IsPair g4 to x q:=S4.extBut _ _ d9 TO3
 refine wpAny_bind (wpAny_seqItems TO4 rfl (wpAny_bind (wpAny_updateSeq_pair TO4 fun g5 TO5 S5=>wpAny_bind (wpAny_letGo (wpAny_pure (wpAny_pure ?_))))))
 replace TO5:IsPair g5 to x y:=TO5
 refine wpAny_bind (wpAny_seqItems TO5 rfl (wpAny_bind (wpAny_newTuple (wpAny_bind (m:=Builtin.SmallTypes.ownedTupleHandOut (.ref z) (.ref g5.objs.size)) ?_))))
 have sz5:g5.objs.size=s.heap.objs.size:=by rw[S5.1,S4.1,S3.1,S2.1,S1.1]
 have k5:∀c o,c≠to→c≠i2→g3.get? c=some o→g5.get? c=some o:=fun c o n1 n2 g=>S5.extBut _ _ n1 (S4.extBut _ _ n2 g)
 have Z5:IsZip g5 z ti to .ellipsis:=k5 _ _ (Ne.symm d2) (Ne.symm d4) (S3.extBut _ _ (Ne.symm d2) (S2.extBut _ _ (Ne.symm d3) Z1))
 have b15:t1 (k+1) g5:=W1.mv _ _ _ b12 fun o g=>k5 _ o (Ne.symm d8) d10 (S3.extBut _ o (Ne.symm d8) g)
 have b25:t2 (k+1) g5:=W2.mv _ _ _ b24 fun o g=>S5.extBut _ o (Ne.symm d9) g
 have zlt:z<g5.objs.size:=Heap.lt_size Z5
 unfold Builtin.SmallTypes.ownedTupleHandOut
 refine wpAny_bind (wpAny_setField_rec (show IsZip (g5.push { cls:=.type "tuple", data:=.seq #[x,y] }) z ti to .ellipsis from Heap.get?_push_of_some _ Z5) (by simp) fun g7 Z7 S7=>wpAny_setField_rec (show IsZip g7 z ti to (rawInt g5.objs.size) from Z7) (by simp) fun g8 Z8 S8=>?_)
 replace Z8:IsZip g8 z ti to (rawInt g5.objs.size):=Z8
 have up8:∀c o,c≠z→g5.get? c=some o→g8.get? c=some o:=fun c o n g=>S8.extBut _ _ n (S7.extBut _ _ n (Heap.get?_push_of_some _ g))
 have T8:IsPair g8 g5.objs.size x y:=S8.extBut _ _ (xjS zlt) (S7.extBut _ _ (xjS zlt) (Heap.get?_push_size _ rfl))
 refine wpAny_pure ⟨_,rfl,?_⟩
 show Q (.ref g5.objs.size) _
 rw[sz5] at Z8 T8 ⊢
 exact h g8 Z8 (up8 _ _ d2 TO5) (W1.mv _ _ _ b15 fun o g=>up8 _ o d3 g) (W2.mv _ _ _ b25 fun o g=>up8 _ o d4 g) T8 fun c o n1 n2 n3 n4 g=>up8 c o n1 (k5 c o n2 n4 (k3 c o n1 n2 n3 g))
theorem xa9 {k:Nat}{p q:Value}{Q:Fin→Shared→Prop}(hn:A.handled=none)(D:ZA z ti to i1 i2 a1 a2)(W1:Drw i1 a1 vs t1 s1)(W2:Drw i2 a2 us t2 s2)(Z:IsZip s.heap z ti to .none)(TI:IsPair s.heap ti (.ref i1) (.ref i2))(TO:IsPair s.heap to p q)
  (b1:t1 k s.heap) (b2:t2 k s.heap) (c1:s1 s.heap) (c2:s2 s.heap) (end':vs[k]? = none∨us[k]? = none)
  (h:∀h' e,(∀c o,c≠z→c≠to→c≠i1→c≠i2→s.heap.get? c=some o→h'.get? c=some o)→(∃o,h'.get? e=some o∧o.cls=.type "StopIteration")→E (.ref e) { s with heap:=h' }) :
  wpAny (model prog w) A (Builtin.«zip.__next__» ⟨[.ref z],[]⟩) Q E s:=by
 obtain⟨⟨d1,d2,d3,d4,d5,d6,d7,d8,d9,d10⟩,e1,e2,e3,e4,e5,e6,e7,e8⟩:=D
 refine wpAny_bind (m:=field (.ref z) 2) (wpAny_field Z rfl (x:=.bool false) rfl (wpAny_bind (m:=field (.ref z) 3) (wpAny_field Z rfl (x:=.ref ti) rfl (wpAny_bind (wpAny_seqItems TI rfl ?_)))))
 refine wpAny_bind (m:=Builtin.SmallTypes.ownedTupleIsFree (.ref z)) ?_
 unfold Builtin.SmallTypes.ownedTupleIsFree
 refine wpAny_bind (wpAny_field Z rfl (x:=.none) rfl (wpAny_pure ?_))
 simp only[if_true]
 refine wpAny_bind (wpAny_rule (wpAny_bind (wpAny_field Z rfl (x:=.ref to) rfl (wpAny_bind (wpAny_setField_rec Z (by simp) fun g1 Z1 S1=>wpAny_bind ?_)))))
 replace Z1:IsZip g1 z ti to .ellipsis:=Z1
 simp only[List.zipIdx_cons,List.zipIdx_nil,List.forIn_cons,List.forIn_nil]
 refine wpAny_bind (wpAny_bind (wpAny_onRaise (wpAny_bind (m:=nextOf (.ref i1)) ?_)))
 have b1':=W1.mv _ _ _ b1 fun o=>S1.extBut _ o d3
 have c1':=W1.smv _ _ c1 fun o=>S1.extBut _ o e1
 cases ex:vs[k]? with
 | none =>
  refine W1.fin _ _ _ _ k _ _ hn b1' c1' ex fun g2 e S2 he=>?_
  obtain⟨oe,hoe,hce⟩:=he
  have Z2:IsZip g2 z ti to .ellipsis:=S2 _ _ (Ne.symm d3) Z1
  have ne:e≠z:=fun y=>by subst y;rw[Z2] at hoe;cases hoe;simp at hce
  exact wpAny_setField_rec Z2 (by simp) fun g3 _ S3=>h g3 e (fun c o n1 _ n3 _ g=>S3.extBut _ _ n1 (S2 _ _ n3 (S1.extBut _ _ n1 g))) ⟨oe,S3.extBut _ _ ne hoe,hce⟩
 | some x =>
  have ey:us[k]? = none:=end'.resolve_left (by rw[ex];exact fun z=>nomatch z)
  refine W1.item _ _ _ _ k x _ _ b1' c1' ex fun g2 b12 S2=>wpAny_pure ?_
  have TO2:IsPair g2 to p q:=S2.extBut _ _ d8 (S1.extBut _ _ d2 TO)
  refine wpAny_bind (wpAny_seqItems TO2 rfl (wpAny_bind (wpAny_updateSeq_pair TO2 fun g3 TO3 S3=>wpAny_bind (wpAny_letGo (wpAny_pure ?_)))))
  refine wpAny_bind (wpAny_bind (wpAny_onRaise (wpAny_bind (m:=nextOf (.ref i2)) ?_)))
  have k3:∀c o,c≠z→c≠to→c≠i1→s.heap.get? c=some o→g3.get? c=some o:=fun c o n1 n2 n3 g=>S3.extBut _ _ n2 (S2.extBut _ _ n3 (S1.extBut _ _ n1 g))
  refine W2.fin _ _ _ _ k _ _ hn (W2.mv _ _ _ b2 fun o=>k3 _ o d4 (Ne.symm d9) (Ne.symm d10)) (W2.smv _ _ c2 fun o=>k3 _ o e5 e6 e7) ey fun g4 e S4 he=>?_
  obtain⟨oe,hoe,hce⟩:=he
  have Z4:IsZip g4 z ti to .ellipsis:=S4 _ _ (Ne.symm d4) (S3.extBut _ _ (Ne.symm d2) (S2.extBut _ _ (Ne.symm d3) Z1))
  have ne:e≠z:=fun y=>by subst y;rw[Z4] at hoe;cases hoe;simp at hce
  exact wpAny_setField_rec Z4 (by simp) fun g5 _ S5=>h g5 e (fun c o n1 n2 n3 n4 g=>S5.extBut _ _ n1 (S4 _ _ n4 (k3 c o n1 n2 n3 g))) ⟨oe,S5.extBut _ _ ne hoe,hce⟩
end
end L2
namespace L2
open PySem PySem.Spec PyProof.Rows
section
variable {prog:Program} {w:World} {A:Around} {E:Value→Shared→Prop} {s:Shared}
end
theorem xfU {n a1 a2:Addr}(h1:a1<n)(h2:a2<n):ZA (n+4) (n+2) (n+3) n (n+1) a1 a2:=by
 have up:∀(x k:Nat),x<n→x≠n+k:=fun x k h=>xjT (xjP h (xjI n k))
 have ad:∀j k:Nat,j≠k→n+j≠n+k:=fun j k h e=>h (Nat.add_left_cancel e)
 have a0:∀k:Nat,0≠k→n≠n+k:=fun k h e=>h (Nat.add_left_cancel (n:=n) (by simpa using e))
 exact⟨⟨ad _ _ (by decide),ad _ _ (by decide),a0 _ (by decide),ad _ _ (by decide),ad _ _ (by decide),fun e=>a0 2 (by decide) e.symm,ad _ _ (by decide),fun e=>a0 3 (by decide) e.symm,ad _ _ (by decide),a0 _ (by decide)⟩,
  up _ _ h1,up _ _ h1,xjT h1,up _ _ h1,up _ _ h2,up _ _ h2,xjT h2,up _ _ h2⟩
def Sq2 (K:PySem.W.Frag)(b:Bool)(H:Hp)(a:Addr)(xs:List V):Prop:=if b=true then SqT K H a xs else SqL K H a xs
def ou (b:Bool)(a:Addr)(vs:List Value)(h:Heap):Prop:=if b=true then h.IsTuple a vs.toArray else h.IsList a vs.toArray
def Tn2 (b:Bool)(it a:Addr)(i:Nat)(h:Heap):Prop:=if b=true then h.IsTupleIter it a i else h.IsListIter it a i
theorem ae (b:Bool)(it a:Addr)(vs:List Value):Drw it a vs (Tn2 b it a) (ou b a vs):=by
 cases b with
 | true=>exact xdn it a vs
 | false=>exact xbH it a vs
theorem Inv.sq2 {X:Cx}{pins:List (Addr×Obj)}{σ:St}{H:Hp}{s:Shared}{b:Bool}{a:Addr}{xs:List V}(I:Inv X pins σ H s)(h:Sq2 X.K b H a xs):∃vs:List Value,yS xs vs∧ou b a vs s.heap:=by
 cases b with
 | true=>obtain⟨vs,r,p,_⟩:=I.tuple (show SqT X.K H a xs from h);exact⟨vs,r,p⟩
 | false=>obtain⟨vs,r,p,_⟩:=I.list (show SqL X.K H a xs from h);exact⟨vs,r,p.isList⟩
section
variable {P:Program} {w:World} {K:PySem.W.Frag} {z ti to i1 i2 a1 a2:Addr} {b:Bool} {xs ys:List V}
end
section
variable {X:Cx}
end
end L2
namespace L2
open PySem PySem.Spec PyProof.Rows
end L2
namespace L2
open PySem PySem.Spec PyProof.Rows
inductive Tr where
 | non | bl (b:Bool) | int (i:Int) | str (x:Str) | emp | tup (xs:List Tr) | lst (xs:List Tr)
mutual
def Rep (F:Addr→Prop)(H:Hp):Tr→V→Prop
 | .non,v=>v=.non
 | .bl b,v=>v=.bl b
 | .int i,v=>v=.int i
 | .str x,v=>v=.str x
 | .emp,v=>∃a,v=.ref a∧¬F a∧H a=some (.dK [])
 | .tup ts,v=>∃a ws,v=.ref a∧¬F a∧H a=some (.tup ws)∧zo F H ts ws
 | .lst ts,v=>∃a ws,v=.ref a∧¬F a∧H a=some (.lst ws)∧zo F H ts ws
def zo (F:Addr→Prop)(H:Hp):List Tr→List V→Prop
 | [],ws=>ws=[]
 | t::ts,ws=>∃w r,ws=w::r∧Rep F H t w∧zo F H ts r
end
theorem yN {F:Addr→Prop}{H:Hp}:∀ {ts:List Tr} {ws:List V},zo F H ts ws↔Paired (Rep F H) ts ws
 | [],ws=>by
  constructor
  ·intro h;cases (show ws=[] from h);exact .nil
  ·intro h;cases h;rfl
 | t::ts,ws=>by
  constructor
  ·rintro⟨w,r,rfl,h1,h2⟩;exact .cons h1 (yN.mp h2)
  ·intro h
   cases h with
   | cons h1 h2=>exact⟨_,_,rfl,h1,yN.mpr h2⟩
theorem zo.len {F:Addr→Prop}{H:Hp}{ts:List Tr}{ws:List V}(h:zo F H ts ws):ts.length=ws.length:=pC (yN.mp h)
theorem zo.app {F:Addr→Prop}{H:Hp}{ts ts':List Tr}{ws ws':List V}(h:zo F H ts ws)(h':zo F H ts' ws'):zo F H (ts++ts') (ws++ws'):=yN.mpr (dP (yN.mp h) (yN.mp h'))
theorem zo.get {F:Addr→Prop}{H:Hp}{ts:List Tr}{ws:List V}{i:Nat}{w:V}(h:zo F H ts ws)(e:ws[i]? = some w):∃t,ts[i]? = some t∧Rep F H t w:=dy (yN.mp h) e
theorem zo.getT {F:Addr→Prop}{H:Hp}:∀ {ts:List Tr} {ws:List V} {i:Nat} {t:Tr},zo F H ts ws→ts[i]? = some t→∃w,ws[i]? = some w∧Rep F H t w:=fun {ts ws i t} h e=>by
 have hl:=h.len
 have hi:i<ws.length:=by have:=(xiR.mp e).1;omega
 obtain⟨t',e',r⟩:=h.get (xiP hi)
 rw[e] at e';cases e'
 exact⟨_,xiP hi,r⟩
mutual
theorem yy {F F':Addr→Prop}{H H':Hp}(m:∀a o,H a=some o→¬F a→H' a=some o∧¬F' a):∀(t:Tr) (v:V),Rep F H t v→Rep F' H' t v
 | .non,v,h=>h
 | .bl b,v,h=>h
 | .int i,v,h=>h
 | .str x,v,h=>h
 | .emp,v,h=>by
  obtain⟨a,e,n,k⟩:=h
  exact⟨a,e,(m a _ k n).2,(m a _ k n).1⟩
 | .tup ts,v,h=>by
  obtain⟨a,ws,e,n,k,r⟩:=h
  exact⟨a,ws,e,(m a _ k n).2,(m a _ k n).1,yk m ts ws r⟩
 | .lst ts,v,h=>by
  obtain⟨a,ws,e,n,k,r⟩:=h
  exact⟨a,ws,e,(m a _ k n).2,(m a _ k n).1,yk m ts ws r⟩
theorem yk {F F':Addr→Prop}{H H':Hp}(m:∀a o,H a=some o→¬F a→H' a=some o∧¬F' a):∀(ts:List Tr) (ws:List V),zo F H ts ws→zo F' H' ts ws
 | [],ws,h=>h
 | t::ts,ws,h=>by
  obtain⟨w,r,e,h1,h2⟩:=h
  exact⟨w,r,e,yy m t w h1,yk m ts r h2⟩
end
def pY:Tr→Option V
 | .non=>some .non | .bl b=>some (.bl b) | .int i=>some (.int i) | .str x=>some (.str x) | _=>none
theorem vt {F:Addr→Prop}{H:Hp}{t:Tr}{v:V}(h:pY t=some v):Rep F H t v:=by
 cases t with
 | non=>cases h;rfl
 | bl b=>cases h;rfl
 | int i=>cases h;rfl
 | str x=>cases h;rfl
 | _=>cases h
inductive TV where
 | un | fz (t:Tr) | ow (ts:List Tr) | st | sc (ns:List Int) | ob (a:Addr)
abbrev TSt:=List TV
def nth:TSt→Nat→TV
 | [],_=>.un
 | x::_,0=>x
 | _::r,n+1=>nth r n
theorem kZ:∀ {τ:TSt} {i:Nat} (h:i<τ.length),nth τ i=τ[i]
 | [],_,h=>absurd h (by simp)
 | _::_,0,_=>rfl
 | _::r,i+1,h=>kZ (τ:=r) (by simpa using h)
theorem zG:∀ {τ:TSt} {i:Nat} (h:τ.length≤i),nth τ i=.un
 | [],_,_=>rfl
 | _::_,0,h=>absurd h (by simp)
 | _::r,i+1,h=>zG (τ:=r) (by simpa using h)
theorem yO:∀ {τ:TSt} {i:Nat} {x:TV} (h:i<τ.length),nth (τ.set i x) i=x
 | [],_,_,h=>absurd h (by simp)
 | _::_,0,_,_=>rfl
 | _::r,i+1,x,h=>yO (τ:=r) (by simpa using h)
theorem yt:∀ {τ:TSt} {i j:Nat} {x:TV} (h:j≠i),nth (τ.set i x) j=nth τ j
 | [],_,_,_,_=>rfl
 | _::_,0,0,_,h=>absurd rfl h
 | _::_,0,_+1,_,_=>rfl
 | _::_,_+1,0,_,_=>rfl
 | _::r,i+1,j+1,x,h=>yt (τ:=r) (fun e=>h (by rw[e]))
structure FB where
 F0:Addr→Prop
 S0:Addr→Prop
 H0:Hp
 G0:List (Tr×V)
abbrev Phi:=Nat→Option Addr
def Av (B:FB)(φ:Phi)(a:Addr):Prop:=B.F0 a∨∃i,φ i=some a
def SA (B:FB)(φ:Phi)(τ:TSt)(a:Addr):Prop:=B.S0 a∨∃i,φ i=some a∧nth τ i=.st
def Wk (B:FB)(φ:Phi)(τ:TSt)(a:Addr):Prop:=B.F0 a∨SA B φ τ a
def AvB:Bool→FB→Phi→TSt→Addr→Prop
 | true,B,φ,_=>Av B φ
 | false,B,φ,τ=>Wk B φ τ
def tabOf (K:PySem.W.Frag)(x:Str):Option Addr:=match PySem.W.nsIn K mainGlobals x with
 | some (some (.ref f))=>(match K.lookup f with
  | some ⟨_,_,.func fd,_⟩=>(match fd.code with
   | .ref c=>(match K.lookup c with
    | some ⟨_,_,.fields vs,_⟩=>(match vs.toList.getD 11 Value.none with
     | Value.ref P=>(match K.lookup P with
      | none=>some P
      | some _=>none)
     | _=>none)
    | _=>none)
   | _=>none)
  | _=>none)
 | _=>none
def xeo (K:PySem.W.Frag):Option (Addr×Str):=match K.lookup 4 with
 | none=>none
 | some _=>match tabOf K "law" with
  | some P=>some (P, "law.<locals>.<lambda>")
  | none=>match tabOf K "_law_sides_right" with
   | some P=>some (P, "_law_sides_right.<locals>.<lambda>")
   | none=>none
def xen (K:PySem.W.Frag)(H:Hp):Prop:=∀P q,xeo K=some (P,q)→H P=some (.tb q)
def og (K:PySem.W.Frag)(H:Hp)(a:Addr)(ns:List Int):Prop:=((∃o,H a=some (.frz o (.lst (ns.map V.int))))∨∀H',SqL K H' a (ns.map V.int))∧xen K H
def Ent (K:PySem.W.Frag)(B:FB)(φ:Phi)(H:Hp)(i:Nat)(o:Option (Option V)):TV→Prop
 | .un=>True
 | .fz t=>∃v,o=some (some v)∧Rep (Av B φ) H t v
 | .ow ts=>∃a ws,o=some (some (.ref a))∧φ i=some a∧B.H0 a=none∧H a=some (.lst ws)∧zo (Av B φ) H ts ws
 | .st=>∃p,o=some (some (.ref p))∧φ i=some p∧(B.S0 p∨B.H0 p=none)
 | .sc ns=>∃a,o=some (some (.ref a))∧ns.length≤63∧og K H a ns
 | .ob a=>o=some (some (.ref a))
structure RS (K:PySem.W.Frag)(B:FB)(φ:Phi)(σ:St)(τ:TSt)(H:Hp):Prop where
 f0:∀a,B.F0 a→B.H0 a≠none
 s0:∀a,B.S0 a→B.F0 a
 ext:∀a o,B.H0 a=some o→¬B.S0 a→H a=some o
 sst:∀a,SA B φ τ a→mH a H
 inj:∀i j a ts,nth τ i=.ow ts→φ i=some a→φ j=some a→i=j
 ow:∀i a,φ i=some a→H a≠none
 len:σ.length=τ.length
 ent:∀i,Ent K B φ H i (σ[i]?) (nth τ i)
 gh:∀p∈B.G0,Rep (Av B φ) H p.1 p.2
structure HX (B:FB)(φ:Phi)(τ:TSt)(H H':Hp):Prop where
 keep:∀a o,H a=some o→¬SA B φ τ a→H' a=some o
 st:∀a,SA B φ τ a→mH a H'
section
variable {K:PySem.W.Frag} {B:FB} {φ:Phi} {σ:St} {τ:TSt} {H H' H'':Hp}
theorem mH.ne_none {p:Addr}(h:mH p H):H p≠none:=by
 obtain⟨n,b,e,_⟩:=h
 rw[e];exact fun z=>nomatch z
theorem RS.sAv (R:RS K B φ σ τ H){a:Addr}(h:SA B φ τ a):Av B φ a:=by
 rcases h with h | ⟨i,h,_⟩
 ·exact .inl (R.s0 a h)
 ·exact .inr ⟨i,h⟩
theorem RS.wAv (R:RS K B φ σ τ H){a:Addr}(h:Wk B φ τ a):Av B φ a:=by
 rcases h with h | h
 ·exact .inl h
 ·exact R.sAv h
theorem RS.sB (R:RS K B φ σ τ H){b:Bool}{a:Addr}(h:SA B φ τ a):AvB b B φ τ a:=by
 cases b with
 | true=>exact R.sAv h
 | false=>exact .inr h
theorem RS.dom (R:RS K B φ σ τ H){a:Addr}(h:Av B φ a):H a≠none:=by
 rcases h with h | ⟨i,h⟩
 ·by_cases s:B.S0 a
  ·exact(R.sst a (.inl s)).ne_none
  ·cases e:B.H0 a with
   | none=>exact absurd e (R.f0 a h)
   | some o=>rw[R.ext a o e s];exact fun z=>nomatch z
 ·exact R.ow i a h
theorem RS.domB (R:RS K B φ σ τ H){b:Bool}{a:Addr}(h:AvB b B φ τ a):H a≠none:=by
 cases b with
 | true=>exact R.dom h
 | false=>exact R.dom (R.wAv h)
theorem HX.refl (R:RS K B φ σ τ H):HX B φ τ H H:=⟨fun _ _ h _=>h,R.sst⟩
theorem HX.trans (h:HX B φ τ H H')(h':HX B φ τ H' H''):HX B φ τ H H'':=⟨fun a o e n=>h'.keep a o (h.keep a o e n) n,h'.st⟩
theorem HX.none (h:HX B φ τ H H'){a:Addr}(e:H' a=none):H a=none:=by
 cases q:H a with
 | none=>rfl
 | some o =>
  by_cases s:SA B φ τ a
  ·exact absurd e (h.st a s).ne_none
  ·rw[h.keep a o q s] at e;cases e
theorem HX.new (R:RS K B φ σ τ H){p:Addr}(hp:H p=Option.none)(o:HO):HX B φ τ H (upd H p o) :=
 ⟨fun a u e _=>by rw[xN (xw e hp)];exact e,fun a s=>by
  obtain⟨n,b,e,z⟩:=R.sst a s
  exact⟨n,b,by rw[xN (xw e hp)];exact e,z⟩⟩
theorem HX.rep (h:HX B φ τ H H'){F:Addr→Prop}(hF:∀a,SA B φ τ a→F a){t:Tr}{v:V}(r:Rep F H t v):Rep F H' t v:=yy (fun a o e n=>⟨h.keep a o e (fun s=>n (hF a s)),n⟩) t v r
theorem HX.repL (h:HX B φ τ H H'){F:Addr→Prop}(hF:∀a,SA B φ τ a→F a){t:List Tr}{v:List V}(r:zo F H t v):zo F H' t v:=yk (fun a o e n=>⟨h.keep a o e (fun s=>n (hF a s)),n⟩) t v r
theorem gC (R:RS K B φ σ τ H){a:Addr}{o:Obj}{u:HO}(e:H a=some (.frz o u)):¬SA B φ τ a:=fun s=>by
 obtain⟨n,b,q,_⟩:=R.sst a s
 rw[e] at q;cases q
theorem xdy (R:RS K B φ σ τ H){a:Addr}{q:Str}(e:H a=some (.tb q)):¬SA B φ τ a:=fun s=>by
 obtain⟨n,b,y,_⟩:=R.sst a s
 rw[e] at y;cases y
theorem xen.hx (t:xen K H)(R:RS K B φ σ τ H)(h:HX B φ τ H H'):xen K H':=fun P q e=>h.keep P _ (t P q e) (xdy R (t P q e))
theorem RS.hx (R:RS K B φ σ τ H)(h:HX B φ τ H H'):RS K B φ σ τ H' where
 f0:=R.f0
 s0:=R.s0
 ext:=fun a o e n=>by
  by_cases s:SA B φ τ a
  ·have q:=R.ext a o e n
   rcases s with s | ⟨i,s,hi⟩
   ·exact absurd s n
   ·have en:=R.ent i
    rw[hi] at en
    obtain⟨p,_,e2,e3⟩:=en
    rw[s] at e2;cases e2
    rcases e3 with z | z
    ·exact absurd z n
    ·rw[z] at e;cases e
  ·exact h.keep a o (R.ext a o e n) s
 sst:=h.st
 inj:=R.inj
 ow:=fun i a e z=>R.ow i a e (h.none z)
 len:=R.len
 ent:=fun i=>by
  have en:=R.ent i
  revert en
  cases hi:nth τ i with
  | un=>exact fun _=>trivial
  | fz t=>exact fun⟨v,e,r⟩=>⟨v,e,h.rep (fun a s=>R.sAv s) r⟩
  | ow ts =>
   intro ⟨a,ws,e1,e2,e3,e4,r⟩
   refine⟨a,ws,e1,e2,e3,?_,h.repL (fun a s=>R.sAv s) r⟩
   by_cases s:SA B φ τ a
   ·rcases s with s | ⟨j,s,hj⟩
    ·exact absurd e3 (R.f0 a (R.s0 a s))
    ·have:=R.inj i j a ts hi e2 s
     subst this
     rw[hi] at hj;cases hj
   ·exact h.keep a _ e4 s
  | st=>exact fun z=>z
  | ob a=>exact fun z=>z
  | sc ns =>
   intro ⟨a,e,l,q,tb⟩
   refine⟨a,e,l,?_,tb.hx R h⟩
   rcases q with ⟨o,q⟩ | q
   ·exact .inl ⟨o,h.keep a _ q (gC R q)⟩
   ·exact .inr q
 gh:=fun p hp=>h.rep (fun a s=>R.sAv s) (R.gh p hp)
end
end L2
namespace L2
open PySem PySem.Spec PyProof.Rows
abbrev DE:=TSt→(Tr→Prop)→Prop
abbrev DT:=TSt→(Bool→Prop)→Prop
abbrev DA:=TSt→(List Tr→Prop)→Prop
structure fe where
 nx:TSt→Prop
 rt:Tr→Prop
 bk:TSt→Prop:=fun _=>False
 ct:TSt→Prop:=fun _=>False
abbrev DS:=fe→TSt→Prop
abbrev DG:=Tr→TSt→(TSt→Prop)→Prop
abbrev DGs:=List Tr→TSt→(TSt→Prop)→Prop
def OkE (K:PySem.W.Frag)(b:Bool)(te:TE)(d:DE):Prop:=∀(B:FB) (φ:Phi) (σ:St) (τ:TSt) (H:Hp) (Q:VK) (KK:Tr→Prop),RS K B φ σ τ H→d τ KK →
 (∀t v H',HX B φ τ H H'→KK t→Rep (AvB b B φ τ) H' t v→Q v H')→te σ H Q
def OkF (K:PySem.W.Frag)(te:TE)(d:DE):Prop:=∀(B:FB) (φ:Phi) (σ:St) (τ:TSt) (H:Hp) (Q:VK) (KK:Tr→Prop),RS K B φ σ τ H→d τ KK →
 (∀ts a ws H',HX B φ τ H H'→KK (.lst ts)→H a=none→H' a=some (.lst ws)→zo (fun c=>Av B φ c∨c=a) H' ts ws→Q (.ref a) H')→te σ H Q
def OkT (K:PySem.W.Frag)(t:TT)(d:DT):Prop:=∀(B:FB) (φ:Phi) (σ:St) (τ:TSt) (H:Hp) (Q:Bool→Hp→Prop) (KK:Bool→Prop),RS K B φ σ τ H→d τ KK →
 (∀b H',HX B φ τ H H'→KK b→Q b H')→t σ H Q
def OkA (K:PySem.W.Frag)(b:Bool)(n:Nat)(ta:TA)(d:DA):Prop:=∀(B:FB) (φ:Phi) (σ:St) (τ:TSt) (H:Hp) (Q:List V→Hp→Prop) (KK:List Tr→Prop),RS K B φ σ τ H→d τ KK →
 (∀ts vs H',HX B φ τ H H'→KK ts→ts.length=n→zo (AvB b B φ τ) H' ts vs→Q vs H')→ta σ H Q
def HXA (B:FB)(φ:Phi)(H H':Hp):Prop:=∀a o,H a=some o→¬Av B φ a→H' a=some o
def OkG (K:PySem.W.Frag)(g:TG)(d:DG):Prop:=∀(B:FB) (φ:Phi) (σ:St) (τ:TSt) (H:Hp) (t:Tr) (v:V) (Q:St→Hp→Prop) (KK:TSt→Prop),RS K B φ σ τ H→Rep (Av B φ) H t v→d t τ KK →
 (∀ φ' σ' τ' H',RS K B φ' σ' τ' H'→(∀a,Av B φ' a→Av B φ a)→HXA B φ H H'→KK τ'→Q σ' H')→g v σ H Q
def FrL (F:Addr→Prop)(H H':Hp)(t:Tr)(v:V):Prop:=∃a ts ws,v=.ref a∧t=.lst ts∧H a=none∧H' a=some (.lst ws)∧zo (fun c=>F c∨c=a) H' ts ws
structure xcu (B:FB)(H:Hp):Prop where
 ext:∀a o,B.H0 a=some o→¬B.S0 a→H a=some o
 st:∀a,B.S0 a→mH a H
structure EOk (K:PySem.W.Frag)(B:FB)(fr:Bool)(E:Ends)(G:fe):Prop where
 nx:∀ φ σ τ H,RS K B φ σ τ H→G.nx τ→E.nx σ H
 bk:∀ φ σ τ H,RS K B φ σ τ H→G.bk τ→E.bk σ H
 ct:∀ φ σ τ H,RS K B φ σ τ H→G.ct τ→E.ct σ H
 rt:∀t v H,Rep B.F0 H t v→xcu B H→G.rt t→(fr=true→FrL B.F0 B.H0 H t v)→E.rt v H
def OkS (K:PySem.W.Frag)(fr:Bool)(T:TS)(D:DS):Prop:=∀(B:FB) (φ:Phi) (σ:St) (τ:TSt) (H:Hp) (E:Ends) (G:fe),RS K B φ σ τ H→D G τ→EOk K B fr E G→T E σ H
section
variable {K:PySem.W.Frag} {B:FB} {φ:Phi} {σ:St} {τ:TSt} {H H' H'':Hp}
theorem RS.extB (R:RS K B φ σ τ H):xcu B H:=⟨R.ext,fun a s=>R.sst a (.inl s)⟩
theorem xg_ {b:Bool}{t:Tr}{v:V}(R:RS K B φ σ τ H)(h:Rep (AvB b B φ τ) H' t v):Rep (Wk B φ τ) H' t v:=by
 cases b with
 | true=>exact yy (fun a o e n=>⟨e,fun w=>n (R.wAv w)⟩) t v h
 | false=>exact h
theorem xgk {b:Bool}{t:List Tr}{v:List V}(R:RS K B φ σ τ H)(h:zo (AvB b B φ τ) H' t v):zo (Wk B φ τ) H' t v:=by
 cases b with
 | true=>exact yk (fun a o e n=>⟨e,fun w=>n (R.wAv w)⟩) t v h
 | false=>exact h
theorem OkF.e {te:TE}{d:DE}(h:OkF K te d):OkE K true te d:=fun B φ σ τ H Q KK R hd q=>h B φ σ τ H Q KK R hd fun ts a ws H' x k e e' r=>q _ _ H' x k ⟨a,ws,rfl,fun z=>R.dom z e,e',yk (fun c o e n=>⟨e,fun z=>n (.inl z)⟩) _ _ r⟩
def xem (i:Nat):DE:=fun τ KK=>match nth τ i with | .fz t=>KK t | _=>False
def xfi (i:Nat):DE:=fun τ KK=>match nth τ i with | .fz t=>KK t | .ow ts=>KK (.lst ts) | _=>False
def dC (t:Tr):DE:=fun _ KK=>KK t
theorem xf {i:Nat}:OkE K true (dD i) (xem i):=fun B φ σ τ H Q KK R hd q=>by
 have en:=R.ent i
 unfold xem at hd
 revert en hd
 cases nth τ i with
 | fz t=>exact fun k ⟨v,e,r⟩=>⟨v,e,q t v H (HX.refl R) k r⟩
 | _=>exact fun z _=>z.elim
theorem cA (R:RS K B φ σ τ H){i:Nat}{a:Addr}{ts:List Tr}(hi:nth τ i=.ow ts)(e2:φ i=some a)(e3:B.H0 a=none):¬Wk B φ τ a:=fun z=>by
 rcases z with z | z | ⟨j,z,hj⟩
 ·exact R.f0 a z e3
 ·exact R.f0 a (R.s0 a z) e3
 ·have:=R.inj i j a ts hi e2 z
  subst this
  rw[hi] at hj;cases hj
theorem fw {i:Nat}:OkE K false (dD i) (xfi i):=fun B φ σ τ H Q KK R hd q=>by
 have en:=R.ent i
 unfold xfi at hd
 revert en hd
 cases hi:nth τ i with
 | fz t=>exact fun k ⟨v,e,r⟩=>⟨v,e,q t v H (HX.refl R) k (xg_ (b:=true) R r)⟩
 | ow ts =>
  intro k ⟨a,ws,e1,e2,e3,e4,r⟩
  exact⟨_,e1,q _ _ H (HX.refl R) k ⟨a,ws,rfl,cA R hi e2 e3,e4,xgk (b:=true) R r⟩⟩
 | _=>exact fun z _=>z.elim
theorem xbP {t:Tr}{v:V}(h:pY t=some v:=by rfl):OkE K true (tC v) (dC t):=fun B φ σ τ H Q KK R hd q=>q t v H (HX.refl R) hd (vt h)
def d2 (f:Tr→Tr→(Tr→Prop)→Prop)(da db:DE):DE:=fun τ KK=>da τ fun x=>db τ fun y=>f x y KK
def OpS (r:R2)(f:Tr→Tr→(Tr→Prop)→Prop):Prop:=∀(F G:Addr→Prop) (H:Hp) (x y:V) (t u:Tr) (KK:Tr→Prop) (Q:VK),Rep F H t x→Rep G H u y→f t u KK→(∀w v,pY w=some v→KK w→Q v H)→r x y H Q
theorem xk {b c:Bool}{r:R2}{f:Tr→Tr→(Tr→Prop)→Prop}{ta tb:TE}{da db:DE}(hr:OpS r f)(ha:OkE K b ta da)(hb:OkE K c tb db):OkE K true (tOp r ta tb) (d2 f da db):=fun B φ σ τ H Q KK R hd q =>
 ha B φ σ τ H _ _ R hd fun t v H1 x1 k1 r1=>hb B φ σ τ H1 _ _ (R.hx x1) k1 fun u w H2 x2 k2 r2 =>
  hr _ _ H2 v w t u KK Q (x2.rep (fun a s=>R.sB s) r1) r2 k2 fun z v' e k=>q z v' H2 (x1.trans x2) k (vt e)
def fI (C:Int→Int→Prop)(g:Int→Int→Tr)(x y:Tr)(KK:Tr→Prop):Prop:=match x,y with | .int i,.int j=>C i j∧KK (g i j) | _,_=>False
def fI0 (g:Int→Int→Tr)(x y:Tr)(KK:Tr→Prop):Prop:=match x,y with | .int i,.int j=>KK (g i j) | _,_=>False
theorem xb5 {C:Int→Int→Prop}{g:Int→Int→V}{g':Int→Int→Tr}(h:∀i j,pY (g' i j)=some (g i j)):OpS (rI C g) (fI C g'):=by
 intro F G H x y t u KK Q r1 r2 hf q
 unfold fI at hf
 split at hf
 ·rename_i i j
  cases (show x=.int i from r1);cases (show y=.int j from r2)
  exact⟨i,j,rfl,rfl,hf.1,q _ _ (h i j) hf.2⟩
 ·exact hf.elim
theorem cq {g:Int→Int→V}{g':Int→Int→Tr}(h:∀i j,pY (g' i j)=some (g i j)):OpS (rI0 g) (fI0 g'):=by
 intro F G H x y t u KK Q r1 r2 hf q
 unfold fI0 at hf
 split at hf
 ·rename_i i j
  cases (show x=.int i from r1);cases (show y=.int j from r2)
  exact⟨i,j,rfl,rfl,q _ _ (h i j) hf⟩
 ·exact hf.elim
abbrev xhQ:=fI0 fun i j=>.int (i+j)
abbrev xhV:=fI0 fun i j=>.int (i-j)
abbrev fLe:=fI0 fun i j=>.bl (decide (i≤j))
abbrev fGt:=fI0 fun i j=>.bl (decide (j<i))
theorem wO:OpS (rI0 fun i j=>.int (i+j)) xhQ:=cq fun _ _=>rfl
theorem zK:OpS (rI0 fun i j=>.int (i-j)) xhV:=cq fun _ _=>rfl
theorem hU:OpS (rI0 fun i j=>.bl (decide (i≤j))) fLe:=cq fun _ _=>rfl
theorem xce:OpS (rI0 fun i j=>.bl (decide (j<i))) fGt:=cq fun _ _=>rfl
def Bd (i:Int):Prop:=i.natAbs<2 ^ 2000
theorem xef {i:Int}(h1:-(10 ^ 100)≤i)(h2:i≤10 ^ 100):Bd i:=by
 have:i.natAbs≤10 ^ 100:=by omega
 exact xjO this (by decide +kernel)
theorem log2_lt_of {n k:Nat}(h:n<2 ^ k)(hk:0<k):n.log2<k:=by
 by_cases h0:n=0
 ·subst h0;simpa using hk
 ·exact(Nat.log2_lt h0).mpr h
theorem Bd.bits {i:Int}(h:Bd i):Builtin.Int.intBits i≤2000:=by
 unfold Builtin.Int.intBits
 split
 ·exact xjW _
 ·have:=log2_lt_of h (by decide)
  omega
def CM (i j:Int):Prop:=Bd i∧Bd j
theorem CM.ok {i j:Int}(h:CM i j):IntMulOk i j:=PyProof.Rows.mulOk_of_bits h.1.bits h.2.bits (by decide)
section
variable {X:Cx}
theorem xO:OpR X (binaryOp .Mult) (rI CM fun i j=>.int (i*j)):=opI fun _ _ _ _ _ _ _ hc q=>mul_int q hc.ok
def CDv (_i j:Int):Prop:=j≠0∧Bd j
theorem vg:OpR X (binaryOp .FloorDiv) (rI CDv fun i j=>.int (i.fdiv j)):=opI fun i j _ _ _ _ _ hc q =>
 floordiv_int hc.1 q (.inl (PyProof.noPylong_of_log2 (Nat.lt_trans (log2_lt_of hc.2 (by decide)) (by decide))))
end
abbrev xhw:=fI CM fun i j=>.int (i*j)
abbrev xhM:=fI CDv fun i j=>.int (i.fdiv j)
abbrev xhP:=fI (fun _ j=>j≠0) fun i j=>.int (i.fmod j)
theorem xX:OpS (rI CM fun i j=>.int (i*j)) xhw:=xb5 fun _ _=>rfl
theorem ju:OpS (rI CDv fun i j=>.int (i.fdiv j)) xhM:=xb5 fun _ _=>rfl
theorem cT:OpS (rI (fun _ j=>j≠0) fun i j=>.int (i.fmod j)) xhP:=xb5 fun _ _=>rfl
abbrev xhL:=fI xf3 fun i j=>.int (i ^ j.toNat)
theorem xeF:OpS (rI xf3 fun i j=>.int (i ^ j.toNat)) xhL:=xb5 fun _ _=>rfl
def d1 (f:Tr→(Tr→Prop)→Prop)(da:DE):DE:=fun τ KK=>da τ fun x=>f x KK
def xhO (x:Tr)(KK:Tr→Prop):Prop:=match x with | .int i=>KK (.int (-i)) | _=>False
theorem zt {b:Bool}{ta:TE}{da:DE}(ha:OkE K b ta da):OkE K true (tUn (rU fun i=>.int (-i)) ta) (d1 xhO da):=fun B φ σ τ H Q KK R hd q =>
 ha B φ σ τ H _ _ R hd fun t v H1 x1 k1 r1=>by
  cases t with
  | int i=>cases (show v=.int i from r1);exact⟨i,rfl,q _ _ H1 x1 k1 rfl⟩
  | _=>exact k1.elim
def xdW:Tr→Bool
 | .non=>true
 | _=>false
theorem rP {F:Addr→Prop}{t:Tr}{v:V}(r:Rep F H t v):decide (v=.non)=xdW t:=by
 cases t with
 | non=>cases (show v=.non from r);rfl
 | bl b=>cases (show v=.bl b from r);rfl
 | int b=>cases (show v=.int b from r);rfl
 | str b=>cases (show v=.str b from r);rfl
 | emp=>obtain⟨a,e,_⟩:=r;subst e;rfl
 | tup ts=>obtain⟨a,ws,e,_⟩:=r;subst e;rfl
 | lst ts=>obtain⟨a,ws,e,_⟩:=r;subst e;rfl
theorem lD {b:Bool}{ta:TE}{da:DE}(ha:OkE K b ta da):OkE K true (xg6 ta) (d1 (fun x KK=>KK (.bl (xdW x))) da):=fun B φ σ τ H Q KK R hd q =>
 ha B φ σ τ H _ _ R hd fun t v H1 x1 k1 r1=>by
  show Q (.bl (decide (v=.non))) H1
  rw[rP r1];exact q _ _ H1 x1 k1 rfl
theorem xdC {b:Bool}{ta:TE}{da:DE}(ha:OkE K b ta da):OkE K true (xfb ta) (d1 (fun x KK=>KK (.bl (!xdW x))) da):=fun B φ σ τ H Q KK R hd q =>
 ha B φ σ τ H _ _ R hd fun t v H1 x1 k1 r1=>by
  show Q (.bl (!decide (v=.non))) H1
  rw[rP r1];exact q _ _ H1 x1 k1 rfl
def fB (x:Tr)(KK:Bool→Prop):Prop:=match x with | .bl b=>KK b | _=>False
def xhn (d:DE):DT:=fun τ KK=>d τ fun x=>fB x KK
theorem yW {b:Bool}{ta:TE}{da:DE}(ha:OkE K b ta da):OkT K (tB ta) (xhn da):=fun B φ σ τ H Q KK R hd q =>
 ha B φ σ τ H _ _ R hd fun t v H1 x1 k1 r1=>by
  cases t with
  | bl i=>cases (show v=.bl i from r1);exact⟨i,rfl,q _ H1 x1 k1⟩
  | _=>exact k1.elim
theorem xS {b:Bool}{ta:TE}{da:DE}(ha:OkE K b ta da):OkT K (xdv ta) (xhn da):=yW ha
def xhG (a b:DT):DT:=fun τ KK=>a τ fun c=>if c=true then b τ KK else KK false
def dOr (a b:DT):DT:=fun τ KK=>a τ fun c=>if c=true then KK true else b τ KK
def xhU (a:DT):DT:=fun τ KK=>a τ fun c=>KK (!c)
theorem g9 {ta tb:TT}{da db:DT}(ha:OkT K ta da)(hb:OkT K tb db):OkT K (xhs ta tb) (xhG da db):=fun B φ σ τ H Q KK R hd q =>
 ha B φ σ τ H _ _ R hd fun c H1 x1 k1=>by
  cases c with
  | true=>exact om (hb B φ σ τ H1 _ _ (R.hx x1) k1 fun d H2 x2 k2=>q d H2 (x1.trans x2) k2)
  | false=>exact nJ (q false H1 x1 k1)
theorem qz {ta tb:TT}{da db:DT}(ha:OkT K ta da)(hb:OkT K tb db):OkT K (tOr ta tb) (dOr da db):=fun B φ σ τ H Q KK R hd q =>
 ha B φ σ τ H _ _ R hd fun c H1 x1 k1=>by
  cases c with
  | false=>exact nJ (hb B φ σ τ H1 _ _ (R.hx x1) k1 fun d H2 x2 k2=>q d H2 (x1.trans x2) k2)
  | true=>exact om (q true H1 x1 k1)
theorem yR {ta:TT}{da:DT}(ha:OkT K ta da):OkT K (xhd ta) (xhU da):=fun B φ σ τ H Q KK R hd q =>
 ha B φ σ τ H _ _ R hd fun c H1 x1 k1=>q (!c) H1 x1 k1
def xgH (a b:DE):DE:=fun τ KK=>a τ fun x=>fB x fun c=>if c=true then b τ KK else KK (.bl false)
def xhA (a b:DE):DE:=fun τ KK=>a τ fun x=>fB x fun c=>if c=true then KK (.bl true) else b τ KK
def xgu (a:DE):DE:=fun τ KK=>a τ fun x=>fB x fun c=>KK (.bl (!c))
theorem sF {b c:Bool}{ta tb:TE}{da db:DE}(ha:OkE K b ta da)(hb:OkE K c tb db):OkE K c (xfo ta tb) (xgH da db):=fun B φ σ τ H Q KK R hd q =>
 ha B φ σ τ H _ _ R hd fun t v H1 x1 k1 r1=>by
  cases t with
  | bl i =>
   cases (show v=.bl i from r1)
   refine⟨i,rfl,?_⟩
   cases i with
   | true=>exact om (hb B φ σ τ H1 _ _ (R.hx x1) k1 fun d w H2 x2 k2 r2=>q d w H2 (x1.trans x2) k2 r2)
   | false=>exact nJ (q _ _ H1 x1 k1 (vt rfl))
  | _=>exact k1.elim
theorem xcj {b c:Bool}{ta tb:TE}{da db:DE}(ha:OkE K b ta da)(hb:OkE K c tb db):OkE K c (xg5 ta tb) (xhA da db):=fun B φ σ τ H Q KK R hd q =>
 ha B φ σ τ H _ _ R hd fun t v H1 x1 k1 r1=>by
  cases t with
  | bl i =>
   cases (show v=.bl i from r1)
   refine⟨i,rfl,?_⟩
   cases i with
   | false=>exact nJ (hb B φ σ τ H1 _ _ (R.hx x1) k1 fun d w H2 x2 k2 r2=>q d w H2 (x1.trans x2) k2 r2)
   | true=>exact om (q _ _ H1 x1 k1 (vt rfl))
  | _=>exact k1.elim
theorem lS {b:Bool}{ta:TE}{da:DE}(ha:OkE K b ta da):OkE K true (xeV ta) (xgu da):=fun B φ σ τ H Q KK R hd q =>
 ha B φ σ τ H _ _ R hd fun t v H1 x1 k1 r1=>by
  cases t with
  | bl i=>cases (show v=.bl i from r1);exact⟨i,rfl,q _ _ H1 x1 k1 rfl⟩
  | _=>exact k1.elim
def xfV (f f':Tr→Tr→(Tr→Prop)→Prop)(da db dc:DE):DE:=fun τ KK=>da τ fun x=>db τ fun y=>f x y fun z=>fB z fun k=>if k=true then dc τ fun w=>f' y w KK else KK (.bl false)
theorem gw {b1 b2 b3:Bool}{r r':R2}{f f':Tr→Tr→(Tr→Prop)→Prop}{ta tb tc:TE}{da db dc:DE}(hr:OpS r f)(hr':OpS r' f')(ha:OkE K b1 ta da)(hb:OkE K b2 tb db)(hc:OkE K b3 tc dc) :
  OkE K true (xcH r r' ta tb tc) (xfV f f' da db dc):=fun B φ σ τ H Q KK R hd q =>
 ha B φ σ τ H _ _ R hd fun t v H1 x1 k1 r1=>hb B φ σ τ H1 _ _ (R.hx x1) k1 fun u w H2 x2 k2 r2 =>
  hr _ _ H2 v w t u _ _ (x2.rep (fun a s=>R.sB s) r1) r2 k2 fun z v' e k=>by
   cases z with
   | bl i =>
    cases e
    refine⟨i,rfl,?_⟩
    cases i with
    | true=>exact om (hc B φ σ τ H2 _ _ (R.hx (x1.trans x2)) k fun w3 v3 H3 x3 k3 r3=>hr' _ _ H3 w v3 u w3 KK Q (x3.rep (fun a s=>R.sB s) r2) r3 k3 fun z' v'' e' k'=>q z' v'' H3 ((x1.trans x2).trans x3) k' (vt e'))
    | false=>exact nJ (q _ _ H2 (x1.trans x2) k (vt rfl))
   | _=>exact k.elim
def xds:DA:=fun _ KK=>KK []
def p7 (a:DE)(r:DA):DA:=fun τ KK=>a τ fun x=>r τ fun xs=>KK (x::xs)
theorem zN {b:Bool}:OkA K b 0 nu xds:=fun B φ σ τ H Q KK R hd q=>q [] [] H (HX.refl R) hd rfl rfl
theorem xP {b:Bool}{n:Nat}{te:TE}{ta:TA}{de:DE}{da:DA}(he:OkE K b te de)(ha:OkA K b n ta da):OkA K b (n+1) (wK te ta) (p7 de da):=fun B φ σ τ H Q KK R hd q =>
 he B φ σ τ H _ _ R hd fun t v H1 x1 k1 r1=>ha B φ σ τ H1 _ _ (R.hx x1) k1 fun ts vs H2 x2 k2 l2 r2=>q (t::ts) (v::vs) H2 (x1.trans x2) k2 (by rw[xiX,l2]) ⟨v,vs,rfl,x2.rep (fun a s=>R.sB s) r1,r2⟩
def xhD (a:DA):DE:=fun τ KK=>a τ fun xs=>KK (.tup xs)
def xfJ (a:DA):DE:=fun τ KK=>a τ fun xs=>KK (.lst xs)
theorem fj {F:Addr→Prop}{p:Addr}{o:HO}{t:Tr}{v:V}(hp:H p=none)(r:Rep F H t v):Rep F (upd H p o) t v:=yy (fun a u e n=>⟨by rw[xN (xw e hp)];exact e,n⟩) t v r
theorem wD {F:Addr→Prop}{p:Addr}{o:HO}{t:List Tr}{v:List V}(hp:H p=none)(r:zo F H t v):zo F (upd H p o) t v:=yk (fun a u e n=>⟨by rw[xN (xw e hp)];exact e,n⟩) t v r
theorem uB {F:Addr→Prop}{p:Addr}{o:HO}{t:List Tr}{v:List V}(hp:H p=none)(r:zo F H t v):zo (fun c=>F c∨c=p) (upd H p o) t v:=yk (fun a u e n=>⟨by rw[xN (xw e hp)];exact e,fun z=>z.elim n (xw e hp)⟩) t v r
theorem yu {b:Bool}{n:Nat}{ta:TA}{da:DA}(ha:OkA K b n ta da)(hn:n≤sizeLine:=by decide):OkE K b (xgC ta) (xhD da):=fun B φ σ τ H Q KK R hd q =>
 ha B φ σ τ H _ _ R hd fun ts vs H1 x1 k1 l1 r1=>⟨by rw[←r1.len,l1];exact hn,fun p hp =>
  q _ _ _ (x1.trans (HX.new (R.hx x1) hp _)) k1 ⟨p,vs,rfl,fun z=>(R.hx x1).domB z hp,xQ,wD hp r1⟩⟩
theorem vW {n:Nat}{ta:TA}{da:DA}(ha:OkA K true n ta da)(hn:n≤sizeLine:=by decide):OkF K (xgI ta) (xfJ da):=fun B φ σ τ H Q KK R hd q =>
 ha B φ σ τ H _ _ R hd fun ts vs H1 x1 k1 l1 r1=>⟨by rw[←r1.len,l1];exact hn,fun p hp =>
  q ts p vs _ (x1.trans (HX.new (R.hx x1) hp _)) k1 (x1.none hp) xQ (uB hp r1)⟩
theorem wN {b:Bool}{n:Nat}{ta:TA}{da:DA}(ha:OkA K b n ta da)(hn:n≤sizeLine:=by decide):OkE K b (xgI ta) (xfJ da):=fun B φ σ τ H Q KK R hd q =>
 ha B φ σ τ H _ _ R hd fun ts vs H1 x1 k1 l1 r1=>⟨by rw[←r1.len,l1];exact hn,fun p hp =>
  q _ _ _ (x1.trans (HX.new (R.hx x1) hp _)) k1 ⟨p,vs,rfl,fun z=>(R.hx x1).domB z hp,xQ,wD hp r1⟩⟩
end
end L2
namespace L2
open PySem PySem.Spec PyProof.Rows
def getT {α:Type}:List α→Nat→Option α
 | [],_=>none
 | x::_,0=>some x
 | _::r,n+1=>getT r n
theorem fH {α:Type}:∀(l:List α) (n:Nat),getT l n=l[n]?
 | [],_=>by simp[getT]
 | _::_,0=>by simp[getT]
 | _::r,n+1=>by simp[getT,fH r n]
def atT {α:Type}(ts:List α):Int→Option α
 | .ofNat n=>getT ts n
 | .negSucc n=>if n<ts.length then getT ts (ts.length-1-n) else none
theorem xcX {α:Type}(ts:List α)(i:Int):atT ts i=atI ts i:=by
 unfold atI ixN
 cases i with
 | ofNat n =>
  show getT ts n=_
  rw[fH]
  have h0:(0:Int)≤Int.ofNat n:=Int.natCast_nonneg n
  rw[if_pos h0]
  by_cases h:(Int.ofNat n)<(ts.length:Int)
  ·rw[if_pos h];rfl
  ·rw[if_neg h]
   have:ts.length≤n:=by
    have h':¬((n:Int)<(ts.length:Int)):=h
    omega
   rw[xiQ this];rfl
 | negSucc n =>
  show(if n<ts.length then getT ts (ts.length-1-n) else none)=_
  have h0:¬(0:Int)≤Int.negSucc n:=by omega
  rw[if_neg h0]
  by_cases h:n<ts.length
  ·rw[if_pos h,fH,if_pos (by omega)]
   show ts[ts.length-1-n]? = ts[(Int.negSucc n+(ts.length:Int)).toNat]?
   congr 1
   omega
  ·rw[if_neg h,if_neg (by omega)];rfl
section
variable {K:PySem.W.Frag} {B:FB} {φ:Phi} {σ:St} {τ:TSt} {H H' H'':Hp}
theorem zo.at {F:Addr→Prop}{ts:List Tr}{ws:List V}{i:Int}{t:Tr}(r:zo F H ts ws)(h:atT ts i=some t):∃w,atI ws i=some w∧Rep F H t w:=by
 rw[xcX] at h
 unfold atI at h ⊢
 rw[←r.len]
 cases e:ixN ts.length i with
 | none=>rw[e] at h;cases h
 | some j =>
  rw[e] at h
  exact r.getT h
def cM (o:Option Tr)(KK:Tr→Prop):Prop:=match o with | some t=>KK t | none=>False
def fIx (x y:Tr)(KK:Tr→Prop):Prop:=match x,y with | .tup ts,.int i=>cM (atT ts i) KK | .lst ts,.int i=>cM (atT ts i) KK | _,_=>False
theorem fh {b c:Bool}{ta tb:TE}{da db:DE}(ha:OkE K b ta da)(hb:OkE K c tb db):OkE K b (tOp (rIx K) ta tb) (d2 fIx da db):=fun B φ σ τ H Q KK R hd q =>
 ha B φ σ τ H _ _ R hd fun t v H1 x1 k1 r1=>hb B φ σ τ H1 _ _ (R.hx x1) k1 fun u w H2 x2 k2 r2=>by
  have r1':=x2.rep (fun a s=>R.sB s) r1
  unfold fIx at k2
  split at k2
  ·rename_i ts i
   obtain⟨a,ws,e,n,ha',rl⟩:=r1'
   cases (show w=.int i from r2)
   subst e
   cases e:atT ts i with
   | none=>rw[e] at k2;exact k2.elim
   | some z =>
    rw[e] at k2
    obtain⟨y,e1,e2⟩:=rl.at e
    exact .inr (.inl ⟨a,ws,i,y,rfl,rfl,SqT.of ha',e1,q z y H2 (x1.trans x2) k2 e2⟩)
  ·rename_i ts i
   obtain⟨a,ws,e,n,ha',rl⟩:=r1'
   cases (show w=.int i from r2)
   subst e
   cases e:atT ts i with
   | none=>rw[e] at k2;exact k2.elim
   | some z =>
    rw[e] at k2
    obtain⟨y,e1,e2⟩:=rl.at e
    exact .inl ⟨a,ws,i,y,rfl,rfl,SqL.of ha',e1,q z y H2 (x1.trans x2) k2 e2⟩
  ·exact k2.elim
def xhI (ts:List Tr)(y:Tr)(KK:Tr→Prop):Prop:=match y with | .int k=>cM (atT ts k) KK | _=>False
def xg1 (i:Nat)(db:DE):DE:=fun τ KK=>match nth τ i with | .ow ts=>db τ fun y=>xhI ts y KK | _=>False
theorem gu {i:Nat}{a:Addr}{ts:List Tr}(R:RS K B φ σ τ H)(x:HX B φ τ H H')(hi:nth τ i=.ow ts)(e1:σ[i]? = some (some (.ref a))):∃ws,H' a=some (.lst ws)∧zo (Av B φ) H' ts ws∧φ i=some a∧B.H0 a=none:=by
 have en2:=(R.hx x).ent i
 rw[hi] at en2
 obtain⟨a',ws',e1',e2,e3,e4',r'⟩:=en2
 rw[e1] at e1';cases e1'
 exact⟨ws',e4',r',e2,e3⟩
theorem xcU {c:Bool}{i:Nat}{tb:TE}{db:DE}(hb:OkE K c tb db):OkE K true (tOp (rIx K) (dD i) tb) (xg1 i db):=fun B φ σ τ H Q KK R hd q=>by
 have en:=R.ent i
 unfold xg1 at hd
 revert en hd
 cases hi:nth τ i with
 | ow ts =>
  intro hd ⟨a,ws,e1,e2,e3,e4,r⟩
  refine⟨_,e1,hb B φ σ τ H _ _ R hd fun u w H2 x2 k2 r2=>?_⟩
  obtain⟨ws',e4',r',_⟩:=gu R x2 hi e1
  cases u with
  | int k =>
   cases (show w=.int k from r2)
   have k2:cM (atT ts k) KK:=k2
   cases e:atT ts k with
   | none=>rw[e] at k2;exact k2.elim
   | some z =>
    rw[e] at k2
    obtain⟨y,f1,f2⟩:=r'.at e
    exact .inl ⟨a,ws',k,y,rfl,rfl,SqL.of e4',f1,q z y H2 x2 k2 f2⟩
  | _=>exact k2.elim
 | _=>exact fun z _=>z.elim
abbrev DO:=TSt→(Option Int→Prop)→Prop
def OkO (K:PySem.W.Frag)(t:TO)(d:DO):Prop:=∀(B:FB) (φ:Phi) (σ:St) (τ:TSt) (H:Hp) (Q:Option Int→Hp→Prop) (KK:Option Int→Prop),RS K B φ σ τ H→d τ KK→(∀o H',HX B φ τ H H'→KK o→Q o H')→t σ H Q
def xdV:DO:=fun _ KK=>KK none
def xgb (d:DE):DO:=fun τ KK=>d τ fun x=>match x with | .int i=>KK (some i) | _=>False
theorem qT:OkO K lF xdV:=fun B φ σ τ H Q KK R hd q=>q none H (HX.refl R) hd
theorem qM {b:Bool}{te:TE}{d:DE}(h:OkE K b te d):OkO K (xc8 te) (xgb d):=fun B φ σ τ H Q KK R hd q =>
 h B φ σ τ H _ _ R hd fun t v H1 x1 k1 r1=>by
  cases t with
  | int i=>cases (show v=.int i from r1);exact⟨i,rfl,q _ H1 x1 k1⟩
  | _=>exact k1.elim
def j_ {α:Type}(xs:List α)(lo hi:Option Int):List α:=(xs.drop (HT.sIx xs.length 0 lo)).take (HT.sIx xs.length xs.length hi-HT.sIx xs.length 0 lo)
theorem zo.cut {F:Addr→Prop}{ts:List Tr}{ws:List V}(r:zo F H ts ws)(lo hi:Option Int):zo F H (j_ ts lo hi) (pZ ws lo hi):=by
 unfold j_ pZ
 rw[←r.len]
 exact yN.mpr (vd _ (kE _ (yN.mp r)))
def dSl (d:DE)(dl dh:DO):DE:=fun τ KK=>d τ fun x=>dl τ fun lo=>dh τ fun hi=>match x with | .tup ts=>KK (.tup (j_ ts lo hi)) | .lst ts=>KK (.lst (j_ ts lo hi)) | _=>False
def xhR (d:DE)(dl dh:DO):DE:=fun τ KK=>d τ fun x=>dl τ fun lo=>dh τ fun hi=>match x with | .lst ts=>KK (.lst (j_ ts lo hi)) | _=>False
theorem xc4 {b:Bool}{te:TE}{tl th:TO}{d:DE}{dl dh:DO}(h:OkE K b te d)(hl:OkO K tl dl)(hh:OkO K th dh):OkE K b (tSl (xf6 K) te tl th) (xhR d dl dh):=fun B φ σ τ H Q KK R hd q =>
 h B φ σ τ H _ _ R hd fun t v H1 x1 k1 r1=>hl B φ σ τ H1 _ _ (R.hx x1) k1 fun lo H2 x2 k2=>hh B φ σ τ H2 _ _ (R.hx (x1.trans x2)) k2 fun hi H3 x3 k3=>by
  have r3:=(x2.trans x3).rep (fun a s=>R.sB s) r1
  have x:=(x1.trans x2).trans x3
  cases t with
  | lst ts =>
   obtain⟨a,ws,e,n,ha,rl⟩:=r3
   exact⟨a,ws,e,SqL.of ha,fun p hp=>q _ _ _ (x.trans (HX.new (R.hx x) hp _)) k3 ⟨p,_,rfl,fun z=>(R.hx x).domB z hp,xQ,wD hp (rl.cut lo hi)⟩⟩
  | _=>exact k3.elim
def xgf (x y:Tr)(KK:Tr→Prop):Prop:=match x,y with | .lst ts,.lst us=>ts.length+us.length≤sizeLine∧KK (.lst (ts++us)) | _,_=>False
theorem nK {ta tb:TE}{da db:DE}(ha:OkE K true ta da)(hb:OkE K true tb db):OkF K (tOp xfZ ta tb) (d2 xgf da db):=fun B φ σ τ H Q KK R hd q =>
 ha B φ σ τ H _ _ R hd fun t v H1 x1 k1 r1=>hb B φ σ τ H1 _ _ (R.hx x1) k1 fun u w H2 x2 k2 r2=>by
  have r1':=x2.rep (F:=Av B φ) (fun a s=>R.sAv s) r1
  have x:=x1.trans x2
  unfold xgf at k2
  split at k2
  ·rename_i ts us
   obtain⟨a,ws,e,n,ha',rl⟩:=r1'
   obtain⟨a2,ws2,e2,n2,ha2,rl2⟩:=r2
   exact⟨a,a2,ws,ws2,e,e2,ha',ha2,by rw[←rl.len,←rl2.len];exact k2.1,fun p hp=>q _ _ _ _ (x.trans (HX.new (R.hx x) hp _)) k2.2 (x.none hp) xQ (uB hp (rl.app rl2))⟩
  ·exact k2.elim
theorem rG {F:Addr→Prop}{ts:List Tr}{ws:List V}(r:zo F H ts ws):∀n:Nat,zo F H (List.replicate n ts).flatten (List.replicate n ws).flatten
 | 0=>rfl
 | n+1=>by
  rw[xjy,xjy,xiK,xiK]
  exact r.app (rG r n)
def dCB (f:List Tr→(Tr→Prop)→Prop)(da:DA):DE:=fun τ KK=>da τ fun xs=>f xs KK
def CbS (r:List V→Hp→VK→Prop)(f:List Tr→(Tr→Prop)→Prop):Prop:=∀(F:Addr→Prop) (H:Hp) (vs:List V) (ts:List Tr) (KK:Tr→Prop) (Q:VK),zo F H ts vs→f ts KK→(∀w v,pY w=some v→KK w→Q v H)→r vs H Q
theorem yG {b:Bool}{n:Nat}{r:List V→Hp→VK→Prop}{f:List Tr→(Tr→Prop)→Prop}{ta:TA}{da:DA}(hr:CbS r f)(ha:OkA K b n ta da):OkE K true (tCB r ta) (dCB f da):=fun B φ σ τ H Q KK R hd q =>
 ha B φ σ τ H _ _ R hd fun ts vs H1 x1 k1 l1 r1=>hr _ H1 vs ts KK Q r1 k1 fun w v e k=>q w v H1 x1 k (vt e)
theorem jH {F:Addr→Prop}{t:Tr}{vs:List V}(h:zo F H [t] vs):∃v,vs=[v]∧Rep F H t v:=by
 obtain⟨w,r,e,h1,h2⟩:=h
 cases (show r=[] from h2)
 exact⟨w,e,h1⟩
theorem xbI {F:Addr→Prop}{t u:Tr}{vs:List V}(h:zo F H [t,u] vs):∃v w,vs=[v,w]∧Rep F H t v∧Rep F H u w:=by
 obtain⟨w,r,e,h1,h2⟩:=h
 obtain⟨w',e',h3⟩:=jH h2
 subst e'
 exact⟨w,w',e,h1,h3⟩
def xhe (xs:List Tr)(KK:Tr→Prop):Prop:=match xs with | [.tup ts]=>KK (.int ts.length) | [.lst ts]=>KK (.int ts.length) | _=>False
theorem uc:CbS (xdj K) xhe:=by
 intro F H vs ts KK Q r hf q
 unfold xhe at hf
 split at hf
 ·rename_i ts
  obtain⟨v,rfl,a,ws,e,n,ha,rl⟩:=jH r
  exact⟨a,ws,by rw[e],.inr (SqT.of ha),by rw[←rl.len];exact q _ _ rfl hf⟩
 ·rename_i ts
  obtain⟨v,rfl,a,ws,e,n,ha,rl⟩:=jH r
  exact⟨a,ws,by rw[e],.inl (SqL.of ha),by rw[←rl.len];exact q _ _ rfl hf⟩
 ·exact hf.elim
def xhc (xs:List Tr)(KK:Tr→Prop):Prop:=match xs with | [.int i]=>KK (.int (if i<0 then -i else i)) | _=>False
theorem k7:CbS (fun xs H Q=>∃i,xs=[.int i]∧Q (.int (if i<0 then -i else i)) H) xhc:=by
 intro F H vs ts KK Q r hf q
 unfold xhc at hf
 split at hf
 ·rename_i i
  obtain⟨v,rfl,e⟩:=jH r
  cases (show v=.int i from e)
  exact⟨i,rfl,q _ _ rfl hf⟩
 ·exact hf.elim
def xfA (xs:List Tr)(KK:Tr→Prop):Prop:=match xs with | [.int i,.int j]=>KK (.int (if j>i then j else i)) | _=>False
theorem xdL:CbS (fun xs H Q=>∃i j,xs=[.int i,.int j]∧Q (.int (if j>i then j else i)) H) xfA:=by
 intro F H vs ts KK Q r hf q
 unfold xfA at hf
 split at hf
 ·rename_i i j
  obtain⟨v,w,rfl,e,e'⟩:=xbI r
  cases (show v=.int i from e);cases (show w=.int j from e')
  exact⟨i,j,rfl,q _ _ rfl hf⟩
 ·exact hf.elim
def xfL (xs:List Tr)(KK:Tr→Prop):Prop:=match xs with | [.int i,.int j]=>KK (.int (if j<i then j else i)) | _=>False
theorem xdB:CbS (fun xs H Q=>∃i j,xs=[.int i,.int j]∧Q (.int (if j<i then j else i)) H) xfL:=by
 intro F H vs ts KK Q r hf q
 unfold xfL at hf
 split at hf
 ·rename_i i j
  obtain⟨v,w,rfl,e,e'⟩:=xbI r
  cases (show v=.int i from e);cases (show w=.int j from e')
  exact⟨i,j,rfl,q _ _ rfl hf⟩
 ·exact hf.elim
theorem fu {F:Addr→Prop}:∀ {ns:List Int} {ws:List V},zo F H (ns.map Tr.int) ws→ws=ns.map V.int
 | [],_,h=>h
 | n::ns,_,⟨w,r,e,h1,h2⟩=>by
  cases (show w=.int n from h1)
  rw[e,fu h2];rfl
theorem cJ {F:Addr→Prop}:∀ {ns:List Bool} {ws:List V},zo F H (ns.map Tr.bl) ws→ws=ns.map V.bl
 | [],_,h=>h
 | n::ns,_,⟨w,r,e,h1,h2⟩=>by
  cases (show w=.bl n from h1)
  rw[e,cJ h2];rfl
def xf_ (xs:List Tr)(KK:Tr→Prop):Prop:=∃bs:List Bool,xs=[.lst (bs.map Tr.bl)]∧KK (.bl (bs.all id))
theorem jI:CbS (xec K) xf_:=by
 intro F H vs ts KK Q r hf q
 obtain⟨ns,rfl,h1⟩:=hf
 obtain⟨v,rfl,a,ws,e,n,ha,rl⟩:=jH r
 rw[cJ rl] at ha
 exact⟨a,ns,by rw[e],SqL.of ha,q _ _ rfl h1⟩
def tyT:Tr→String
 | .non => "NoneType" | .bl _ => "bool" | .int _ => "int" | .str _ => "str" | .emp => "dict" | .tup _ => "tuple" | .lst _ => "list"
theorem xc2 {F:Addr→Prop}{t:Tr}{v:V}(r:Rep F H t v):tyN H v=some (tyT t):=by
 cases t with
 | non=>cases (show v=.non from r);rfl
 | bl b=>cases (show v=.bl b from r);rfl
 | int b=>cases (show v=.int b from r);rfl
 | str b=>cases (show v=.str b from r);rfl
 | emp=>obtain⟨a,e,_,h⟩:=r;subst e;simp only[tyN,h,tyT]
 | tup ts=>obtain⟨a,ws,e,_,h,_⟩:=r;subst e;simp only[tyN,h,tyT]
 | lst ts=>obtain⟨a,ws,e,_,h,_⟩:=r;subst e;simp only[tyN,h,tyT]
def xer (c:String)(t:Tr):Bool:=match c,t with
 | "int", .int _=>true | "int", .bl _=>true | "bool", .bl _=>true | "str", .str _=>true | "tuple", .tup _=>true | "list", .lst _=>true | "dict", .emp=>true | _,_=>false
theorem nS {c:String}(h:c∈uF)(t:Tr):mz (tyT t) c=xer c t:=by
 simp only[uF,xjf,xjv,xj9] at h
 rcases h with rfl | rfl | rfl | rfl | rfl | rfl<;>cases t<;>rfl
def xhE (c:String)(d:DE):DE:=fun τ KK=>d τ fun x=>KK (.bl (xer c x))
theorem qh {b:Bool}{c:String}{te:TE}{d:DE}(h:OkE K b te d)(hc:c∈uF:=by decide):OkE K true (tCB xgX (wK te (wK (tC (.ty c)) nu))) (xhE c d):=fun B φ σ τ H Q KK R hd q =>
 h B φ σ τ H _ _ R hd fun t v H1 x1 k1 r1=>⟨v,c,tyT t,rfl,xc2 r1,hc,by rw[nS hc];exact q _ _ H1 x1 k1 rfl⟩
def xgw (c c':String)(d:DE):DE:=fun τ KK=>d τ fun x=>KK (.bl (xer c x || xer c' x))
theorem xdO {b:Bool}{c c':String}{te:TE}{d:DE}(h:OkE K b te d)(hc:c∈uF:=by decide)(hc':c'∈uF:=by decide) :
  OkE K true (tCB xfG (wK te (wK (xgC (wK (tC (.ty c)) (wK (tC (.ty c')) nu))) nu))) (xgw c c' d):=fun B φ σ τ H Q KK R hd q =>
 h B φ σ τ H _ _ R hd fun t v H1 x1 k1 r1=>⟨by show 2≤sizeLine;decide,fun p hp=>⟨v,p,[c,c'],tyT t,rfl,xQ,xc2 (fj hp r1),by simp[hc,hc'],by
  have e:[c,c'].any (mz (tyT t))=(xer c t || xer c' t):=by simp[nS hc,nS hc']
  rw[e];exact q _ _ _ (x1.trans (HX.new (R.hx x1) hp _)) k1 rfl⟩⟩
def xch (xs:List Tr)(KK:Tr→Prop):Prop:=match xs with | [.tup ts]=>KK (.tup ts) | [.lst ts]=>KK (.tup ts) | _=>False
theorem bO {b:Bool}{n:Nat}{ta:TA}{da:DA}(ha:OkA K b n ta da):OkE K b (tCB (xdf K) ta) (dCB xch da):=fun B φ σ τ H Q KK R hd q =>
 ha B φ σ τ H _ _ R hd fun ts vs H1 x1 k1 l1 r1=>by
  unfold xch at k1
  split at k1
  ·rename_i ts
   obtain⟨v,rfl,r⟩:=jH r1
   obtain⟨a,ws,e,n,ha,rl⟩:=id r
   exact⟨a,ws,by rw[e],.inr ⟨SqT.of ha,by rw[←e];exact q _ _ H1 x1 k1 r⟩⟩
  ·rename_i ts
   obtain⟨v,rfl,a,ws,e,n,ha,rl⟩:=jH r1
   exact⟨a,ws,by rw[e],.inl ⟨SqL.of ha,fun p hp=>q _ _ _ (x1.trans (HX.new (R.hx x1) hp _)) k1 ⟨p,_,rfl,fun z=>(R.hx x1).domB z hp,xQ,wD hp rl⟩⟩⟩
  ·exact k1.elim
def xfu (i:Nat):DE:=fun τ KK=>match nth τ i with | .ow ts=>KK (.tup ts) | _=>False
theorem xee {i:Nat}:OkE K true (tCB (xdf K) (wK (dD i) nu)) (xfu i):=fun B φ σ τ H Q KK R hd q=>by
 have en:=R.ent i
 unfold xfu at hd
 revert en hd
 cases hi:nth τ i with
 | ow ts =>
  intro hd ⟨a,ws,e1,e2,e3,e4,r⟩
  exact⟨_,e1,a,ws,rfl,.inl ⟨SqL.of e4,fun p hp=>q _ _ _ (HX.new R hp _) hd ⟨p,_,rfl,fun z=>R.dom z hp,xQ,wD hp r⟩⟩⟩
 | _=>exact fun z _=>z.elim
def xfy (xs:List Tr)(KK:Tr→Prop):Prop:=match xs with | [.tup ts]=>KK (.lst ts) | [.lst ts]=>KK (.lst ts) | _=>False
theorem bT {n:Nat}{ta:TA}{da:DA}(ha:OkA K true n ta da):OkF K (tCB (xe7 K) ta) (dCB xfy da):=fun B φ σ τ H Q KK R hd q =>
 ha B φ σ τ H _ _ R hd fun ts vs H1 x1 k1 l1 r1=>by
  unfold xfy at k1
  split at k1
  ·rename_i ts
   obtain⟨v,rfl,a,ws,e,n,ha,rl⟩:=jH r1
   exact⟨a,ws,by rw[e],.inr (SqT.of ha),fun p hp=>q _ _ _ _ (x1.trans (HX.new (R.hx x1) hp _)) k1 (x1.none hp) xQ (uB hp rl)⟩
  ·rename_i ts
   obtain⟨v,rfl,a,ws,e,n,ha,rl⟩:=jH r1
   exact⟨a,ws,by rw[e],.inl (SqL.of ha),fun p hp=>q _ _ _ _ (x1.trans (HX.new (R.hx x1) hp _)) k1 (x1.none hp) xQ (uB hp rl)⟩
  ·exact k1.elim
def xcV (i:Nat):DE:=fun τ KK=>match nth τ i with | .sc ns=>ns.length≤63→KK (.int ns.length) | _=>False
theorem xbf {i:Nat}:OkE K true (tCB (xdj K) (wK (dD i) nu)) (xcV i):=fun B φ σ τ H Q KK R hd q=>by
 have en:=R.ent i
 unfold xcV at hd
 revert en hd
 cases hi:nth τ i with
 | sc ns =>
  intro hd ⟨a,e,l,so,_⟩
  have sq:SqL K H a (ns.map V.int):=by
   rcases so with ⟨o,h⟩ | h
   ·exact .inl (.inr ⟨o,h⟩)
   ·exact h H
  refine⟨_,e,a,_,rfl,.inl sq,?_⟩
  rw[xi0]
  exact q _ _ H (HX.refl R) (hd l) rfl
 | _=>exact fun z _=>z.elim
end
end L2
namespace L2
open PySem PySem.Spec PyProof.Rows
abbrev TSp:=List Tr→(Tr→Prop)→Prop
def spT (n:Nat)(st fr:Bool)(sp:TSp):Sp:=fun vs H Q _=>∃(F S:Addr→Prop) (ts:List Tr) (KK:Tr→Prop) (us:List V),
 (match st with | true=>∃p,vs=.ref p::us∧S p | false=>vs=us)∧(∀a,F a→H a≠none)∧(∀a,S a→F a)∧(∀a,S a→mH a H)∧zo F H ts us∧ts.length=n∧sp ts KK ∧
 ∀t v H',KK t→(∀a o,H a=some o→¬S a→H' a=some o)→(∀a,S a→mH a H')→Rep F H' t v→(fr=true→FrL F H H' t v)→Q v H'
def xdU (sp:TSp)(da:DA):DE:=fun τ KK=>da τ fun ts=>sp ts KK
def br (i:Nat)(sp:TSp)(da:DA):DE:=fun τ KK=>match nth τ i with | .st=>da τ fun ts=>sp ts KK | _=>False
section
variable {K:PySem.W.Frag} {B:FB} {φ:Phi} {σ:St} {τ:TSt} {H H' H'':Hp}
theorem xC {b fr:Bool}{n:Nat}{sp:TSp}{ta:TA}{da:DA}(ha:OkA K b n ta da):OkE K b (xeq (spT n false fr sp) ta) (xdU sp da):=fun B φ σ τ H Q KK R hd q =>
 ha B φ σ τ H _ _ R hd fun ts vs H1 x1 k1 l1 r1=>⟨AvB b B φ τ,SA B φ τ,ts,KK,vs,rfl,fun a z=>(R.hx x1).domB z,fun a z=>R.sB z,x1.st,r1,l1,k1,fun t v H' k e s r _=>q t v H' (x1.trans ⟨e,s⟩) k r⟩
theorem xas {n:Nat}{sp:TSp}{ta:TA}{da:DA}(ha:OkA K true n ta da):OkF K (xeq (spT n false true sp) ta) (xdU sp da):=fun B φ σ τ H Q KK R hd q =>
 ha B φ σ τ H _ _ R hd fun ts vs H1 x1 k1 l1 r1=>⟨Av B φ,SA B φ τ,ts,KK,vs,rfl,fun a z=>(R.hx x1).dom z,fun a z=>R.sAv z,x1.st,r1,l1,k1,fun t v H' k e s r f=>by
  obtain⟨a,ts',ws,rfl,rfl,h1,h2,h3⟩:=f rfl
  exact q ts' a ws H' (x1.trans ⟨e,s⟩) k (x1.none h1) h2 h3⟩
theorem yw {b fr:Bool}{n i:Nat}{sp:TSp}{ta:TA}{da:DA}(ha:OkA K b n ta da):OkE K b (xeq (spT n true fr sp) (wK (dD i) ta)) (br i sp da):=fun B φ σ τ H Q KK R hd q=>by
 have en:=R.ent i
 unfold br at hd
 revert en hd
 cases hi:nth τ i with
 | st =>
  intro hd ⟨p,e1,e2,e3⟩
  exact⟨_,e1,ha B φ σ τ H _ _ R hd fun ts vs H1 x1 k1 l1 r1=>⟨AvB b B φ τ,SA B φ τ,ts,KK,vs,⟨p,rfl,.inr ⟨i,e2,hi⟩⟩,fun a z=>(R.hx x1).domB z,fun a z=>R.sB z,x1.st,r1,l1,k1,fun t v H' k e s r _=>q t v H' (x1.trans ⟨e,s⟩) k r⟩⟩
 | _=>exact fun z _=>z.elim
def Phi.del (φ:Phi)(i:Nat):Phi:=fun j=>if j=i then none else φ j
def Phi.put (φ:Phi)(i:Nat)(a:Addr):Phi:=fun j=>if j=i then some a else φ j
theorem wF {i j:Nat}{a:Addr}(h:φ.del i j=some a):j≠i∧φ j=some a:=by
 unfold Phi.del at h
 by_cases e:j=i
 ·rw[if_pos e] at h;cases h
 ·rw[if_neg e] at h;exact⟨e,h⟩
theorem xcD {i j:Nat}(h:j≠i):φ.del i j=φ j:=if_neg h
theorem vy {i j:Nat}{a c:Addr}(h:φ.put i a j=some c):(j=i∧c=a)∨(j≠i∧φ j=some c):=by
 unfold Phi.put at h
 by_cases e:j=i
 ·rw[if_pos e] at h;cases h;exact .inl ⟨e,rfl⟩
 ·rw[if_neg e] at h;exact .inr ⟨e,h⟩
theorem bP {i:Nat}{a:Addr}:φ.put i a i=some a:=if_pos rfl
theorem xe6 {i j:Nat}{a:Addr}(h:j≠i):φ.put i a j=φ j:=if_neg h
theorem jo {i:Nat}{a:Addr}(h:Av B (φ.del i) a):Av B φ a:=by
 rcases h with h | ⟨j,h⟩
 ·exact .inl h
 ·exact .inr ⟨j,(wF h).2⟩
theorem gv {φ':Phi}{i:Nat}{o:Option (Option V)}{x:TV}(h:Ent K B φ H i o x)(hφ:φ' i=φ i)(hr:∀t v,Rep (Av B φ) H t v→Rep (Av B φ') H' t v)(hrl:∀t v,zo (Av B φ) H t v→zo (Av B φ') H' t v)
  (hl:∀a ws ts,x=.ow ts→φ i=some a→H a=some (.lst ws)→H' a=some (.lst ws)) (hs:∀a ns,og K H a ns→og K H' a ns):Ent K B φ' H' i o x:=by
 cases x with
 | un=>trivial
 | fz t=>obtain⟨v,e,r⟩:=h;exact⟨v,e,hr t v r⟩
 | ow ts=>obtain⟨a,ws,e1,e2,e3,e4,r⟩:=h;exact⟨a,ws,e1,hφ.trans e2,e3,hl a ws ts rfl e2 e4,hrl _ _ r⟩
 | st=>obtain⟨p,e1,e2,e3⟩:=h;exact⟨p,e1,hφ.trans e2,e3⟩
 | sc ns=>obtain⟨a,e,l,q⟩:=h;exact⟨a,e,l,hs a ns q⟩
 | ob a=>exact h
theorem RS.setFz {i:Nat}{t:Tr}{v:V}(R:RS K B φ σ τ H)(r:Rep (Av B φ) H t v):RS K B (φ.del i) (σ.set i (some v)) (τ.set i (.fz t)) H where
 f0:=R.f0
 s0:=R.s0
 ext:=R.ext
 sst:=fun a s=>by
  rcases s with s | ⟨j,s,hj⟩
  ·exact R.sst a (.inl s)
  ·obtain⟨hne,s'⟩:=wF s
   rw[yt hne] at hj
   exact R.sst a (.inr ⟨j,s',hj⟩)
 inj:=fun j k a ts hj e1 e2=>by
  obtain⟨hne,e1⟩:=wF e1
  rw[yt hne] at hj
  exact R.inj j k a ts hj e1 (wF e2).2
 ow:=fun j a e=>R.ow j a (wF e).2
 len:=by rw[xi4,xi4];exact R.len
 ent:=fun j=>by
  have mono:∀t v,Rep (Av B φ) H t v→Rep (Av B (φ.del i)) H t v:=fun t v=>yy (fun a o e n=>⟨e,fun z=>n (jo z)⟩) t v
  by_cases e:j=i
  ·subst e
   by_cases hl:j<τ.length
   ·rw[yO hl]
    exact⟨v,by rw[xiU (by rw[R.len];exact hl)],mono _ _ r⟩
   ·rw[zG (by rw[xi4];omega)];trivial
  ·rw[yt e,xiT (Ne.symm e)]
   exact gv (R.ent j) (xcD e) mono (fun t v=>yk (fun a o e n=>⟨e,fun z=>n (jo z)⟩) t v) (fun _ _ _ _ _ z=>z) fun _ _ z=>z
 gh:=fun p hp=>yy (fun a o e n=>⟨e,fun z=>n (jo z)⟩) _ _ (R.gh p hp)
theorem RS.setNew {i:Nat}{x:TV}{a:Addr}(R:RS K B φ σ τ H)(hx:HX B φ τ H H')(ha:H a=none)(ha':H' a≠none)(hst:x=.st→mH a H')
  (hen:Ent K B (φ.put i a) H' i (some (some (.ref a))) x):RS K B (φ.put i a) (σ.set i (some (.ref a))) (τ.set i x) H':=by
 have R':=R.hx hx
 have nav:∀c,c≠a→Av B (φ.put i a) c→Av B φ c:=fun c hc z=>by
  rcases z with z | ⟨j,z⟩
  ·exact .inl z
  ·rcases vy z with ⟨_,e⟩ | ⟨_,e⟩
   ·exact absurd e hc
   ·exact .inr ⟨j,e⟩
 have mv:∀c o,H c=some o→¬Av B φ c→H' c=some o∧¬Av B (φ.put i a) c:=fun c o e n=>⟨hx.keep c o e fun s=>n (R.sAv s),fun z=>n (nav c (xw e ha) z)⟩
 refine⟨R.f0,R.s0,R'.ext,fun c s=>?_,fun j k c ts hj e1 e2=>?_,fun j c e=>?_,?_,fun j=>?_,fun p hp=>yy mv _ _ (R.gh p hp)⟩
 ·rcases s with s | ⟨j,s,hj⟩
  ·exact R'.sst c (.inl s)
  ·rcases vy s with ⟨rfl,rfl⟩ | ⟨hne,s'⟩
   ·by_cases hl:j<τ.length
    ·rw[yO hl] at hj
     exact hst hj
    ·rw[zG (by rw[xi4];omega)] at hj;cases hj
   ·rw[yt hne] at hj
    exact R'.sst c (.inr ⟨j,s',hj⟩)
 ·have key:∀j:Nat,φ j=some a→False:=fun j e=>R.ow j a e ha
  rcases vy e1 with ⟨z1,z2⟩ | ⟨n1,f1⟩
  ·rcases vy e2 with ⟨z3,_⟩ | ⟨n2,f2⟩
   ·rw[z1,z3]
   ·exact(key k (by rw[←z2];exact f2)).elim
  ·rcases vy e2 with ⟨z3,z4⟩ | ⟨n2,f2⟩
   ·exact(key j (by rw[←z4];exact f1)).elim
   ·rw[yt n1] at hj
    exact R.inj j k c ts hj f1 f2
 ·rcases vy e with ⟨_,rfl⟩ | ⟨_,e⟩
  ·exact ha'
  ·exact R'.ow j c e
 ·rw[xi4,xi4];exact R.len
 ·by_cases e:j=i
  ·subst e
   by_cases hl:j<τ.length
   ·rw[yO hl,xiU (by rw[R.len];exact hl)]
    exact hen
   ·rw[zG (by rw[xi4];omega)];trivial
  ·rw[yt e,xiT (Ne.symm e)]
   refine gv (R.ent j) (xe6 e) (fun t v=>yy mv t v) (fun t v=>yk mv t v) (fun c ws ts hj e1 e2=>?_) fun c ns z=>?_
   ·refine hx.keep c _ e2 fun s=>?_
    rcases s with s | ⟨k,s,hk⟩
    ·have en:=R.ent j
     rw[hj] at en
     obtain⟨a',ws',_,q2,q3,_⟩:=en
     rw[e1] at q2;cases q2
     exact R.f0 c (R.s0 c s) q3
    ·have:=R.inj j k c ts hj e1 s
     subst this
     rw[hj] at hk;cases hk
   ·refine⟨?_,z.2.hx R hx⟩
    rcases z.1 with ⟨o,z⟩ | z
    ·exact .inl ⟨o,hx.keep c _ z (gC R z)⟩
    ·exact .inr z
theorem RS.wrOw {i:Nat}{ts ts':List Tr}{a:Addr}{ws':List V}(R:RS K B φ σ τ H)(hi:nth τ i=.ow ts)(e1:σ[i]? = some (some (.ref a)))(r:zo (Av B φ) H ts' ws'):RS K B φ σ (τ.set i (.ow ts')) (upd H a (.lst ws')):=by
 have en:=R.ent i
 rw[hi] at en
 obtain⟨a',ws,e1',e2,e3,e4,_⟩:=en
 rw[e1] at e1';cases e1'
 have hl:i<τ.length:=by
  by_cases h:i<τ.length
  ·exact h
  ·rw[zG (by omega)] at hi;cases hi
 have mv:∀c o,H c=some o→¬Av B φ c→(upd H a (.lst ws')) c=some o∧¬Av B φ c:=fun c o e n=>⟨by rw[xN (fun z=>n (by rw[z];exact .inr ⟨i,e2⟩))];exact e,n⟩
 have nsa:∀c,SA B φ (τ.set i (.ow ts')) c→SA B φ τ c∧c≠a:=fun c s=>by
  rcases s with s | ⟨j,s,hj⟩
  ·exact⟨.inl s,fun z=>R.f0 a (R.s0 a (z▸s)) e3⟩
  ·by_cases e:j=i
   ·subst e
    rw[yO hl] at hj;cases hj
   ·rw[yt e] at hj
    exact⟨.inr ⟨j,s,hj⟩,fun z=>e (R.inj i j a ts hi e2 (z▸s)).symm⟩
 refine⟨R.f0,R.s0,fun c o e n=>?_,fun c s=>?_,fun j k c us hj f1 f2=>?_,fun j c e=>?_,by rw[xi4];exact R.len,fun j=>?_,fun p hp=>yy mv _ _ (R.gh p hp)⟩
 ·rw[xN (xw e e3)];exact R.ext c o e n
 ·obtain⟨s',hne⟩:=nsa c s
  obtain⟨n,b,q,z⟩:=R.sst c s'
  exact⟨n,b,by rw[xN hne];exact q,z⟩
 ·by_cases e:j=i
  ·subst e;exact R.inj j k c ts hi f1 f2
  ·rw[yt e] at hj
   exact R.inj j k c us hj f1 f2
 ·by_cases z:c=a
  ·rw[z,xQ];exact fun z=>nomatch z
  ·rw[xN z];exact R.ow j c e
 ·by_cases e:j=i
  ·subst e
   rw[yO hl]
   exact⟨a,ws',e1,e2,e3,xQ,yk mv _ _ r⟩
  ·rw[yt e]
   refine gv (R.ent j) rfl (fun t v=>yy mv t v) (fun t v=>yk mv t v) (fun c us vs hj f1 f2=>?_) fun c ns z=>?_
   ·rw[xN (fun(z:c=a)=>e (R.inj i j a ts hi e2 (by rw[←z];exact f1)).symm)];exact f2
   ·refine⟨?_,fun P q h=>by rw[xN (xfw (z.2 P q h) e4 (fun q=>nomatch q))];exact z.2 P q h⟩
    rcases z.1 with ⟨o,z⟩ | z
    ·exact .inl ⟨o,by rw[xN (xfw z e4 (fun q=>nomatch q))];exact z⟩
    ·exact .inr z
theorem RS.freeze {i:Nat}{ts:List Tr}(R:RS K B φ σ τ H)(hi:nth τ i=.ow ts):RS K B (φ.del i) σ (τ.set i (.fz (.lst ts))) H:=by
 have en:=R.ent i
 rw[hi] at en
 obtain⟨a,ws,e1,e2,e3,e4,r⟩:=en
 have hl:i<τ.length:=by
  by_cases h:i<τ.length
  ·exact h
  ·rw[zG (by omega)] at hi;cases hi
 have na:¬Av B (φ.del i) a:=fun z=>by
  rcases z with z | ⟨j,z⟩
  ·exact R.f0 a z e3
  ·obtain⟨n,z⟩:=wF z
   exact n (R.inj i j a ts hi e2 z).symm
 refine⟨R.f0,R.s0,R.ext,fun c s=>?_,fun j k c us hj f1 f2=>?_,fun j c e=>R.ow j c (wF e).2,by rw[xi4];exact R.len,fun j=>?_,fun p hp=>yy (fun a o e n=>⟨e,fun z=>n (jo z)⟩) _ _ (R.gh p hp)⟩
 ·rcases s with s | ⟨j,s,hj⟩
  ·exact R.sst c (.inl s)
  ·obtain⟨hne,s'⟩:=wF s
   rw[yt hne] at hj
   exact R.sst c (.inr ⟨j,s',hj⟩)
 ·obtain⟨hne,f1⟩:=wF f1
  rw[yt hne] at hj
  exact R.inj j k c us hj f1 (wF f2).2
 ·by_cases e:j=i
  ·subst e
   rw[yO hl]
   exact⟨.ref a,e1,a,ws,rfl,na,e4,yk (fun a o e n=>⟨e,fun z=>n (jo z)⟩) _ _ r⟩
  ·rw[yt e]
   exact gv (R.ent j) (xcD e) (fun t v=>yy (fun a o e n=>⟨e,fun z=>n (jo z)⟩) t v) (fun t v=>yk (fun a o e n=>⟨e,fun z=>n (jo z)⟩) t v) (fun _ _ _ _ _ z=>z) fun _ _ z=>z
def OkN (K:PySem.W.Frag)(g:TG)(d:DG):Prop:=∀(B:FB) (φ:Phi) (σ:St) (τ:TSt) (H:Hp) (F:Addr→Prop) (t:Tr) (v:V) (Q:St→Hp→Prop) (KK:TSt→Prop),RS K B φ σ τ H→(∀a,Av B φ a→F a)→Rep F H t v→d t τ KK →
 (∀ φ' σ' τ',RS K B φ' σ' τ' H→(∀a,Av B φ' a→Av B φ a)→KK τ'→Q σ' H)→g v σ H Q
def xe4 (K:PySem.W.Frag)(g:TGs)(d:DGs):Prop:=∀(B:FB) (φ:Phi) (σ:St) (τ:TSt) (H:Hp) (F:Addr→Prop) (t:List Tr) (v:List V) (Q:St→Hp→Prop) (KK:TSt→Prop),RS K B φ σ τ H→(∀a,Av B φ a→F a)→zo F H t v→d t τ KK →
 (∀ φ' σ' τ',RS K B φ' σ' τ' H→(∀a,Av B φ' a→Av B φ a)→KK τ'→Q σ' H)→g v σ H Q
def eName (i:Nat):DG:=fun t τ KK=>KK (τ.set i (.fz t))
def xfY:DGs:=fun ts τ KK=>match ts with | []=>KK τ | _=>False
def xbK (d:DG)(r:DGs):DGs:=fun ts τ KK=>match ts with | t::us=>d t τ fun τ'=>r us τ' KK | []=>False
def xhK (n:Nat)(d:DGs):DG:=fun t τ KK=>match t with | .tup ts=>ts.length=n∧d ts τ KK | _=>False
theorem xn {i:Nat}:OkN K (fY i) (eName i):=fun B φ σ τ H F t v Q KK R hF r hd q =>
 q (φ.del i) _ _ (R.setFz (yy (fun a o e n=>⟨e,fun z=>n (hF a z)⟩) _ _ r)) (fun a z=>jo z) hd
theorem yE:xe4 K xgG xfY:=fun B φ σ τ H F t v Q KK R hF r hd q=>by
 cases t with
 | nil=>exact⟨r,q φ σ τ R (fun _ z=>z) hd⟩
 | cons _ _=>exact hd.elim
theorem xt {g:TG}{gs:TGs}{d:DG}{ds:DGs}(h:OkN K g d)(hs:xe4 K gs ds):xe4 K (xdA g gs) (xbK d ds):=fun B φ σ τ H F t v Q KK R hF r hd q=>by
 cases t with
 | nil=>exact hd.elim
 | cons t ts =>
  obtain⟨w,r',e,h1,h2⟩:=r
  exact⟨w,r',e,h B φ σ τ H F t w _ _ R hF h1 hd fun φ' σ' τ' R' ha k=>hs B φ' σ' τ' H F ts r' Q KK R' (fun a z=>hF a (ha a z)) h2 k fun φ2 σ2 τ2 R2 ha2 k2=>q φ2 σ2 τ2 R2 (fun a z=>ha a (ha2 a z)) k2⟩
theorem zi {n:Nat}{gs:TGs}{ds:DGs}(h:xe4 K gs ds):OkN K (xf7 K n gs) (xhK n ds):=fun B φ σ τ H F t v Q KK R hF r hd q=>by
 cases t with
 | tup ts =>
  obtain⟨a,ws,e,n,ha,rl⟩:=r
  exact⟨a,ws,e,SqT.of ha,by rw[←rl.len];exact hd.1,h B φ σ τ H F ts ws Q KK R hF rl hd.2 q⟩
 | _=>exact hd.elim
theorem OkN.g {g:TG}{d:DG}(h:OkN K g d):OkG K g d:=fun B φ σ τ H t v Q KK R r hd q=>h B φ σ τ H (Av B φ) t v Q KK R (fun _ z=>z) r hd fun φ' σ' τ' R' ha k=>q φ' σ' τ' H R' ha (fun _ _ e _=>e) k
def xa5:DS:=fun G τ=>G.nx τ
def xdP (a b:DS):DS:=fun G τ=>a { G with nx:=b G } τ
def xe5:DS:=fun _ _=>False
def xgM (d:DE):DS:=fun G τ=>d τ G.rt
def sIf (c:DT)(a b:DS):DS:=fun G τ=>c τ fun k=>if k=true then a G τ else b G τ
def xgh (i:Nat)(d:DE):DS:=fun G τ=>d τ fun t=>G.nx (τ.set i (.fz t))
def xga (i:Nat)(d:DE):DS:=fun G τ=>d τ fun t=>match t with | .lst ts=>G.nx (τ.set i (.ow ts)) | _=>False
def xhN (d:DE)(g:DG):DS:=fun G τ=>d τ fun t=>g t τ G.nx
def xhB (i j:Nat)(d:DA):DS:=fun G τ=>d τ fun ts=>match ts with | [t,u]=>G.nx ((τ.set i (.fz t)).set j (.fz u)) | _=>False
def xgR (d:DE):DS:=fun G τ=>d τ fun _=>G.nx τ
def xg4 (i:Nat)(d:DE):DS:=fun G τ=>match nth τ i with | .ow ts=>d τ fun t=>ts.length<sizeLine∧G.nx (τ.set i (.ow (ts++[t]))) | _=>False
def xhk (i:Nat)(a:DS):DS:=fun G τ=>match nth τ i with | .ow ts=>a G (τ.set i (.fz (.lst ts))) | _=>False
variable {fr:Bool}
theorem xT:OkS K fr xfs xa5:=fun B φ σ τ H E G R hd e=>e.nx φ σ τ H R hd
theorem jb:OkS K fr cG xe5:=fun B φ σ τ H E G R hd e=>hd.elim
theorem xl {a b:TS}{da db:DS}(ha:OkS K fr a da)(hb:OkS K fr b db):OkS K fr (xep a b) (xdP da db):=fun B φ σ τ H E G R hd e =>
 ha B φ σ τ H _ _ R hd ⟨fun φ' σ' τ' H' R' k=>hb B φ' σ' τ' H' E G R' k e,e.bk,e.ct,e.rt⟩
theorem xF {b:Bool}{te:TE}{d:DE}(h:OkE K b te d):OkS K false (xfI te) (xgM d):=fun B φ σ τ H E G R hd e =>
 h B φ σ τ H _ _ R hd fun t v H1 x1 k1 r1=>e.rt t v H1 (yy (fun a o e n=>⟨e,fun z=>n (.inl z)⟩) _ _ (xg_ R r1)) (R.hx x1).extB k1 fun z=>nomatch z
theorem k_ {te:TE}{d:DE}(h:OkF K te d):OkS K fr (xfI te) (xgM d):=fun B φ σ τ H E G R hd e =>
 h B φ σ τ H _ _ R hd fun ts a ws H1 x1 k1 h1 h2 h3=>by
  have z0:B.H0 a=none:=by
   cases q:B.H0 a with
   | none=>rfl
   | some o =>
    by_cases s:B.S0 a
    ·exact absurd h1 (R.sst a (.inl s)).ne_none
    ·rw[R.ext a o q s] at h1;cases h1
  have na:¬B.F0 a:=fun z=>R.dom (.inl z) h1
  have rr:zo (fun c=>B.F0 c∨c=a) H1 ts ws:=yk (fun c o e n=>⟨e,fun z=>n (z.elim (fun z=>.inl (.inl z)) .inr)⟩) _ _ h3
  exact e.rt (.lst ts) _ H1 ⟨a,ws,rfl,na,h2,yk (fun c o e n=>⟨e,fun z=>n (.inl z)⟩) _ _ rr⟩ (R.hx x1).extB k1 fun _=>⟨a,ts,ws,rfl,rfl,z0,h2,rr⟩
def xey (i:Nat):DS:=fun G τ=>match nth τ i with | .ow ts=>G.rt (.lst ts) | _=>False
theorem gk {i:Nat}:OkS K fr (xfI (dD i)) (xey i):=fun B φ σ τ H E G R hd e=>by
 have en:=R.ent i
 unfold xey at hd
 revert en hd
 cases hi:nth τ i with
 | ow ts =>
  intro hd ⟨a,ws,e1,e2,e3,e4,r⟩
  have na:¬B.F0 a:=fun z=>R.f0 a z e3
  have rr:zo (fun c=>B.F0 c∨c=a) H ts ws:=yk (fun c o e n=>⟨e,fun z=>n (z.elim .inl fun z=>.inr ⟨i,by rw[z];exact e2⟩)⟩) _ _ r
  exact⟨_,e1,e.rt (.lst ts) _ H ⟨a,ws,rfl,na,e4,yk (fun c o e n=>⟨e,fun z=>n (.inl z)⟩) _ _ rr⟩ R.extB hd fun _=>⟨a,ts,ws,rfl,rfl,e3,e4,rr⟩⟩
 | _=>exact fun z _=>z.elim
theorem yC {c:TT}{a b:TS}{dc:DT}{da db:DS}(hc:OkT K c dc)(ha:OkS K fr a da)(hb:OkS K fr b db):OkS K fr (xgS c a b) (sIf dc da db):=fun B φ σ τ H E G R hd e =>
 hc B φ σ τ H _ _ R hd fun k H1 x1 k1=>by
  cases k with
  | true=>exact om (ha B φ σ τ H1 E G (R.hx x1) k1 e)
  | false=>exact nJ (hb B φ σ τ H1 E G (R.hx x1) k1 e)
theorem yh {i:Nat}{te:TE}{d:DE}(h:OkE K true te d):OkS K fr (xdp te (fY i)) (xgh i d):=fun B φ σ τ H E G R hd e =>
 h B φ σ τ H _ _ R hd fun t v H1 x1 k1 r1=>e.nx _ _ _ H1 ((R.hx x1).setFz r1) k1
theorem wC {i:Nat}{te:TE}{d:DE}(h:OkF K te d):OkS K fr (xdp te (fY i)) (xga i d):=fun B φ σ τ H E G R hd e =>
 h B φ σ τ H _ _ R hd fun ts a ws H1 x1 k1 h1 h2 h3=>by
  have z0:B.H0 a=none:=by
   cases q:B.H0 a with
   | none=>rfl
   | some o =>
    by_cases s:B.S0 a
    ·exact absurd h1 (R.sst a (.inl s)).ne_none
    ·rw[R.ext a o q s] at h1;cases h1
  refine e.nx _ _ _ H1 (R.setNew (x:=.ow ts) x1 h1 (by rw[h2];exact fun z=>nomatch z) (fun z=>nomatch z) ⟨a,ws,rfl,bP,z0,h2,yk (fun c o e n=>⟨e,fun z=>n ?_⟩) _ _ h3⟩) k1
  rcases z with z | ⟨j,z⟩
  ·exact .inl (.inl z)
  ·rcases vy z with ⟨_,z⟩ | ⟨_,z⟩
   ·exact .inr z
   ·exact .inl (.inr ⟨j,z⟩)
theorem vR {te:TE}{g:TG}{d:DE}{dg:DG}(h:OkE K true te d)(hg:OkG K g dg):OkS K fr (xdp te g) (xhN d dg):=fun B φ σ τ H E G R hd e =>
 h B φ σ τ H _ _ R hd fun t v H1 x1 k1 r1=>hg B φ σ τ H1 t v _ _ (R.hx x1) r1 k1 fun φ' σ' τ' H' R' _ _ k=>e.nx φ' σ' τ' H' R' k
theorem uG {i j:Nat}{ta:TA}{da:DA}{n:Nat}(h:OkA K true n ta da):OkS K fr (xhp i j ta) (xhB i j da):=fun B φ σ τ H E G R hd e =>
 h B φ σ τ H _ _ R hd fun ts vs H1 x1 k1 l1 r1=>by
  cases ts with
  | nil=>exact k1.elim
  | cons t ts =>
   cases ts with
   | nil=>exact k1.elim
   | cons u ts =>
    cases ts with
    | cons _ _=>exact k1.elim
    | nil =>
     obtain⟨v,w,rfl,h1,h2⟩:=xbI r1
     exact⟨v,w,rfl,e.nx _ _ _ H1 (((R.hx x1).setFz h1).setFz (yy (fun a o e n=>⟨e,fun z=>n (jo z)⟩) _ _ h2)) k1⟩
theorem qP {b:Bool}{te:TE}{d:DE}(h:OkE K b te d):OkS K fr (pG te) (xgR d):=fun B φ σ τ H E G R hd e =>
 h B φ σ τ H _ _ R hd fun t v H1 x1 k1 r1=>e.nx φ σ τ H1 (R.hx x1) k1
theorem v5 {i:Nat}{te:TE}{d:DE}(h:OkE K true te d):OkS K fr (pG (tBM K "list" oK (dD i) (wK te nu))) (xg4 i d):=fun B φ σ τ H E G R hd e=>by
 have en:=R.ent i
 unfold xg4 at hd
 revert en hd
 cases hi:nth τ i with
 | ow ts =>
  intro hd ⟨a,ws,e1,e2,e3,e4,r⟩
  refine⟨_,e1,.inl ⟨rfl,_,SqL.of e4⟩,h B φ σ τ H _ _ R hd fun t v H1 x1 k1 r1=>?_⟩
  obtain⟨ws',f4,f5,_⟩:=gu R x1 hi e1
  exact⟨a,ws',v,rfl,rfl,f4,by rw[←f5.len];exact k1.1,e.nx φ σ _ _ ((R.hx x1).wrOw hi e1 (f5.app (show zo _ _ [t] [v] from⟨v,[],rfl,r1,rfl⟩))) k1.2⟩
 | _=>exact fun z _=>z.elim
theorem lC {i:Nat}{a:TS}{da:DS}(h:OkS K fr a da):OkS K fr a (xhk i da):=fun B φ σ τ H E G R hd e=>by
 unfold xhk at hd
 revert hd
 cases hi:nth τ i with
 | ow ts=>exact fun hd=>h B _ σ _ H E G (R.freeze hi) hd e
 | _=>exact fun z=>z.elim
end
end L2
namespace L2
open PySem PySem.Spec PyProof.Rows
abbrev DI:=TSt→(List Tr→Prop)→Prop
def xbx (H H':Hp):Prop:=H'=H∨∃q o,H q=none∧H'=upd H q o
structure ItC (F S:Addr→Prop)(J:It)(ts:List Tr)(Src:Hp→Prop):Prop where
 stab:∀H H',Src H→(∀a o,H a=some o→¬S a→H' a=some o)→Src H'
 go:∀i H,Src H→i<ts.length→J.go i H
 stop:∀H,Src H→J.stop ts.length H
 yld:∀i H x H',Src H→(∀a,F a→H a≠none)→i<ts.length→J.yld i H x H'→xbx H H'∧∃t,ts[i]? = some t∧Rep F H' t x
structure ItL (J:It)(ts:List Tr)(G:List (Tr×V)):Prop where
 go:∀F H i,(∀p∈G,Rep F H p.1 p.2)→i<ts.length→J.go i H
 stop:∀F H,(∀p∈G,Rep F H p.1 p.2)→J.stop ts.length H
 yld:∀F i H x H',(∀p∈G,Rep F H p.1 p.2)→(∀a,F a→H a≠none)→i<ts.length→J.yld i H x H'→xbx H H'∧∃t,ts[i]? = some t∧Rep F H' t x
theorem ItL.c {J:It}{ts:List Tr}{G:List (Tr×V)}(h:ItL J ts G){F S:Addr→Prop}(hS:∀a,S a→F a):ItC F S J ts (fun H=>∀p∈G,Rep F H p.1 p.2) where
 stab:=fun H H' s k p hp=>yy (fun a o e n=>⟨k a o e fun z=>n (hS a z),n⟩) _ _ (s p hp)
 go:=fun i H s hi=>h.go F H i s hi
 stop:=fun H s=>h.stop F H s
 yld:=fun i H x H' s d hi y=>h.yld F i H x H' s d hi y
def OkI (K:PySem.W.Frag)(b:Bool)(wi:TI)(d:DI):Prop:=∀(B:FB) (φ:Phi) (σ:St) (τ:TSt) (H:Hp) (R:It→Hp→Prop) (KK:List Tr→Prop),RS K B φ σ τ H→d τ KK →
 (∀J ts G H',HX B φ τ H H'→KK ts→ItL J ts G→(∀p∈G,Rep (AvB b B φ τ) H' p.1 p.2)→R J H')→wi σ H R
def xfa (K:PySem.W.Frag)(wi:TI)(d:DI):Prop:=∀(B:FB) (φ:Phi) (σ:St) (τ:TSt) (H:Hp) (R:It→Hp→Prop) (KK:List Tr→Prop),RS K B φ σ τ H→d τ KK →
 (∀J ts Src H',HX B φ τ H H'→KK ts→ItC (Av B φ) (SA B φ τ) J ts Src→Src H'→R J H')→wi σ H R
section
variable {K:PySem.W.Frag} {B:FB} {φ:Phi} {σ:St} {τ:TSt} {H H' H'':Hp} {fr:Bool}
theorem OkI.c {wi:TI}{d:DI}(h:OkI K true wi d):xfa K wi d:=fun B φ σ τ H R KK Rs hd q=>h B φ σ τ H R KK Rs hd fun J ts G H' x k i s=>q J ts _ H' x k (i.c fun a z=>Rs.sAv z) s
def xhT (d:DE):DI:=fun τ KK=>d τ fun x=>match x with | .tup ts=>KK ts | .lst ts=>KK ts | _=>False
theorem xa_ {a:Addr}{ts:List Tr}:ItL (Itl K a) ts [(.lst ts,.ref a)] where
 go:=fun F H i s hi=>by
  obtain⟨a',ws,e,n,h,r⟩:=s _ xjh
  cases e
  obtain⟨w,e1,_⟩:=r.getT (xiP hi)
  exact⟨ws,w,SqL.of h,e1⟩
 stop:=fun F H s=>by
  obtain⟨a',ws,e,n,h,r⟩:=s _ xjh
  cases e
  exact⟨ws,SqL.of h,by rw[←r.len];exact xjK _⟩
 yld:=fun F i H x H' s d hi y=>by
  obtain⟨a',ws,e,n,h,r⟩:=s _ xjh
  cases e
  obtain⟨rfl,y⟩:=y
  obtain⟨t,e1,e2⟩:=r.get (y ws (SqL.of h))
  exact⟨.inl rfl,t,e1,e2⟩
theorem xdZ {a:Addr}{ts:List Tr}:ItL (Itt K a) ts [(.tup ts,.ref a)] where
 go:=fun F H i s hi=>by
  obtain⟨a',ws,e,n,h,r⟩:=s _ xjh
  cases e
  obtain⟨w,e1,_⟩:=r.getT (xiP hi)
  exact⟨ws,w,SqT.of h,e1⟩
 stop:=fun F H s=>by
  obtain⟨a',ws,e,n,h,r⟩:=s _ xjh
  cases e
  exact⟨ws,SqT.of h,by rw[←r.len];exact xjK _⟩
 yld:=fun F i H x H' s d hi y=>by
  obtain⟨a',ws,e,n,h,r⟩:=s _ xjh
  cases e
  obtain⟨rfl,y⟩:=y
  obtain⟨t,e1,e2⟩:=r.get (y ws (SqT.of h))
  exact⟨.inl rfl,t,e1,e2⟩
def xgz (i:Nat):DI:=fun τ KK=>match nth τ i with | .ow ts=>KK ts | _=>False
theorem xbY {i:Nat}:xfa K (xge K (dD i)) (xgz i):=fun B φ σ τ H R KK Rs hd q=>by
 have en:=Rs.ent i
 unfold xgz at hd
 revert en hd
 cases hi:nth τ i with
 | ow ts =>
  intro hd ⟨a,ws,e1,e2,e3,e4,r⟩
  refine⟨_,e1,a,rfl,⟨ws,SqL.of e4⟩,q _ ts (fun H=>H a=some (.lst ws)∧zo (Av B φ) H ts ws) H (HX.refl Rs) hd ⟨?_,?_,?_,?_⟩ ⟨e4,r⟩⟩
  ·intro H1 H2 ⟨s1,s2⟩ k
   exact⟨k a _ s1 fun z=>cA Rs hi e2 e3 (.inr z),yk (fun c o e n=>⟨k c o e fun z=>n (Rs.sAv z),n⟩) _ _ s2⟩
  ·intro j H1 ⟨s1,s2⟩ hj
   obtain⟨w,f1,_⟩:=s2.getT (xiP hj)
   exact⟨ws,w,SqL.of s1,f1⟩
  ·intro H1 ⟨s1,s2⟩
   exact⟨ws,SqL.of s1,by rw[←s2.len];exact xjK _⟩
  ·intro j H1 x H2 ⟨s1,s2⟩ _ hj ⟨f,y⟩
   subst f
   obtain⟨t,g1,g2⟩:=s2.get (y ws (SqL.of s1))
   exact⟨.inl rfl,t,g1,g2⟩
 | _=>exact fun z _=>z.elim
def xel (lo:Int)(n:Nat):List Tr:=(List.range n).map fun(k:Nat)=>Tr.int (lo+k)
theorem ur (lo:Int)(n:Nat):(xel lo n).length=n:=by unfold xel;rw[xi0,List.length_range]
theorem sJ {lo:Int}{n i:Nat}(h:i<n):(xel lo n)[i]? = some (.int (lo+i)):=by unfold xel;rw[xiS,List.getElem?_range h];rfl
theorem lR {lo:Int}{n:Nat}:ItL (Itr lo n) (xel lo n) [] where
 go:=fun F H i s hi=>by rw[ur] at hi;exact hi
 stop:=fun F H s=>by rw[ur];exact xjK _
 yld:=fun F i H x H' s d hi y=>by
  rw[ur] at hi
  obtain⟨rfl,rfl⟩:=y
  exact⟨.inl rfl,_,sJ hi,rfl⟩
def xek (d:DA):DI:=fun τ KK=>d τ fun xs=>match xs with | [.int j]=>(-(2 ^ 62)≤j∧j<2 ^ 62)∧KK (xel 0 j.toNat) | _=>False
theorem qQ {b:Bool}{n:Nat}{ta:TA}{da:DA}(h:OkA K b n ta da):OkI K true (xfC ta) (xek da):=fun B φ σ τ H R KK Rs hd q =>
 h B φ σ τ H _ _ Rs hd fun ts vs H1 x1 k1 l1 r1=>by
  split at k1
  ·rename_i j
   obtain⟨v,rfl,e⟩:=jH r1
   exact⟨j,by rw[show v=.int j from e],k1.1.1,k1.1.2,q _ _ [] H1 x1 k1.2 lR fun p hp=>absurd hp (by simp)⟩
  ·exact k1.elim
def xbr (dg:DG)(body:DS)(G:fe):List Tr→TSt→Prop
 | [],τ=>G.nx τ
 | x::xs,τ=>dg x τ fun τ'=>body { G with nx:=xbr dg body G xs,ct:=xbr dg body G xs,bk:=G.nx } τ'
def xg0 (di:DI)(dg:DG)(body:DS):DS:=fun G τ=>di τ fun xs=>xbr dg body G xs τ
def FB.more (B:FB)(G:List (Tr×V)):FB:={ B with G0:=G++B.G0 }
theorem RS.more (R:RS K B φ σ τ H){G:List (Tr×V)}(h:∀p∈G,Rep (Av B φ) H p.1 p.2):RS K (B.more G) φ σ τ H :=
 ⟨R.f0,R.s0,R.ext,R.sst,R.inj,R.ow,R.len,R.ent,fun p hp=>(xjc.mp hp).elim (h p) (R.gh p)⟩
theorem RS.less {G:List (Tr×V)}(R:RS K (B.more G) φ σ τ H):RS K B φ σ τ H∧∀p∈G,Rep (Av B φ) H p.1 p.2 :=
 ⟨⟨R.f0,R.s0,R.ext,R.sst,R.inj,R.ow,R.len,R.ent,fun p hp=>R.gh p (xje _ hp)⟩,fun p hp=>R.gh p (xjd _ hp)⟩
theorem xbx.hx (R:RS K B φ σ τ H)(g:xbx H H'):HX B φ τ H H':=by
 rcases g with rfl | ⟨q,o,e,rfl⟩
 ·exact HX.refl R
 ·exact HX.new R e o
theorem zQ {wi:TI}{g:TG}{tb:TS}{di:DI}{dg:DG}{db:DS}(hi:OkI K true wi di)(hg:OkG K g dg)(hb:OkS K fr tb db):OkS K fr (xhf wi g tb) (xg0 di dg db):=fun B φ σ τ H E G R hd e =>
 hi B φ σ τ H _ _ R hd fun J ts Gh H1 x1 k1 it gh=>by
  let W:Nat→St→Hp→Prop:=fun i σ' H'=>i≤ts.length∧∃ φ' τ',RS K (B.more Gh) φ' σ' τ' H'∧xbr dg db G (ts.drop i) τ'
  refine⟨fun i m σ' H'=>m=ts.length-i∧W i σ' H',⟨_,rfl,xjW _,φ,τ,(R.hx x1).more gh,k1⟩,?_⟩
  rintro i m σ' H' ⟨rfl,hle,φ',τ',R',f⟩
  obtain⟨R0,g0⟩:=R'.less
  by_cases hlt:i<ts.length
  ·refine .inr ⟨it.go _ H' i g0 hlt,W (i+1),fun σ2 H2 w=>⟨_,by omega,rfl,w⟩,fun x H2 y=>?_⟩
   obtain⟨gr,t,ht,rt⟩:=it.yld _ i H' x H2 g0 (fun a z=>R0.dom z) hlt y
   have hx:=gr.hx R'
   have R2:=R'.hx hx
   have ed:ts.drop i=t::ts.drop (i+1):=by
    rw[xiD hlt]
    rw[xiP hlt] at ht
    cases ht;rfl
   rw[ed] at f
   refine hg (B.more Gh) φ' σ' τ' H2 t x _ _ R2 rt f fun φ3 σ3 τ3 H3 R3 _ _ k3=>?_
   exact hb (B.more Gh) φ3 σ3 τ3 H3 _ _ R3 k3 ⟨fun φ4 σ4 τ4 H4 R4 k4=>⟨hlt,φ4,τ4,R4,k4⟩,fun φ4 σ4 τ4 H4 R4 k4=>e.nx φ4 σ4 τ4 H4 R4.less.1 k4,fun φ4 σ4 τ4 H4 R4 k4=>⟨hlt,φ4,τ4,R4,k4⟩,fun t v H r x k f=>e.rt t v H r ⟨x.ext,x.st⟩ k f⟩
  ·have ei:i=ts.length:=by omega
   subst ei
   rw[xiE] at f
   exact .inl ⟨it.stop _ H' g0,e.nx φ' σ' τ' H' R0 f⟩
def xc7 (c:DT)(body:DS)(G:fe):Nat→TSt→Prop
 | 0,_=>False
 | n+1,τ=>c τ fun b=>if b=true then body { G with nx:=xc7 c body G n,ct:=xc7 c body G n,bk:=G.nx } τ else G.nx τ
def xcN (c:DT)(body:DS):DS:=fun G τ=>∃n,xc7 c body G n τ
theorem gR {c:TT}{tb:TS}{dc:DT}{db:DS}(hc:OkT K c dc)(hb:OkS K fr tb db):OkS K fr (xcP c tb) (xcN dc db):=fun B φ σ τ H E G R hd e=>by
 obtain⟨n,hd⟩:=hd
 refine⟨fun m σ' H'=>∃ φ' τ',RS K B φ' σ' τ' H'∧xc7 dc db G m τ',⟨n,φ,τ,R,hd⟩,?_⟩
 rintro m σ' H' ⟨φ',τ',R',f⟩
 cases m with
 | zero=>exact f.elim
 | succ m =>
  refine hc B φ' σ' τ' H' _ _ R' f fun b H1 x1 k1=>?_
  cases b with
  | true =>
   refine om ⟨fun σ2 H2=>∃ φ2 τ2,RS K B φ2 σ2 τ2 H2∧xc7 dc db G m τ2,fun σ2 H2 w=>⟨m,by omega,w⟩,?_⟩
   exact hb B φ' σ' τ' H1 _ _ (R'.hx x1) k1 ⟨fun φ4 σ4 τ4 H4 R4 k4=>⟨φ4,τ4,R4,k4⟩,fun φ4 σ4 τ4 H4 R4 k4=>e.nx φ4 σ4 τ4 H4 R4 k4,fun φ4 σ4 τ4 H4 R4 k4=>⟨φ4,τ4,R4,k4⟩,e.rt⟩
  | false=>exact nJ (e.nx φ' σ' τ' H1 (R'.hx x1) k1)
def nI (dg:DG)(dc:DT)(de:DE)(τi:TSt)(KK:List Tr→Prop):List Tr→List Tr→Prop
 | [],acc=>KK acc
 | x::xs,acc=>dg x τi fun τ2=>dc τ2 fun b=>if b=true then de τ2 fun y=>nI dg dc de τi KK xs (acc++[y]) else nI dg dc de τi KK xs acc
def xhb:TV→TV
 | .ow _=>.un
 | x=>x
def qr (tau:List (Option Nat))(τ:TSt):TSt:=tau.map fun o=>match o with | some j=>xhb (nth τ j) | none=>.un
def xgD (tau:List (Option Nat))(di:DI)(dg:DG)(dc:DT)(de:DE):DE:=fun τ KK=>di τ fun xs=>xs.length<sizeLine∧nI dg dc de (qr tau τ) (fun ys=>KK (.lst ys)) xs []
def xaM:DT:=fun _ KK=>KK true
theorem wR:OkT K xeH xaM:=fun B φ σ τ H Q KK R hd q=>q true H (HX.refl R) hd
def FB.inner (B:FB)(φ:Phi)(τ:TSt)(H:Hp):FB:=⟨Av B φ,SA B φ τ,H,[]⟩
def sr (tau:List (Option Nat))(φ:Phi)(τ:TSt):Phi:=fun i=>match tau[i]? with | some (some j)=>(match nth τ j with | .st=>φ j | _=>none) | _=>none
theorem md {tau:List (Option Nat)}:∀ {i:Nat},nth (qr tau τ) i=match tau[i]? with | some (some j)=>xhb (nth τ j) | _=>.un:=by
 intro i
 by_cases h:i<tau.length
 ·have h':i<(qr tau τ).length:=by unfold qr;rw[xi0];exact h
  rw[kZ h',xiP h]
  simp only[qr,List.getElem_map]
  cases tau[i]<;>rfl
 ·rw[zG (by unfold qr;rw[xi0];omega),xiQ (by omega)]
theorem sE {tau:List (Option Nat)}{i j:Nat}{v:V}(h:tau[i]? = some (some j))(e:σ[j]? = some (some v)):(qo tau σ)[i]? = some (some v):=by
 unfold qo
 rw[xiS,h]
 simp only[xjY,e,xjX]
theorem RS.inner {tau:List (Option Nat)}(R:RS K B φ σ τ H):RS K (B.inner φ τ H) (sr tau φ τ) (qo tau σ) (qr tau τ) H:=by
 have hphi:∀i a,sr tau φ τ i=some a→∃j,tau[i]? = some (some j)∧nth τ j=.st∧φ j=some a:=fun i a e=>by
  unfold sr at e
  split at e
  ·rename_i j hj
   split at e
   ·rename_i hs;exact⟨j,hj,hs,e⟩
   ·cases e
  ·cases e
 have hav:∀a,Av (B.inner φ τ H) (sr tau φ τ) a→Av B φ a:=fun a z=>by
  rcases z with z | ⟨i,z⟩
  ·exact z
  ·obtain⟨j,_,_,e⟩:=hphi i a z
   exact .inr ⟨j,e⟩
 refine⟨fun a z=>R.dom z,fun a z=>R.sAv z,fun a o e _=>e,fun a s=>?_,fun i j a ts hi e1 _=>?_,fun i a e=>?_,?_,fun i=>?_,fun p hp=>absurd hp (by simp[FB.inner])⟩
 ·rcases s with s | ⟨i,s,_⟩
  ·exact R.sst a s
  ·obtain⟨j,_,hs,e⟩:=hphi i a s
   exact R.sst a (.inr ⟨j,e,hs⟩)
 ·exfalso
  rw[md] at hi
  split at hi
  ·rename_i j hj
   revert hi
   cases nth τ j<;>intro hi<;>cases hi
  ·cases hi
 ·obtain⟨j,_,_,e⟩:=hphi i a e
  exact R.ow j a e
 ·unfold qo qr;rw[xi0,xi0]
 ·rw[md]
  split
  ·rename_i j hj
   have en:=R.ent j
   cases hn:nth τ j with
   | un=>trivial
   | ow ts=>trivial
   | fz t =>
    rw[hn] at en
    obtain⟨v,e,r⟩:=en
    exact⟨v,sE hj e,yy (fun a o e n=>⟨e,fun z=>n (hav a z)⟩) _ _ r⟩
   | st =>
    rw[hn] at en
    obtain⟨p,e1,e2,e3⟩:=en
    refine⟨p,sE hj e1,?_,.inl (.inr ⟨j,e2,hn⟩)⟩
    unfold sr
    simp only[hj,hn];exact e2
   | sc ns =>
    rw[hn] at en
    obtain⟨a,e,l,q⟩:=en
    exact⟨a,sE hj e,l,q⟩
   | ob a =>
    rw[hn] at en
    exact sE hj en
  ·trivial
theorem zL {wi:TI}{tau:List (Option Nat)}{g:TG}{tc:TT}{te:TE}{di:DI}{dg:DG}{dc:DT}{de:DE}{b:Bool}(hi:xfa K wi di)(hg:OkN K g dg)(hc:OkT K tc dc)(he:OkE K b te de) :
  OkF K (xd7 wi tau g tc te) (xgD tau di dg dc de):=fun B φ σ τ H Q KK R hd q =>
 hi B φ σ τ H _ _ R hd fun J ts Src H1 x1 k1 it s1=>by
  refine⟨fun i m ys H'=>m=ts.length-i∧i≤ts.length∧ys.length≤i∧HX B φ τ H H'∧Src H'∧∃acc,zo (Av B φ) H' acc ys∧nI dg dc de (qr tau τ) (fun ys=>KK (.lst ys)) (ts.drop i) acc,⟨_,rfl,xjW _,xjW _,x1,s1,[],rfl,k1.2⟩,?_⟩
  rintro i m ys H' ⟨rfl,hle,hys,x,s,acc,ra,f⟩
  have R':=R.hx x
  by_cases hlt:i<ts.length
  ·refine .inr ⟨it.go i H' s hlt,by have:=k1.1;omega,fun v H2 y=>?_⟩
   obtain⟨gr,t,ht,rt⟩:=it.yld i H' v H2 s (fun a z=>R'.dom z) hlt y
   have hx:=gr.hx R'
   have R2:=R'.hx hx
   have ed:ts.drop i=t::ts.drop (i+1):=by
    rw[xiD hlt]
    rw[xiP hlt] at ht
    cases ht;rfl
   rw[ed] at f
   refine hg (B.inner φ τ H2) _ _ _ H2 (Av B φ) t v _ _ R2.inner (fun a z=>?_) rt f fun φ3 σ3 τ3 R3 ha k3=>?_
   ·rcases z with z | ⟨j,z⟩
    ·exact z
    ·unfold sr at z
     split at z
     ·split at z
      ·exact .inr ⟨_,z⟩
      ·cases z
     ·cases z
   have hsa:∀a,SA (B.inner φ τ H2) φ3 τ3 a→SA B φ τ a:=fun a z=>by
    rcases z with z | ⟨j,z,hj⟩
    ·exact z
    ·have en:=R3.ent j
     rw[hj] at en
     obtain⟨p,e1,e2,e3⟩:=en
     rw[z] at e2;cases e2
     rcases e3 with e3 | e3
     ·exact e3
     ·exact absurd e3 (R3.sst a (.inr ⟨j,z,hj⟩)).ne_none
   have hxo:∀ {H3 H4:Hp},HX (B.inner φ τ H2) φ3 τ3 H3 H4→HX B φ τ H3 H4:=fun {H3 H4} h=>⟨fun a o e n=>h.keep a o e fun z=>n (hsa a z),fun a z=>h.st a (.inl z)⟩
   refine hc _ φ3 σ3 τ3 H2 _ _ R3 k3 fun c H3 x3 k4=>?_
   have x23:=hxo x3
   have s3:=it.stab _ _ (it.stab _ _ s fun a o e n=>hx.keep a o e n) fun a o e n=>x23.keep a o e n
   cases c with
   | false =>
    refine nJ ⟨_,by omega,rfl,hlt,by omega,(x.trans hx).trans x23,s3,acc,(hx.trans x23).repL (fun a z=>R.sAv z) ra,?_⟩
    simpa using k4
   | true =>
    refine om (he _ φ3 σ3 τ3 H3 _ _ (R3.hx x3) k4 fun u w H4 x4 k5 r5=>?_)
    have x34:=hxo x4
    refine⟨_,by omega,rfl,hlt,by rw[xiW,xi5];omega,((x.trans hx).trans x23).trans x34,it.stab _ _ s3 fun a o e n=>x34.keep a o e n,acc++[u],(((hx.trans x23).trans x34).repL (fun a z=>R.sAv z) ra).app (show zo _ _ [u] [w] from⟨w,[],rfl,?_,rfl⟩),k5⟩
    refine yy (fun a o e n=>⟨e,fun z=>n ?_⟩) _ _ r5
    cases b with
    | true=>exact .inl z
    | false=>exact .inl z
  ·have ei:i=ts.length:=by omega
   subst ei
   rw[xiE] at f
   refine .inl ⟨it.stop H' s,fun p hp=>q acc p ys _ (x.trans (HX.new R' hp _)) f (x.none hp) xQ (uB hp ra)⟩
end
end L2
namespace L2
open PySem PySem.Spec PyProof.Rows
def startT (N:List Str):Bool→List Tr→TSt
 | true,ts=>.st::(ts.map TV.fz++List.replicate (N.length-(ts.length+1)) .un)
 | false,ts=>ts.map TV.fz++List.replicate (N.length-ts.length) .un
theorem jF {ts:List Tr}{n i:Nat}{x:TV}(h:nth (ts.map TV.fz++List.replicate n .un) i=x):x=.un∨∃t,ts[i]? = some t∧x=.fz t:=by
 by_cases hi:i<ts.length
 ·right
  rw[kZ (by simp;omega),List.getElem_append_left (by simpa using hi),List.getElem_map] at h
  exact⟨_,xiP hi,h.symm⟩
 ·left
  by_cases h2:i<ts.length+n
  ·rw[kZ (by simp;omega),List.getElem_append_right (by simp;omega),List.getElem_replicate] at h
   exact h.symm
  ·rw[zG (by simp;omega)] at h
   exact h.symm
theorem ja {N:List Str}{vs:List V}{i:Nat}{v:V}(h:vs[i]? = some v):(start N vs)[i]? = some (some v):=by
 unfold start
 have hi:=(xiR.mp h).1
 rw[xiO (by simpa using hi),xiS,h];rfl
theorem fL {N:List Str}{vs:List V}(h:vs.length≤N.length):(start N vs).length=N.length:=by
 unfold start;rw[xiW,xi0,xi2];omega
section
variable {P:Program} {w:World} {K:PySem.W.Frag} {mg:Str→Option Value} {base:Heap} {k n:Nat} {x qual:Str} {st:Stmt} {f:Addr} {fd:FuncData} {N ps:List Str} {fr:Bool} {sp:TSp}
theorem tK {F S:Addr→Prop}{H:Hp}{ts:List Tr}{us:List V}(hF:∀a,F a→H a≠none)(hS:∀a,S a→F a)(hst:∀a,S a→mH a H)(r:zo F H ts us)(hl:ts.length≤N.length) :
  RS K ⟨F,S,H,[]⟩ (fun _=>none) (start N us) (startT N false ts) H where
 f0:=hF
 s0:=hS
 ext:=fun a o e _=>e
 sst:=fun a s=>by
  rcases s with s | ⟨i,s,_⟩
  ·exact hst a s
  ·cases s
 inj:=fun i j a us _ e=>by cases e
 ow:=fun i a e=>by cases e
 len:=by
  have:=r.len
  rw[fL (by omega)]
  simp[startT];omega
 ent:=fun i=>by
  rcases jF (ts:=ts) (n:=N.length-ts.length) (i:=i) rfl with e | ⟨t,h,e⟩
  ·show Ent K _ _ H i _ (nth (ts.map TV.fz++List.replicate (N.length-ts.length) .un) i)
   rw[e];trivial
  ·show Ent K _ _ H i _ (nth (ts.map TV.fz++List.replicate (N.length-ts.length) .un) i)
   rw[e]
   obtain⟨v,e1,e2⟩:=r.getT h
   exact⟨v,ja e1,yy (fun a o e n=>⟨e,fun z=>n (z.elim id fun⟨_,z⟩=>nomatch z)⟩) _ _ e2⟩
 gh:=fun p hp=>absurd hp (by simp)
theorem rW {F S:Addr→Prop}{H:Hp}{ts:List Tr}{us:List V}{p:Addr}(hp:S p)(hF:∀a,F a→H a≠none)(hS:∀a,S a→F a)(hst:∀a,S a→mH a H)(r:zo F H ts us)(hl:ts.length+1≤N.length) :
  RS K ⟨F,S,H,[]⟩ (fun i=>if i=0 then some p else none) (start N (.ref p::us)) (startT N true ts) H where
 f0:=hF
 s0:=hS
 ext:=fun a o e _=>e
 sst:=fun a s=>by
  rcases s with s | ⟨i,s,_⟩
  ·exact hst a s
  ·have s:(if i=0 then some p else none)=some a:=s
   by_cases e:i=0
   ·rw[if_pos e] at s;cases s;exact hst _ hp
   ·rw[if_neg e] at s;cases s
 inj:=fun i j a us hi e=>by
  exfalso
  by_cases e0:i=0
  ·subst e0;cases hi
  ·rw[if_neg e0] at e;cases e
 ow:=fun i a e=>by
  by_cases e0:i=0
  ·rw[if_pos e0] at e;cases e;exact(hst _ hp).ne_none
  ·rw[if_neg e0] at e;cases e
 len:=by
  have:=r.len
  rw[fL (by rw[xiX];omega)]
  simp[startT];omega
 ent:=fun i=>by
  cases i with
  | zero=>exact⟨p,ja (by rfl),if_pos rfl,.inl hp⟩
  | succ i =>
   show Ent K _ _ H (i+1) _ (nth (ts.map TV.fz++List.replicate (N.length-(ts.length+1)) .un) i)
   rcases jF (ts:=ts) (n:=N.length-(ts.length+1)) (i:=i) rfl with e | ⟨t,h,e⟩
   ·rw[e];trivial
   ·rw[e]
    obtain⟨v,e1,e2⟩:=r.getT h
    refine⟨v,ja (by rw[List.getElem?_cons_succ];exact e1),yy (fun a o e n=>⟨e,fun z=>n ?_⟩) _ _ e2⟩
    rcases z with z | ⟨j,z⟩
    ·exact z
    ·have z:(if j=0 then some p else none)=some a:=z
     by_cases e0:j=0
     ·rw[if_pos e0] at z;cases z;exact hS _ hp
     ·rw[if_neg e0] at z;cases z
 gh:=fun p hp=>absurd hp (by simp)
theorem xJ (F:Fun K x qual st f fd)(S:xA N ps (xh st))(mgx:mg x=some (.ref f))(b:Binds K fd ps [])(hn:ps.length=n)
  (body:∀(cdv:Value) (A:Around) (outer:List Env) (s:Shared) (H:Hp) (E:XK),qZ k (A.deeper (envOfC qual (xh st) s.heap.objs.size f cdv)) →
   ∃T D,PSs (gc CX0 P w K mg base N qual (xh st) f cdv A outer s H E).nox (yQ st) T∧OkS K fr T D∧∀ts KK,ts.length=n→sp ts KK→D { nx:=fun _=>fr=false∧KK .non,rt:=KK } (startT N false ts)) :
  Own P w K mg base (k+1) x ps (spT n false fr sp):=by
 have hpl:ps.length≤N.length:=by have:=xj0 List.length S.pre;rw[xi6] at this;omega
 refine fc F S mgx b (fun vs H Q E h=>?_) (fun cdv A outer s H vs Q E hr h=>?_)
 ·obtain⟨F',S',ts,KK,us,e,_,_,_,r,l,_⟩:=h
  cases (show vs=us from e)
  rw[←r.len,l,hn]
 ·obtain⟨F',S',ts,KK,us,e,hF,hS,hst,r,l,hsp,q⟩:=h
  cases (show vs=us from e)
  obtain⟨T,D,ht,hd,h⟩:=body cdv A outer s H E hr
  refine⟨T,ht,hd _ _ _ _ H _ _ (tK hF hS hst r (by omega)) (h ts KK l hsp) ⟨fun φ σ τ H1 R k=>?_,fun _ _ _ _ _ z=>z.elim,fun _ _ _ _ _ z=>z.elim,fun t v H1 r1 x k fl=>?_⟩⟩
  ·obtain⟨k1,k2⟩:=k
   exact q .non .non H1 k2 R.ext (fun a z=>R.sst a (.inl z)) rfl fun z=>by rw[k1] at z;cases z
  ·exact q t v H1 k x.ext x.st r1 fl
theorem gI (F:Fun K x qual st f fd)(S:xA N ps (xh st))(mgx:mg x=some (.ref f))(b:Binds K fd ps [])(hn:ps.length=n+1)
  (body:∀(cdv:Value) (A:Around) (outer:List Env) (s:Shared) (H:Hp) (E:XK),qZ k (A.deeper (envOfC qual (xh st) s.heap.objs.size f cdv)) →
   ∃T D,PSs (gc CX0 P w K mg base N qual (xh st) f cdv A outer s H E).nox (yQ st) T∧OkS K fr T D∧∀ts KK,ts.length=n→sp ts KK→D { nx:=fun _=>fr=false∧KK .non,rt:=KK } (startT N true ts)) :
  Own P w K mg base (k+1) x ps (spT n true fr sp):=by
 have hpl:ps.length≤N.length:=by have:=xj0 List.length S.pre;rw[xi6] at this;omega
 refine fc F S mgx b (fun vs H Q E h=>?_) (fun cdv A outer s H vs Q E hr h=>?_)
 ·obtain⟨F',S',ts,KK,us,⟨p,e,_⟩,_,_,_,r,l,_⟩:=h
  rw[e,xiX,←r.len,l,hn]
 ·obtain⟨F',S',ts,KK,us,⟨p,e,hp⟩,hF,hS,hst,r,l,hsp,q⟩:=h
  subst e
  obtain⟨T,D,ht,hd,h⟩:=body cdv A outer s H E hr
  refine⟨T,ht,hd _ _ _ _ H _ _ (rW hp hF hS hst r (by omega)) (h ts KK l hsp) ⟨fun φ σ τ H1 R k=>?_,fun _ _ _ _ _ z=>z.elim,fun _ _ _ _ _ z=>z.elim,fun t v H1 r1 x k fl=>?_⟩⟩
  ·obtain⟨k1,k2⟩:=k
   exact q .non .non H1 k2 R.ext (fun a z=>R.sst a (.inl z)) rfl fun z=>by rw[k1] at z;cases z
  ·exact q t v H1 k x.ext x.st r1 fl
def xeA (H:Hp):Prop:=∀b,(H b=none∨∃o xs,H b=some (.frz o (.lst xs)))∨∃q,H b=some (.tb q)
end
section
variable {K:PySem.W.Frag} {fr:Bool}
def xcZ (j i:Nat)(d:DE):DS:=fun G τ=>match nth τ i with | .sc _=>d τ (fun t=>match t with | .int k=>0≤k∧G.nx (τ.set j .st) | _=>False) | _=>False
theorem xam {b:Bool}{j i:Nat}{te:TE}{d:DE}(h:OkE K b te d):OkS K fr (xdp (xeq (nt K) (wK (dD i) (wK te nu))) (fY j)) (xcZ j i d):=fun B φ σ τ H E G R hd e=>by
 have en:=R.ent i
 unfold xcZ at hd
 revert en hd
 cases hi:nth τ i with
 | sc ns =>
  intro hd ⟨a,e1,hl,so,_⟩
  refine⟨_,e1,h B φ σ τ H _ _ R hd fun t v H1 x1 k1 r1=>?_⟩
  cases t with
  | int k =>
   cases (show v=.int k from r1)
   have sq:SqL K H1 a (ns.map V.int):=by
    rcases so with ⟨o,q⟩ | q
    ·exact .inl (.inr ⟨o,x1.keep a _ q (gC R q)⟩)
    ·exact q H1
   refine⟨a,ns,k,rfl,sq,hl,k1.1,fun p n b hp hok=>?_⟩
   have x2:=x1.trans (HX.new (R.hx x1) hp (.lst [.int n,.bl b]))
   have z0:B.H0 p=none:=by
    cases q:B.H0 p with
    | none=>rfl
    | some o =>
     by_cases s:B.S0 p
     ·exact absurd hp ((R.hx x1).sst p (.inl s)).ne_none
     ·rw[(R.hx x1).ext p o q s] at hp;cases hp
   refine e.nx _ _ _ _ (R.setNew (x:=.st) x2 (x1.none hp) (by rw[xQ];exact fun z=>nomatch z) (fun _=>⟨n,b,xQ,hok⟩) ⟨p,rfl,bP,.inr z0⟩) k1.2
  | _=>exact k1.elim
 | _=>exact fun z _=>z.elim
def mB:TSp:=fun ts KK=>match ts with | [.int many]=>(0<many∧many<2 ^ 128)∧∀r,0≤r→r<many→KK (.int r) | _=>False
theorem oT {P:Program}{w:World}{mg:Str→Option Value}{base:Heap}{k:Nat}{x:Str}{ps:List Str}(h:Own P w K mg base k x ps xcw):Own P w K mg base k x ps (spT 1 true false mB):=h.imp fun vs H Q E q=>by
 obtain⟨F,S,ts,KK,us,⟨p,e,hp⟩,hF,hS,hst,r,l,hsp,q⟩:=q
 unfold mB at hsp
 split at hsp
 ·rename_i many
  obtain⟨v,rfl,r1⟩:=jH r
  cases (show v=.int many from r1)
  refine⟨p,many,e,hst p hp,hsp.1.1,hsp.1.2,fun r H' h0 h1 sb=>q (.int r) (.int r) H' (hsp.2 r h0 h1) (fun a o e n=>sb.keep a o (fun z=>n (by rw[z];exact hp)) e) (fun a s=>?_) rfl (fun z=>nomatch z)⟩
  by_cases ea:a=p
  ·rw[ea];exact sb.st
  ·obtain⟨n,b,e1,z⟩:=hst a s
   exact⟨n,b,sb.keep a _ ea e1,z⟩
 ·exact hsp.elim
end
end L2
namespace L2
open PySem PySem.Spec PyProof.Rows
mutual
def j5:Tr→PyData
 | .non=>.none | .bl b=>.bool b | .int i=>.int i | .str x=>.str x | .emp=>.dict [] | .tup ts=>.tuple (uP ts) | .lst ts=>.list (uP ts)
def uP:List Tr→List PyData
 | []=>[]
 | t::ts=>j5 t::uP ts
end
def teq (t u:Tr):Bool:=PyData.eqv (j5 t) (j5 u)
def pln (t:Tr):Bool:=(j5 t).canLay0
def dep (t:Tr):Nat:=(j5 t).depth
section
variable {X:Cx} {pins:List (Addr×Obj)} {σ:St} {H:Hp} {s:Shared}
mutual
theorem u4 (I:Inv X pins σ H s){F:Addr→Prop}:∀(t:Tr) (x:V) (a:Value),Rep F H t x→RelV x a→pln t=true→∃as,Reads s.heap a (j5 t) as
 | .non,x,a,r,e,_=>by cases (show x=.non from r);cases e;exact⟨_,.none⟩
 | .bl b,x,a,r,e,_=>by cases (show x=.bl b from r);cases e;exact⟨_,.bool b⟩
 | .int i,x,a,r,e,_=>by cases (show x=.int i from r);obtain⟨t,rfl⟩:=e;exact⟨_,.int i t⟩
 | .str i,x,a,r,e,_=>by cases (show x=.str i from r);obtain⟨t,rfl⟩:=e;exact⟨_,.str i t⟩
 | .emp,x,a,r,e,h=>by cases h
 | .tup ts,x,a,r,e,h=>by
  obtain⟨p,ws,rfl,_,hp,rl⟩:=r
  cases e
  obtain⟨its,rv,⟨o,ho,hc,n,hd⟩,_⟩:=I.tuple (SqT.of hp)
  obtain⟨as,ra⟩:=uV I ts ws its rl rv h
  exact⟨_,.tuple ho hc hd (by simpa using ra)⟩
 | .lst ts,x,a,r,e,h=>by
  obtain⟨p,ws,rfl,_,hp,rl⟩:=r
  cases e
  obtain⟨its,rv,pl,_⟩:=I.list (SqL.of hp)
  obtain⟨o,ho,hc,n,hd⟩:=pl.isList
  obtain⟨as,ra⟩:=uV I ts ws its rl rv h
  exact⟨_,.list ho hc hd (by simpa using ra)⟩
theorem uV (I:Inv X pins σ H s){F:Addr→Prop}:∀(ts:List Tr) (ws:List V) (us:List Value),zo F H ts ws→yS ws us→PyData.canLayAll0 (uP ts)=true→∃as,ReadsAll s.heap us (uP ts) as
 | [],ws,us,r,v,_=>by cases (show ws=[] from r);cases v;exact⟨_,.nil⟩
 | t::ts,ws,us,r,v,h=>by
  obtain⟨w,r',rfl,h1,h2⟩:=r
  cases v with
  | cons v1 v2 =>
   have h':pln t=true∧PyData.canLayAll0 (uP ts)=true:=by
    have:(pln t&&PyData.canLayAll0 (uP ts))=true:=h
    simpa using this
   obtain⟨as,ra⟩:=u4 I t w _ h1 v1 h'.1
   obtain⟨bs,rb⟩:=uV I ts r' _ h2 v2 h'.2
   exact⟨_,.cons ra rb⟩
end
end
def xdr (t u:Tr):Prop:=pln t=true∧pln u=true∧min (dep t) (dep u)≤64
def xhr:R2:=fun x y H Q=>∃F G t u,Rep F H t x∧Rep G H u y∧xdr t u∧Q (.bl (teq t u)) H
def xg2:R2:=fun x y H Q=>∃F G t u,Rep F H t x∧Rep G H u y∧xdr t u∧Q (.bl (!teq t u)) H
section
variable {X:Cx}
theorem uU (hu:X.A.units+64<cLine):OpR X (compareOp .Eq) xhr:=by
 intro pins s σ H x y v u Q I rx ry h
 obtain⟨F,G,t,t',r1,r2,⟨p1,p2,p3⟩,q⟩:=h
 obtain⟨as,ra⟩:=u4 I t x v r1 rx p1
 obtain⟨bs,rb⟩:=u4 I t' y u r2 ry p2
 exact SeqAt.rcAt_reads ra rb p1 p2 (xjO (Nat.add_le_add_left p3 _) hu) X.prog X.w _ _ ⟨.bl _,H,I,rfl,q⟩
theorem uZ (hu:X.A.units+64<cLine):OpR X (compareOp .NotEq) xg2:=by
 intro pins s σ H x y v u Q I rx ry h
 obtain⟨F,G,t,t',r1,r2,⟨p1,p2,p3⟩,q⟩:=h
 obtain⟨as,ra⟩:=u4 I t x v r1 rx p1
 obtain⟨bs,rb⟩:=u4 I t' y u r2 ry p2
 exact SeqAt.rcNeAt_reads ra rb p1 p2 (xjO (Nat.add_le_add_left p3 _) hu) X.prog X.w _ _ ⟨.bl _,H,I,rfl,q⟩
def xgZ (neg:Bool):R2:=fun x y H Q=>∃F G t ts,Rep F H t x∧(Rep G H (.lst ts) y∨Rep G H (.tup ts) y)∧pln t=true∧PyData.canLayAll0 (uP ts)=true∧dep t≤60∧Q (.bl (if neg then !(ts.any fun u=>teq u t) else ts.any fun u=>teq u t)) H
theorem gO {h:Heap}{d0:PyData}(e:Value→Bool)(he:∀y d as,Reads h y d as→d.canLay0=true→e y=PyData.eqv d d0):∀(ts:List Tr) (us:List Value) (as:List Addr),ReadsAll h us (uP ts) as→PyData.canLayAll0 (uP ts)=true→us.any e=ts.any fun u=>PyData.eqv (j5 u) d0
 | [],us,as,r,_=>by cases r;rfl
 | t::ts,us,as,r,hl=>by
  have h':(j5 t).canLay0=true∧PyData.canLayAll0 (uP ts)=true:=by
   have:((j5 t).canLay0&&PyData.canLayAll0 (uP ts))=true:=hl
   simpa using this
  generalize hg:uP (t::ts)=ds at r
  cases r with
  | nil=>cases hg
  | cons r1 r2 =>
   have e1:j5 t=_:=(List.cons.inj hg).1
   have e2:uP ts=_:=(List.cons.inj hg).2
   subst e1 e2
   rw[List.any_cons,List.any_cons,he _ _ _ r1 h'.1,gO e he ts _ _ r2 h'.2]
theorem rL {h:Heap}{y:Value}:∀(ds:List PyData) (us:List Value) (as:List Addr),ReadsAll h us ds as→PyData.canLayAll0 ds=true→y∈us→∃d as,Reads h y d as∧d.canLay0=true
 | [],us,as,r,_,hm=>by cases r;exact absurd hm (by simp)
 | d::ds,us,as,r,hl,hm=>by
  have h':d.canLay0=true∧PyData.canLayAll0 ds=true:=by
   have:(d.canLay0&&PyData.canLayAll0 ds)=true:=hl
   simpa using this
  cases r with
  | cons r1 r2 =>
   rcases xjf.mp hm with rfl | hm
   ·exact⟨d,_,r1,h'.1⟩
   ·exact rL ds _ _ r2 h'.2 hm
open Classical in
def eBy (h:Heap)(d0:PyData)(y:Value):Bool:=if ∃d as,Reads h y d as∧d.canLay0=true∧PyData.eqv d d0=true then true else false
theorem xaD {h:Heap}{d0:PyData}(y:Value)(d:PyData)(as:List Addr)(r:Reads h y d as)(hl:d.canLay0=true):eBy h d0 y=PyData.eqv d d0:=by
 unfold eBy
 cases hq:PyData.eqv d d0 with
 | true=>rw[if_pos ⟨d,as,r,hl,hq⟩]
 | false =>
  rw[if_neg]
  rintro⟨d',as',r',hl',hq'⟩
  have:=SeqAt.Reads.unique d d' y as as' hl r r'
  subst this
  rw[hq] at hq';cases hq'
theorem xae (hu:X.A.units+64<cLine):OpR X (compareOp .NotIn) (xgZ true):=by
 intro pins s σ H x y v u Q I rx ry h
 obtain⟨F,G,t,ts,r1,r2,p1,p2,p3,q⟩:=h
 obtain⟨as,ra⟩:=u4 I t x v r1 rx p1
 have room:∀d:PyData,X.A.in1.units+min d.depth (j5 t).depth<cLine:=fun d=>by
  have h1:min d.depth (j5 t).depth≤60:=xjM (Nat.min_le_right _ _) p3
  show X.A.units+1+_<_
  omega
 have eqa:∀(ds:List PyData) (us:List Value) (bs:List Addr),ReadsAll s.heap us ds bs→PyData.canLayAll0 ds=true→∀z∈us,SeqAt.EqAt X.A.in1 s z v (eBy s.heap (j5 t) z):=fun ds us bs rb hl z hz=>by
  obtain⟨d,cs,rd,hd⟩:=rL ds us bs rb hl hz
  rw[xaD z d cs rd hd]
  exact SeqAt.eqAt_reads d (j5 t) _ s z v _ _ rd ra hd p1 (room d)
 rcases r2 with r2 | r2
 ·obtain⟨p,ws,rfl,_,hp,rl⟩:=r2
  cases ry
  obtain⟨its,rv,pl,_⟩:=I.list (SqL.of hp)
  obtain⟨bs,rb⟩:=uV I ts ws its rl rv p2
  refine SeqAt.notIn_listAt (eBy s.heap (j5 t)) pl.isList (fun z hz=>eqa _ _ _ rb p2 z (by simpa using hz)) ⟨.bl _,H,I,?_,q⟩
  show Value.bool _=Value.bool _
  rw[if_pos rfl,show(ts.any fun u=>teq u t)=its.toArray.any (eBy s.heap (j5 t)) from by
   rw[show(its.toArray.any (eBy s.heap (j5 t)))=its.any (eBy s.heap (j5 t)) by simp]
   exact(gO (eBy s.heap (j5 t)) (fun y d as r hl=>xaD y d as r hl) ts its bs rb p2).symm]
 ·obtain⟨p,ws,rfl,_,hp,rl⟩:=r2
  cases ry
  obtain⟨its,rv,pl,_⟩:=I.tuple (SqT.of hp)
  obtain⟨bs,rb⟩:=uV I ts ws its rl rv p2
  refine SeqAt.notIn_tupleAt (eBy s.heap (j5 t)) pl (fun z hz=>eqa _ _ _ rb p2 z (by simpa using hz)) ⟨.bl _,H,I,?_,q⟩
  show Value.bool _=Value.bool _
  rw[if_pos rfl,show(ts.any fun u=>teq u t)=its.toArray.any (eBy s.heap (j5 t)) from by
   rw[show(its.toArray.any (eBy s.heap (j5 t)))=its.any (eBy s.heap (j5 t)) by simp]
   exact(gO (eBy s.heap (j5 t)) (fun y d as r hl=>xaD y d as r hl) ts its bs rb p2).symm]
end
def xfW (neg:Bool)(x y:Tr)(KK:Tr→Prop):Prop:=match x,y with
 | .int i,.int j=>KK (.bl (if neg then !decide (i=j) else decide (i=j)))
 | x,y=>xdr x y∧KK (.bl (if neg then !teq x y else teq x y))
theorem xbX (i j:Int):xdr (.int i) (.int j):=⟨rfl,rfl,by show min 0 0≤64;decide⟩
theorem lB {neg:Bool}{x y:Tr}{KK:Tr→Prop}(h:xfW neg x y KK):xdr x y∧KK (.bl (if neg then !teq x y else teq x y)):=by
 unfold xfW at h
 split at h
 ·exact⟨xbX _ _,h⟩
 ·exact h
theorem os_eq:OpS xhr (xfW false):=fun F G H x y t u KK Q r1 r2 hf q=>by
 obtain⟨h1,h2⟩:=lB hf
 exact⟨F,G,t,u,r1,r2,h1,q _ _ rfl h2⟩
theorem jP:OpS xg2 (xfW true):=fun F G H x y t u KK Q r1 r2 hf q=>by
 obtain⟨h1,h2⟩:=lB hf
 exact⟨F,G,t,u,r1,r2,h1,q _ _ rfl h2⟩
def fIn (neg:Bool)(x y:Tr)(KK:Tr→Prop):Prop:=match y with
 | .lst ts=>(pln x=true∧PyData.canLayAll0 (uP ts)=true∧dep x≤60)∧KK (.bl (if neg then !(ts.any fun u=>teq u x) else ts.any fun u=>teq u x))
 | .tup ts=>(pln x=true∧PyData.canLayAll0 (uP ts)=true∧dep x≤60)∧KK (.bl (if neg then !(ts.any fun u=>teq u x) else ts.any fun u=>teq u x))
 | _=>False
theorem xfS {neg:Bool}:OpS (xgZ neg) (fIn neg):=fun F G H x y t u KK Q r1 r2 hf q=>by
 unfold fIn at hf
 split at hf
 ·exact⟨F,G,t,_,r1,.inl r2,hf.1.1,hf.1.2.1,hf.1.2.2,q _ _ rfl hf.2⟩
 ·exact⟨F,G,t,_,r1,.inr r2,hf.1.1,hf.1.2.1,hf.1.2.2,q _ _ rfl hf.2⟩
 ·exact hf.elim
end L2
namespace L2
open PySem PySem.Spec PyProof.Rows
def xgJ (K:PySem.W.Frag)(tl:TE):TI:=fun σ H R=>tl σ H fun x H1=>∃a,x=.ref a∧(((∃xs,SqL K H1 a xs)∧R (Itl K a) H1)∨((∃xs,SqT K H1 a xs)∧R (Itt K a) H1))
section
variable {X:Cx}
theorem zU (K:PySem.W.Frag){tg l:Expr}{tl:TE}(hl:PE X l tl)(e:X.K=K:=by rfl):PI X tg l (xgJ K tl):=by
 subst e
 intro pins s σ H R I h
 refine thn (@hl pins s σ H _ I h) fun v s1 ⟨x,H1,I1,r1,q1⟩=>?_
 obtain⟨a,e,q⟩:=q1
 subst e
 cases r1
 rcases q with ⟨⟨xs,hq⟩,q⟩ | ⟨⟨xs,hq⟩,q⟩
 ·obtain⟨its,rv,p,hz⟩:=I1.list hq
  refine wpAny_pyIter_list p.isList ?_
  refine⟨s1.heap.objs.size,[s1.heap.objs.size],_,_,H1,rfl,I1.kept (t':=s1.toks) fun b o e=>Heap.get?_push_of_some _ e,lZ a _,⟨_,Heap.get?_push_size _ rfl,rfl,rfl⟩,fun b hb=>?_,q⟩
  have e:b=s1.heap.objs.size:=by simpa using hb
  subst e
  exact I1.fpOk (xjK _) (I1.hok.fresh (xjK _))
 ·obtain⟨its,rv,p,hz⟩:=I1.tuple hq
  refine wpAny_pyIter_tuple (show s1.heap.IsTuple a its.toArray from p) ?_
  refine⟨s1.heap.objs.size,[s1.heap.objs.size],_,_,H1,rfl,I1.kept (t':=s1.toks) fun b o e=>Heap.get?_push_of_some _ e,pX a _,⟨_,Heap.get?_push_size _ rfl,rfl,rfl⟩,fun b hb=>?_,q⟩
  have e:b=s1.heap.objs.size:=by simpa using hb
  subst e
  exact I1.fpOk (xjK _) (I1.hok.fresh (xjK _))
end
section
variable {K:PySem.W.Frag}
theorem y_ {b:Bool}{te:TE}{d:DE}(h:OkE K b te d):OkI K b (xgJ K te) (xhT d):=fun B φ σ τ H R KK Rs hd q =>
 h B φ σ τ H _ _ Rs hd fun t v H1 x1 k1 r1=>by
  cases t with
  | lst ts =>
   obtain⟨a,ws,e,n,ha,rl⟩:=id r1
   subst e
   exact⟨a,rfl,.inl ⟨⟨ws,SqL.of ha⟩,q _ ts _ H1 x1 k1 xa_ fun p hp=>by
    cases xjq.mp hp
    exact r1⟩⟩
  | tup ts =>
   obtain⟨a,ws,e,n,ha,rl⟩:=id r1
   subst e
   exact⟨a,rfl,.inr ⟨⟨ws,SqT.of ha⟩,q _ ts _ H1 x1 k1 xdZ fun p hp=>by
    cases xjq.mp hp
    exact r1⟩⟩
  | _=>exact k1.elim
theorem xao {i:Nat}:xfa K (xgJ K (dD i)) (xgz i):=fun B φ σ τ H R KK Rs hd q=>by
 obtain⟨v,e,a,ea,s,r⟩:=xbY (i:=i) B φ σ τ H R KK Rs hd q
 exact⟨v,e,a,ea,.inl ⟨s,r⟩⟩
end
def Ite (K:PySem.W.Frag)(b:Bool)(a:Addr):It :=
 ⟨fun i H=>∃xs x,Sq2 K b H a xs∧xs[i]? = some x,
  fun i H v H'=>∃x q,(∀xs,Sq2 K b H a xs→xs[i]? = some x)∧v=.ref q∧H q=none∧H'=upd H q (.tup [.int i,x]),
  fun i H=>∃xs,Sq2 K b H a xs∧xs.length≤i⟩
theorem Inv.sq2_inj {X:Cx}{pins:List (Addr×Obj)}{σ:St}{H:Hp}{s:Shared}{b:Bool}{a:Addr}{xs ys:List V}(I:Inv X pins σ H s)(h:Sq2 X.K b H a xs)(h':Sq2 X.K b H a ys):xs=ys:=by
 cases b with
 | true=>exact I.tuple_inj (show SqT X.K H a xs from h) h'
 | false=>exact I.list_inj (show SqL X.K H a xs from h) h'
theorem xbg {prog:Program}{w:World}{A:Around}{it a:Addr}{vs:List Value}{tn:Nat→Heap→Prop}{src:Heap→Prop}(D:Drw it a vs tn src)(hne:a≠it)(hh:A.handled=none) :
  Draws prog w A it [it,a] vs.length (fun i x=>vs[i]? = some x) (fun i h=>tn i h∧src h) where
 live:=fun i h st=>let ⟨o,e,_⟩:=D.ob i h st.1;⟨o,e⟩
 frame:=fun i h h' st k=>⟨D.mv _ _ _ st.1 (k it (by simp)),D.smv _ _ st.2 (k a (by simp))⟩
 item:=fun i s Q E hi st hQ=>D.item prog w A E i vs[i] s Q st.1 st.2 (xiP hi) fun h' t' sb=>hQ _ h' s.toks (xiP hi) ⟨t',D.smv _ _ st.2 fun o e=>sb.extBut _ o hne e⟩ sb
 done:=fun s Q E st hE=>D.fin prog w A E vs.length s Q hh st.1 st.2 (xiQ (xjK _)) hE
section
variable {P:Program} {w:World} {K:PySem.W.Frag} {e it a:Addr} {b:Bool}
def ESt (b:Bool)(e it a:Addr)(i:Nat)(h:Heap):Prop:=(∃old,IsEnum h e it i old)∧Tn2 b it a i h
theorem xag {elts:List Expr}{kk:Nat}{pp:Pos}(hei:e≠it)(hea:a≠e)(hia:a≠it):Turn P w K (.Tuple elts kk pp) (Ite K b a) [e,it] e (ESt b e it a) where
 mem:=by simp
 obj:=fun i h st c hc=>by
  obtain⟨⟨old,s1⟩,s2⟩:=st
  simp only[xjf,xjv,xj9] at hc
  rcases hc with z | z<;>subst z
  ·exact⟨_,s1,fun v=>by simp⟩
  ·exact(ae b _ a []).ob _ _ s2
 keep:=fun i h h' st k=>by
  obtain⟨⟨old,s1⟩,s2⟩:=st
  exact⟨⟨old,k _ (by simp) _ s1⟩,(ae b it a []).mv _ _ _ s2 fun o e=>k _ (by simp) o e⟩
 item:=by
  intro X hP hw hK hc i pins s σ H E I hf st hg
  subst hP hw hK
  obtain⟨⟨old,s1⟩,s2⟩:=st
  obtain⟨xs,x,sq1,hx⟩:=hg
  obtain⟨vs,rv,c1⟩:=I.sq2 sq1
  obtain⟨xv,ex,rx⟩:=rv.get hx
  have hi:i<vs.length:=(xiR.mp ex).1
  have fr:H s.heap.objs.size=none:=I.hok.fresh (xjK _)
  have D:=xbg (prog:=X.prog) (w:=X.w) (A:=X.A.in1) (ae b it a vs) hia (show X.A.in1.handled=none from I.ok.hd hc)
  refine wpAny_pyNext_enum_itemD D s1 ⟨s2,c1⟩ hi hei (by simp[hei,Ne.symm hea]) fun xv' g tk hP ho st' hT hsz kp=>⟨_,rfl,?_⟩
  rw[ex] at hP;cases hP
  refine wpAny_letOwnedTupleGo_enum ho fun g2 he2 S2=>?_
  have lte:e<s.heap.objs.size:=Heap.lt_size s1
  have kp2:∀c o,c∉[e,it]→s.heap.get? c=some o→g2.get? c=some o:=fun c o hc e=>by
   simp only[xjf,xjv,xj9,not_or] at hc
   exact S2.extBut _ _ hc.1 (kp c o hc.1 hc.2 e)
  have T2:=S2.extBut _ _ (xjS lte) hT
  have st2:ESt b e it a (i+1) g2:=⟨⟨_,by simpa using he2⟩,(ae b it a vs).mv _ _ _ st'.1 fun o q=>S2.extBut _ o (Ne.symm hei) q⟩
  have nfp:∀c u,H c=some u→c∉[e,it]:=fun c u q hm=>by rw[(hf c hm).1] at q;cases q
  have nT:∀c o,s.heap.get? c=some o→c≠s.heap.objs.size:=fun c o e=>xjT (Heap.lt_size e)
  refine⟨.ref s.heap.objs.size,upd H s.heap.objs.size (.tup [.int i,x]),?_,rfl,⟨x,_,fun xs' h'=>by rw[←I.sq2_inj sq1 h'];exact hx,rfl,fr,rfl⟩,st2,fun c hm=>?_⟩
  ·show Inv X pins σ (upd H s.heap.objs.size (.tup [.int i,x])) { s with heap:=g2,gens:=s.gens,drawn:=s.drawn,toks:=tk+1 }
   refine Inv.step (s:=s) (g':=s.gens) (d':=s.drawn) (t':=tk+1) (ch:=[e,it]) I (fun c hm=>?_) (fun c o _ _ hm e _=>kp2 c o hm e) (fun c o _ _ hm e _=>⟨o.slots,kp2 c o hm e⟩) (fun c o hm e n=>by rw[xN (nT c o e)];exact n) (fun c o hm e=>⟨o,kp2 c o hm e⟩)
    (fun c zs e=>by rw[xN (xw e fr)];exact e) (fun c o u e=>by rw[xN (xw e fr)];exact e) (fun c ps e=>⟨#[],by rw[xN (xw e fr),e];simp⟩) (fun m hm=>?_) (fun c u e=>?_) I.bare
   ·obtain⟨_,f1,_,f3,f4,f5⟩:=hf c hm
    exact⟨f3,f1,f4,f5⟩
   ·obtain⟨o,es,ep,ho,r⟩:=hm
    exact⟨o,es,ep,kp2 _ o (fun z'=>(hf _ z').2.1 rfl) ho,r⟩
   ·by_cases hc':c=s.heap.objs.size
    ·subst hc'
     rw[xQ] at e
     cases e
     exact⟨by show 2≤sizeLine;decide,[.int i tk,xv],.cons ⟨_,rfl⟩ (.cons rx .nil),_,T2,rfl,0,rfl⟩
    ·rw[xN hc'] at e
     refine(I.hok c u e).stay (fun c' v hcc q'=>kp2 c' v ?_ q') (fun c' q'=>by rw[xN (xw q' fr)];exact q') (fun c' zs q'=>by rw[xN (xw q' fr)];exact q') fun c' o u q'=>by rw[xN (xw q' fr)];exact q'
     rcases hcc with rfl | hcc
     ·exact nfp _ _ e
     ·exact nfp _ _ hcc
  ·rw[xN]
   ·exact(hf c hm).1
   ·simp only[xjf,xjv,xj9] at hm
    rcases hm with z | z<;>subst z
    ·exact nT _ _ s1
    ·obtain⟨o,e,_⟩:=(ae b _ a []).ob _ _ s2;exact nT _ _ e
 done:=by
  intro X hP hw hK hc i pins s σ H E I hf st hg
  subst hP hw hK
  obtain⟨⟨old,s1⟩,s2⟩:=st
  obtain⟨xs,sq1,hend⟩:=hg
  obtain⟨vs,rv,c1⟩:=I.sq2 sq1
  have hT:s.TypeIs (.ref e) "enumerate" := ⟨_,s1,rfl⟩
  unfold pyNext
  refine wpAny_bind (wpAny_attempt (wpAny_callSpecial?_slot (name:=Str.ofString "__next__") hT F.slot_enumerate_next (wpAny_call_entry F.slot_enumerate_next hT F.entry_enumerate_next ?_ (F.args_enumerate_next_1 _))))
  show wpAny _ _ (field (.ref e) 2 >>= _) _ _ _
  refine wpAny_bind (wpAny_field s1 rfl (x:=.ref it) rfl ?_)
  refine wpAny_bind ((ae b it a vs).fin _ _ _ _ i s _ (I.ok.hd hc) s2 c1 (xiQ (by rw[←rv.length];exact hend)) fun g x kp hx'=>?_)
  obtain⟨o,ho,hcl⟩:=hx'
  refine wpAny_bind (wpAny_isInstance (T := "StopIteration") (b:=true) ⟨o,ho,hcl⟩ isSubtype_stop (wpAny_pure ⟨rfl,?_⟩))
  have kp2:∀c o,c∉[e,it]→s.heap.get? c=some o→g.get? c=some o:=fun c o hc q=>by
   simp only[xjf,xjv,xj9,not_or] at hc
   exact kp c o hc.2 q
  have nfp:∀c u,H c=some u→c∉[e,it]:=fun c u q hm=>by rw[(hf c hm).1] at q;cases q
  refine Inv.step (s:=s) (g':=s.gens) (d':=s.drawn) (t':=s.toks) (ch:=[e,it]) I (fun c hm=>?_) (fun c o _ _ hm e _=>kp2 c o hm e) (fun c o _ _ hm e _=>⟨o.slots,kp2 c o hm e⟩) (fun c o hm e n=>n) (fun c o hm e=>⟨o,kp2 c o hm e⟩)
   (fun c zs e=>e) (fun c o u e=>e) (fun c ps e=>⟨#[],by rw[e];simp⟩) (fun m hm=>?_) (fun c u e=>?_) I.bare
  ·obtain⟨_,f1,_,f3,f4,f5⟩:=hf c hm
   exact⟨f3,f1,f4,f5⟩
  ·obtain⟨o,es,ep,ho,r⟩:=hm
   exact⟨o,es,ep,kp2 _ o (fun z'=>(hf _ z').2.1 rfl) ho,r⟩
  ·refine(I.hok c u e).stay (fun c' v hcc q'=>kp2 c' v ?_ q') (fun _ q'=>q') (fun _ _ q'=>q') fun _ _ _ q'=>q'
   rcases hcc with rfl | hcc
   ·exact nfp _ _ e
   ·exact nfp _ _ hcc
 self:=fun A i s Q E st h=>by
  obtain⟨⟨old,s1⟩,_⟩:=st
  exact wpAny_pyIter_enum s1 h
end
open AutoSeq1 (wpAny_loadPart') in
theorem qW (l:Addr)(items:Array Value)(n:Nat)(dct:Option Addr)(sl:Array (Option Value)) :
  Meets (Builtin.«enumerate.__new__» ⟨[.type "enumerate", .ref l],[]⟩) (fun _ R s=>s.heap.get? l=some { cls:=.type "tuple", dict:=dct,data:=.seq items n,slots:=sl } ∧
   R (.ok (.ret (.ref (s.heap.push { cls:=.type "tuple_iterator", data:=.fields #[.ref l,.int 0 0] }).objs.size)))
    { s with heap:=(s.heap.push { cls:=.type "tuple_iterator", data:=.fields #[.ref l,.int 0 0] }).push { cls:=.type "enumerate", data:=.fields #[.none,.bool false,.ref s.heap.objs.size,rawInt 0,.none,.none] } }) :=
 .of_wp fun prog w A R s h=>by
  obtain⟨hp,g,d,tk,os⟩:=s;obtain⟨hl,h⟩:=h
  have hsub:=sub_enumerate
  have hL:Heap.IsTuple (Shared.heap ⟨hp,g,d,tk,os⟩) l items:=⟨_,hl,rfl,n,rfl⟩
  wp_walk using wpAny_loadPart' hl
  refine wpAny_stack_any fun st=>wpAny_pure ?_
  split
  ·rename_i c _ _ _ _ _
   cases (c == Value.type "enumerate")
   ·wp_walk using wpAny_loadPart' hl,wpAny_pyIter_tuple hL
    exact⟨_,rfl,h⟩
   ·wp_walk using wpAny_loadPart' hl,wpAny_pyIter_tuple hL
    exact⟨_,rfl,h⟩
  ·wp_walk using wpAny_loadPart' hl,wpAny_pyIter_tuple hL
   exact⟨_,rfl,h⟩
section
variable {prog:Program} {w:World} {A:Around} {E:Value→Shared→Prop} {s:Shared}
theorem qX {l:Addr}{items:Array Value}{Q:Value→Shared→Prop}(hL:s.heap.IsTuple l items)
  (h:∀h',IsEnum h' (s.heap.objs.size+1) s.heap.objs.size 0 .none→h'.IsTupleIter s.heap.objs.size l 0→h'.objs.size=s.heap.objs.size+2 →
   (∀b o,s.heap.get? b=some o→h'.get? b=some o)→Q (.ref (s.heap.objs.size+1)) { s with heap:=h' }) :
  wpAny (model prog w) A (call (.type "enumerate") [.ref l]) Q E s:=by
 obtain⟨⟨c,dct,dt,sl⟩,hl,hc,n,hd⟩:=hL
 replace hc:c=.type "tuple" := hc
 replace hd:dt=.seq items n:=hd
 subst hc hd
 refine callType_new F.called_enumerate (by decide) (F.typeCall_enumerate_1 _) (F.newCall_enumerate_1 _) (fun obj=>F.args_object_init_2 obj _) F.entry_enumerate_new
  (qW l items n dct sl) ⟨hl,?_⟩
 have hz:(s.heap.push { cls:=.type "tuple_iterator", data:=.fields #[.ref l,.int 0 0] }).objs.size=s.heap.objs.size+1:=Heap.size_push ..
 show _∧_
 rw[hz]
 have he:IsEnum ((s.heap.push { cls:=.type "tuple_iterator", data:=.fields #[.ref l,.int 0 0] }).push
   { cls:=.type "enumerate", data:=.fields #[.none,.bool false,.ref s.heap.objs.size,rawInt 0,.none,.none] }) (s.heap.objs.size+1) s.heap.objs.size 0 .none:=by
  have:=Heap.get?_push_size (s.heap.push { cls:=.type "tuple_iterator", data:=.fields #[.ref l,.int 0 0] })
   (o:={ cls:=.type "enumerate", data:=.fields #[.none,.bool false,.ref s.heap.objs.size,rawInt 0,.none,.none] }) rfl
  rw[hz] at this;exact this
 refine⟨⟨_,he,rfl⟩,h _ he ⟨_,Heap.get?_push_of_some _ (Heap.get?_push_size _ rfl),rfl,rfl⟩ (by rw[Heap.size_push,hz]) fun b o x=>Heap.get?_push_of_some _ (Heap.get?_push_of_some _ x)⟩
end
theorem rQ:bootBuiltins "enumerate" = some (.type "enumerate"):=by decide +kernel
def xeW (K:PySem.W.Frag)(ta:TA):TI:=fun σ H R=>ta σ H fun vs H1=>∃(b:Bool) (a:Addr) (xs:List V),vs=[.ref a]∧Sq2 K b H1 a xs∧R (Ite K b a) H1
section
variable {X:Cx}
theorem mO (K:PySem.W.Frag){elts:List Expr}{kk:Nat}{pp:Pos}{a:Expr}{ta:TA}{p pos:Pos}(hg:Gl X "enumerate")(hm:X.mg "enumerate" = none)(ha:PA X [a] ta)(hs:starEach [a] X.env=[(false,eval a X.env)]:=by rfl)(eK:X.K=K:=by rfl) :
  PI X (.Tuple elts kk pp) (.Call (.Name "enumerate" p) [a] [] pos) (xeW K ta):=by
 subst eK
 intro pins s σ H R I h
 refine Call_ (dq I hg hm rQ (PyProof.Rows.callWith_type1 (thn (@ha pos pins s σ H _ I h) fun us s1 ⟨vs,H1,I1,r1,q1⟩=>?_) (by rw[hs];rfl) (by rfl)))
 obtain⟨bb,a1,xs,e,sq1,q⟩:=q1
 subst e
 obtain⟨u1,rfl,ru⟩:=vals1 r1
 obtain rfl:u1=Value.ref a1:=ru
 obtain⟨vs,rv,c1⟩:=I1.sq2 sq1
 have mk:∀g,ESt bb (s1.heap.objs.size+1) s1.heap.objs.size a1 0 g→a1<s1.heap.objs.size→(∀c o,s1.heap.get? c=some o→g.get? c=some o) →
   wpAny (model X.prog X.w) X.A (pyIter (.ref (s1.heap.objs.size+1))) (PIE X pins σ (.Tuple elts kk pp) R) X.xe { s1 with heap:=g }:=fun g st la kp=>by
  obtain⟨⟨old,he⟩,st2⟩:=st
  refine wpAny_pyIter_enum he ⟨_,[s1.heap.objs.size+1,s1.heap.objs.size],ESt bb (s1.heap.objs.size+1) s1.heap.objs.size a1,_,H1,rfl,I1.kept (t':=s1.toks) kp,
   xag (Nat.succ_ne_self _) (xjT (xjQ la)) (xjT la),⟨⟨old,he⟩,st2⟩,fun b hb=>?_,q⟩
  simp only[xjf,xjv,xj9] at hb
  rcases hb with rfl | rfl
  ·exact I1.fpOk (xjL _) (I1.hok.fresh (xjL _))
  ·exact I1.fpOk (xjK _) (I1.hok.fresh (xjK _))
 cases bb with
 | true =>
  have c1:s1.heap.IsTuple a1 vs.toArray:=c1
  refine qX c1 ?_
  intro g z1 z2 _ kp
  refine mk g ⟨⟨_,z1⟩,z2⟩ ?_ kp
  obtain⟨o,e,_⟩:=c1;exact Heap.lt_size e
 | false =>
  have c1:s1.heap.IsList a1 vs.toArray:=c1
  refine call_enumerate_list c1 ?_
  intro g z1 z2 _ kp
  refine mk g ⟨⟨_,z1⟩,z2⟩ ?_ kp
  obtain⟨o,e,_⟩:=c1;exact Heap.lt_size e
end
def pW:Nat→List Tr→List Tr
 | _,[]=>[]
 | k,t::ts=>.tup [.int k,t]::pW (k+1) ts
def vK (ts:List Tr):List Tr:=pW 0 ts
theorem wG:∀(k:Nat) (ts:List Tr),(pW k ts).length=ts.length
 | _,[]=>rfl
 | k,_::ts=>by show(pW (k+1) ts).length+1=_;rw[wG];rfl
theorem vX:∀ {k:Nat} {ts:List Tr} {i:Nat} {t:Tr},ts[i]? = some t→(pW k ts)[i]? = some (.tup [.int ((k+i:Nat):Int),t])
 | _,[],_,_,h=>by simp at h
 | k,x::ts,0,t,h=>by simp at h;subst h;rfl
 | k,x::ts,i+1,t,h=>by
  show(pW (k+1) ts)[i]? = _
  rw[vX (k:=k+1) (ts:=ts) (i:=i) (by simpa using h)]
  rw[show k+1+i=k+(i+1) by omega]
section
variable {K:PySem.W.Frag}
theorem lK {a:Addr}{ts:List Tr}:ItL (Ite K false a) (vK ts) [(.lst ts,.ref a)] where
 go:=fun F H i s hi=>by
  obtain⟨a',ws,e,n,h,r⟩:=s _ xjh
  cases e
  rw[show(vK ts).length=ts.length from wG 0 ts] at hi
  obtain⟨w,e1,_⟩:=r.getT (xiP hi)
  exact⟨ws,w,SqL.of h,e1⟩
 stop:=fun F H s=>by
  obtain⟨a',ws,e,n,h,r⟩:=s _ xjh
  cases e
  exact⟨ws,SqL.of h,by rw[show(vK ts).length=ts.length from wG 0 ts,←r.len];exact xjK _⟩
 yld:=fun F i H x H' s d hi y=>by
  obtain⟨a',ws,e,n,h,r⟩:=s _ xjh
  cases e
  obtain⟨v,q,hv,rfl,hq,rfl⟩:=y
  obtain⟨t,e1,e2⟩:=r.get (hv ws (SqL.of h))
  refine⟨.inr ⟨q,_,hq,rfl⟩,.tup [.int i,t],?_,q,_,rfl,fun z=>d q z hq,xQ,⟨_,_,rfl,rfl,_,_,rfl,fj hq e2,rfl⟩⟩
  have:=vX (k:=0) e1
  rw[xjV] at this
  exact this
theorem lA {a:Addr}{ts:List Tr}:ItL (Ite K true a) (vK ts) [(.tup ts,.ref a)] where
 go:=fun F H i s hi=>by
  obtain⟨a',ws,e,n,h,r⟩:=s _ xjh
  cases e
  rw[show(vK ts).length=ts.length from wG 0 ts] at hi
  obtain⟨w,e1,_⟩:=r.getT (xiP hi)
  exact⟨ws,w,SqT.of h,e1⟩
 stop:=fun F H s=>by
  obtain⟨a',ws,e,n,h,r⟩:=s _ xjh
  cases e
  exact⟨ws,SqT.of h,by rw[show(vK ts).length=ts.length from wG 0 ts,←r.len];exact xjK _⟩
 yld:=fun F i H x H' s d hi y=>by
  obtain⟨a',ws,e,n,h,r⟩:=s _ xjh
  cases e
  obtain⟨v,q,hv,rfl,hq,rfl⟩:=y
  obtain⟨t,e1,e2⟩:=r.get (hv ws (SqT.of h))
  refine⟨.inr ⟨q,_,hq,rfl⟩,.tup [.int i,t],?_,q,_,rfl,fun z=>d q z hq,xQ,⟨_,_,rfl,rfl,_,_,rfl,fj hq e2,rfl⟩⟩
  have:=vX (k:=0) e1
  rw[xjV] at this
  exact this
def xfx (d:DA):DI:=fun τ KK=>d τ fun xs=>match xs with | [.tup ts]=>KK (vK ts) | [.lst ts]=>KK (vK ts) | _=>False
theorem aE {b:Bool}{n:Nat}{ta:TA}{da:DA}(h:OkA K b n ta da):OkI K b (xeW K ta) (xfx da):=fun B φ σ τ H R KK Rs hd q =>
 h B φ σ τ H _ _ Rs hd fun ts vs H1 x1 k1 l1 r1=>by
  split at k1
  ·rename_i us
   obtain⟨v,rfl,r⟩:=jH r1
   obtain⟨a,ws,e,n,ha,rl⟩:=id r
   subst e
   exact⟨true,a,ws,rfl,SqT.of ha,q _ _ _ H1 x1 k1 lA fun p hp=>by
    cases xjq.mp hp
    exact r⟩
  ·rename_i us
   obtain⟨v,rfl,r⟩:=jH r1
   obtain⟨a,ws,e,n,ha,rl⟩:=id r
   subst e
   exact⟨false,a,ws,rfl,SqL.of ha,q _ _ _ H1 x1 k1 lK fun p hp=>by
    cases xjq.mp hp
    exact r⟩
  ·exact k1.elim
end
end L2
namespace L2
open PySem PySem.Spec PyProof.Rows
def xe9 (K:PySem.W.Frag):R2:=fun x y H Q=>∃a b xs ys,x=.ref a∧y=.ref b∧SqT K H a xs∧SqT K H b ys∧xs.length+ys.length≤sizeLine ∧
 (xs=[]→Q (.ref b) H)∧(xs≠[]→ys=[]→Q (.ref a) H)∧(xs≠[]→ys≠[]→∀p,H p=none→Q (.ref p) (upd H p (.tup (xs++ys))))
section
variable {X:Cx}
theorem xdT:OpR X (binaryOp .Add) (xe9 X.K):=by
 intro pins s σ H x y v u Q I rx ry h
 obtain⟨a,b,xs,ys,rfl,rfl,ha,hb,hz,q0,q1,q2⟩:=h
 by_cases hx:xs=[]
 ·cases rx
  cases ry
  obtain⟨its,r1,p1,_⟩:=I.tuple ha
  obtain⟨its2,r2,p2,_⟩:=I.tuple hb
  obtain⟨⟨cls,dd,data,sl⟩,ho,hc,n,hd⟩:=id p1
  obtain⟨⟨cls2,dd2,data2,sl2⟩,ho2,hc2,n2,hd2⟩:=id p2
  simp only at hc hd hc2 hd2
  subst hc hd hc2 hd2
  have hv:its=[]:=r1.nil_iff.mpr hx
  exact concat_meets ⟨_,ho,rfl⟩ ⟨_,ho2,rfl⟩ noFill_tuple_add seq_tuple_add PySem.F.slot_tuple_add PySem.F.entry_tuple_add (PySem.F.args_tuple_add_2 _ _)
   (tuple_addW0 a b its.toArray its2.toArray n n2 dd dd2 sl sl2 (by simp[hv])) ⟨ho,ho2,⟨.ref b,H,I,rfl,q0 hx⟩⟩
 ·exact xdN pins s σ H _ _ _ _ Q I rx ry ⟨a,b,xs,ys,rfl,rfl,ha,hb,hx,hz,q1 hx,q2 hx⟩
def xeJ (K:PySem.W.Frag):R2:=fun x y H Q=>∃a k xs,x=.ref a∧y=.int k∧SqT K H a xs∧xs≠[]∧2≤k∧k<2 ^ 63∧xs.length*k.toNat≤sizeLine∧∀p,H p=none→Q (.ref p) (upd H p (.tup (List.replicate k.toNat xs).flatten))
end
theorem vI:fillsNumberSlot (.type "tuple") "mul" = pure false :=
 PySem.fillsNumberSlot_seq (id := "tuple.__mul__") (r:=some (.builtin "tuple.__rmul__")) F.slot_tuple_mul.lookup (by decide +kernel) F.slot_tuple_rmul.lookup (by decide +kernel)
theorem j3:seqRepeat? (.type "tuple")=pure (some (.builtin "tuple.__mul__")):=by
 unfold seqRepeat?
 rw[PySem.seqSlot_of (T := "tuple") (name := "__mul__") (id := "tuple.__mul__") F.slot_tuple_mul.lookup (by decide +kernel),PySem.seqSlot_of (T := "tuple") (name := "__rmul__") (id := "tuple.__rmul__") F.slot_tuple_rmul.lookup (by decide +kernel)]
 rfl
open AutoSeq1 (wpAny_loadPart') in
theorem wj (a:Int)(t:Tok)(l:Addr)(items:Array Value)(n:Nat)(dd:Option Addr)(sl:Array (Option Value)) :
  Meets (Builtin.«int.__rmul__» ⟨[.int a t,.ref l],[]⟩) (fun _ R s=>s.heap.get? l=some { cls:=.type "tuple", dict:=dd,data:=.seq items n,slots:=sl }∧R (.ok (.ret Value.notImplemented)) s) :=
 .of_wp fun prog w A R s h=>by obtain⟨hp,g,d,tk,os⟩:=s;obtain⟨hl,h⟩:=h;wp_walk using wpAny_loadPart' hl;exact⟨_,rfl,h⟩
open AutoSeq1 (wpAny_loadPart') in
theorem sR (l:Addr)(items:Array Value)(n:Nat)(dd:Option Addr)(sl:Array (Option Value))(x:Int)(u:Tok)(h0:¬items.isEmpty=true)(h1:2≤x)(h2:x<2 ^ 63)(h3:items.size*x.toNat≤sizeLine) :
  Meets (Builtin.«tuple.__mul__» ⟨[.ref l,.int x u],[]⟩) (fun _ R s=>s.heap.get? l=some { cls:=.type "tuple", dict:=dd,data:=.seq items n,slots:=sl } ∧
   R (.ok (.ret (.ref s.heap.objs.size))) { s with heap:=s.heap.push { cls:=.type "tuple", data:=.seq ((List.replicate x.toNat items).foldl (·++·) #[]) } }) :=
 .of_wp fun prog w A R s h=>by
  obtain⟨hp,g,d,tk,os⟩:=s;obtain⟨hl,h⟩:=h
  have f1:=AutoSeq1.idx_int
  have c1:¬(decide (x < -(2 ^ 63)) || decide (x≥2 ^ 63))=true:=by simp;omega
  have c2:¬(items.isEmpty || x == 1)=true:=by simp;constructor;simpa using h0;omega
  have c3:¬(decide (x≤0) || items.isEmpty)=true:=by simp;constructor;omega;simpa using h0
  wp_walk using wpAny_loadPart' hl
  rw[if_neg c1]
  wp_walk using wpAny_loadPart' hl
  rw[if_neg c2]
  show wpAny _ _ (if (decide (x≤0) || items.isEmpty)=true then _ else _) _ _ _
  rw[if_neg c3]
  have c4:¬((items.size:Int)*x>(2 ^ 63-1) / 8):=by
   have e:(items.size:Int)*x=((items.size*x.toNat:Nat):Int):=by rw[Int.natCast_mul,xis (by omega)]
   rw[e]
   have:items.size*x.toNat≤16777216:=h3
   omega
  show wpAny _ _ (if (items.size:Int)*x>(2 ^ 63-1) / 8 then _ else _) _ _ _
  rw[if_neg c4]
  have c5:¬Builtin.Tuple.tupleTooMany ((items.size:Int)*x)=true:=by
   unfold Builtin.Tuple.tupleTooMany
   have e:(items.size:Int)*x=((items.size*x.toNat:Nat):Int):=by rw[Int.natCast_mul,xis (by omega)]
   rw[e]
   intro z
   have z':=xj8 z
   have:(sizeLine:Int)<((items.size*x.toNat:Nat):Int):=z'
   have h4:((items.size*x.toNat:Nat):Int)≤(sizeLine:Int):=Int.ofNat_le.mpr h3
   exact absurd this (Int.not_lt.mpr h4)
  show wpAny _ _ (if Builtin.Tuple.tupleTooMany ((items.size:Int)*x)=true then _ else _) _ _ _
  rw[if_neg c5]
  have hsz:(List.foldl (fun x1 x2=>x1++x2) #[] (List.replicate x.toNat items)).size≤sizeLine:=by
   have f0:=foldl_rep items.toList x.toNat []
   rw[xjr] at f0
   have f1:List.foldl (fun x1 x2=>x1++x2) #[] (List.replicate x.toNat items)=(List.replicate x.toNat items.toList).flatten.toArray:=by simpa using f0
   rw[f1,xjC,len_rep,Nat.mul_comm,xhW];exact h3
  exact wpAny_bind (m:=Builtin.Tuple.tupleExact _) (wpAny_newObj_type (wpAny_pure ⟨_,rfl,h⟩) hsz)
section
variable {X:Cx}
theorem xdg:OpR X (binaryOp .Mult) (xeJ X.K):=by
 intro pins s σ H x y v u Q I rx ry h
 obtain⟨a,k,xs,rfl,rfl,ha,hx,h1,h2,hz,q⟩:=h
 cases rx
 obtain⟨t,rfl⟩:=ry
 obtain⟨its,r,p1,_⟩:=I.tuple ha
 obtain⟨⟨cls,dd,data,sl⟩,ho,hc,n,hd⟩:=id p1
 simp only at hc hd
 subst hc hd
 have hlen:=r.length
 have hne:¬its.toArray.isEmpty=true:=by
  intro z
  have:its=[]:=by simpa using z
  exact hx (r.nil_iff.mp this)
 refine wpAny_binaryOp_repeat_ref (T := "tuple") (U := "int") (by decide) ⟨_,ho,rfl⟩ (fun s'=>typeIs_int s' k t) vI F.fills_int_mul F.slot_int_rmul j3 F.slot_int_index.lookup
  (call_meets F.slot_int_rmul (typeIs_int s k t) F.entry_int_rmul (F.args_int_rmul_2 _ _) (wj k t a its.toArray n dd sl)
   ⟨ho,rfl,⟨_,ho,rfl⟩,call_meets F.slot_tuple_mul ⟨_,ho,rfl⟩ F.entry_tuple_mul (F.args_tuple_mul_2 _ _) (sR a its.toArray n dd sl k t hne h1 h2 (by rw[xjC,←hlen];exact hz)) ⟨ho,?_⟩⟩)
 have hnew:List.foldl (fun x1 x2=>x1++x2) #[] (List.replicate k.toNat its.toArray)=(List.replicate k.toNat its).flatten.toArray:=by
  have:=foldl_rep its k.toNat []
  rw[xjr] at this
  exact this
 rw[hnew]
 refine⟨.ref s.heap.objs.size,_,I.laid (t':=s.toks) (o:=.tup (List.replicate k.toNat xs).flatten) (fun b ob q=>Heap.get?_push_of_some _ q) (xjK _) ?_,rfl,q _ (I.hok.fresh (xjK _))⟩
 exact⟨by rw[len_rep,Nat.mul_comm];exact hz,_,r.rep k.toNat,IsTup.new _ _⟩
def xe0 (K:PySem.W.Frag):R2:=fun x y H Q=>(rI0 fun i j=>.int (i+j)) x y H Q∨xfZ x y H Q∨xe9 K x y H Q
theorem fx (K:PySem.W.Frag)(e:X.K=K:=by rfl):OpR X (binaryOp .Add) (xe0 K):=by subst e;exact zF.or (dZ.or xdT)
def xev (K:PySem.W.Frag):R2:=fun x y H Q=>(rI CM fun i j=>.int (i*j)) x y H Q∨xgW x y H Q∨xeJ K x y H Q
theorem xdo (K:PySem.W.Frag)(e:X.K=K:=by rfl):OpR X (binaryOp .Mult) (xev K):=by subst e;exact xO.or (xeu.or xdg)
def xg7 (K:PySem.W.Frag):R2:=fun x y H Q=>(rI0 fun i j=>.bl (decide (i<j))) x y H Q∨xg9 K x y H Q
theorem kT (K:PySem.W.Frag)(hu:X.A.units+64<cLine)(e:X.K=K:=by rfl):OpR X (compareOp .Lt) (xg7 K):=by subst e;exact xeU.or (xfj (xjO (xjI _ _) hu))
end
section
variable {prog:Program} {w:World} {A:Around} {E:Value→Shared→Prop} {s:Shared}
theorem kC {t sl:Addr}{items:Array Value}{vl vu:Value}{lo hi:Option Int}{Q:Value→Shared→Prop}(ht:IsTup s.heap t items)(hs:s.heap.IsSliceOf sl vl vu .none)(pl:IsPart vl lo)(pu:IsPart vu hi)
  (hw:HT.sIx items.size 0 lo=0∧HT.sIx items.size items.size hi=items.size) (h:Q (.ref t) s):wpAny (model prog w) A (getItem (.ref t) (.ref sl)) Q E s:=by
 obtain⟨os,hos,hcs,hds⟩:=id hs
 have hTs:s.TypeIs (.ref sl) "slice" := ⟨os,hos,hcs⟩
 unfold getItem
 try with_reducible refine wpAny_holding ?_
 first | refine wpAny_bind (wpAny_pure ?_) | skip
 refine wpAny_bind (wpAny_sequenceKey ht.typeIs (by decide) ?_)
 refine wpAny_bind (wpAny_callSpecial?_slot (name:=Str.ofString "__getitem__") ht.typeIs PyProof.Rows.slot_tuple_getitem
  (wpAny_call_entry PyProof.Rows.slot_tuple_getitem ht.typeIs entry_tuple_getitem ?_ (args_tuple_getitem _ _)))
 show wpAny _ _ (Builtin.Tuple.tupleItemsOf (.ref t) >>= _) _ _ s
 refine wpAny_bind (tupleItemsOf_ ht ?_)
 refine wpAny_bind (wpAny_typeOf hTs ?_)
 rw[if_pos (by decide)]
 refine wpAny_bind (HT.vG hs pl pu ?_)
 have hyes:(((HT.sIx items.size 0 lo:Nat):Int) == 0&&(1:Int) == 1&&(HT.sIx items.size items.size hi-HT.sIx items.size 0 lo) == items.size)=true:=by
  rw[hw.1,hw.2];simp
 show wpAny _ _ (if (((HT.sIx items.size 0 lo:Nat):Int) == 0&&(1:Int) == 1&&(HT.sIx items.size items.size hi-HT.sIx items.size 0 lo) == items.size)=true then _ else _) _ _ s
 rw[if_pos hyes]
 have hex:∀ {Q':Bool→Shared→Prop} {E':Value→Shared→Prop} {A':Around},Q' true s→wpAny (model prog w) A' (Builtin.Tuple.tupleIsExact (.ref t)) Q' E' s:=fun {Q' E' A'} hq=>by
  unfold Builtin.Tuple.tupleIsExact
  refine wpAny_bind (wpAny_typeOf ht.typeIs (wpAny_pure ?_))
  have e:(Value.type "tuple" == Value.type "tuple")=true:=by decide
  rw[e];exact hq
 refine wpAny_bind (hex ?_)
 rw[if_pos rfl]
 exact wpAny_bind (wpAny_rule (wpAny_pure ⟨_,rfl,wpAny_pure h⟩))
end
section
variable {X:Cx}
def xfF (K:PySem.W.Frag):V→Option Int→Option Int→Hp→VK→Prop:=fun x lo hi H Q=>∃a xs,x=.ref a∧SqT K H a xs ∧
 (pZ xs lo hi=xs→Q (.ref a) H)∧∀p,H p=none→Q (.ref p) (upd H p (.tup (pZ xs lo hi)))
theorem xdM:SlR X (xfF X.K):=by
 intro pins s σ H x v vl vu lo hi sl Q I rx hs pl pu h
 obtain⟨a,xs,rfl,hx,q0,q⟩:=h
 by_cases hw:HT.sIx xs.length 0 lo=0∧HT.sIx xs.length xs.length hi=xs.length
 ·cases rx
  obtain⟨its,r,ht,hz⟩:=I.tuple hx
  have hlen:its.toArray.size=xs.length:=by rw[xjC];exact r.length.symm
  refine⟨"tuple", _,PyProof.Rows.slot_tuple_getitem.lookup,ht.typeIs,?_⟩
  refine kC ht hs pl pu (by rw[hlen];exact hw) ⟨.ref a,H,I,rfl,q0 ?_⟩
  unfold pZ
  rw[hw.1,hw.2,xiF,xjU,List.take_length]
 ·exact xfR pins s σ H _ v vl vu lo hi sl Q I rx hs pl pu ⟨a,xs,rfl,hx,hw,q⟩
def xhm (K:PySem.W.Frag):V→Option Int→Option Int→Hp→VK→Prop:=fun x lo hi H Q=>xf6 K x lo hi H Q∨xfF K x lo hi H Q
theorem ph (K:PySem.W.Frag)(e:X.K=K:=by rfl):SlR X (xhm K):=by
 subst e
 intro pins s σ H x v vl vu lo hi sl Q I rx hs pl pu h
 rcases h with h | h
 ·exact oy pins s σ H x v vl vu lo hi sl Q I rx hs pl pu h
 ·exact xdM pins s σ H x v vl vu lo hi sl Q I rx hs pl pu h
def oY:V→List V→Hp→VK→Prop:=fun x vs H Q=>∃(l:Addr) (xs:List V) (y:V) (k:Nat),x=.ref l∧vs=[.int k,y]∧H l=some (.lst xs)∧xs.length<sizeLine∧k≤xs.length∧Q .non (upd H l (.lst (xs.take k++[y]++xs.drop k)))
theorem xe_ {pins:List (Addr×Obj)}{s:Shared}{σ:St}{H:Hp}{l:Addr}{xs:List V}{y:V}{u2:Value}{Q:VK}(I:Inv X pins σ H s)(hH:H l=some (.lst xs))(hz:xs.length<sizeLine)(ki:Int)(k:Nat)(t1:Tok)(hk1:0≤ki)(hk3:ki≤(xs.length:Int))(hkt:ki.toNat=k)
  (ru:RelV y u2) (q:Q .non (upd H l (.lst (xs.take k++[y]++xs.drop k)))):wpAny (model X.prog X.w) X.A (call (.builtin "list.insert") [.ref l,.int ki t1,u2]) (EP X pins σ Q) X.xe s:=by
 obtain⟨z,its,n,r,hl,e⟩:=I.lstM hH
 have hk2:ki<2 ^ 63:=by
  have:xs.length≤16777216:=z
  omega
 have hfit:¬(!Builtin.List.listFitsIndex ki)=true:=by
  rw[fitsIndex_both (by omega) hk2]
  exact xhZ
 have hsz:its.toArray.size≤sizeLine:=by rw[xjC];omega
 have hk':k≤its.length:=by omega
 refine call_meets F.slot_list_insert ⟨_,e,rfl⟩ F.entry_list_insert (F.args_list_insert_3 _ _ _) (AutoSeq1.list_insert_list_int_val_1 l its.toArray n ki t1 u2 hfit hsz) ⟨e,?_⟩
 refine⟨.non,_,I.lset (its':=its.take k++[u2]++its.drop k) hH e ?_ ((yS.append (r.take k) (.cons ru .nil)).append (r.drop k)) ?_,rfl,q⟩
 ·have e1:(if ki<0 then(ki+(its.toArray.size:Int)).toNat else min ki.toNat its.toArray.size)=k:=by
   rw[if_neg (by omega),hkt,xjC,Nat.min_eq_left hk']
  show((its.toArray.extract 0 (if ki<0 then(ki+(its.toArray.size:Int)).toNat else min ki.toNat its.toArray.size)).push u2++its.toArray.extract (if ki<0 then(ki+(its.toArray.size:Int)).toNat else min ki.toNat its.toArray.size))=_
  rw[e1]
  apply Array.toList_inj.mp
  simp
  exact xjG (by rw[xiY];exact xjK _)
 ·simp only[xiW,xi6,xiY,xi5]
  omega
theorem rZ:MtM X "list.insert" oY:=by
 intro pins s σ H x vs v us Q I rx rv h
 obtain⟨l,xs,y,k,rfl,rfl,hH,hz,hk,q⟩:=h
 cases rx
 obtain⟨u1,u2,rfl,⟨t1,rfl⟩,ru⟩:=vals2 rv
 have hk1:(0:Int)≤(k:Int):=Int.natCast_nonneg k
 have hk3:(k:Int)≤(xs.length:Int):=Int.ofNat_le.mpr hk
 have hkt:(k:Int).toNat=k:=xir k
 generalize (k:Int)=ki at hk1 hk3 hkt ⊢
 exact xe_ I hH hz ki k t1 hk1 hk3 hkt ru q
end
section
variable {K:PySem.W.Frag} {fr:Bool}
def xbS (x y:Tr)(KK:Tr→Prop):Prop:=match x,y with
 | .int i,.int j=>KK (.int (i+j))
 | .lst ts,.lst us=>ts.length+us.length≤sizeLine∧KK (.lst (ts++us))
 | .tup ts,.tup us=>ts.length+us.length≤sizeLine∧KK (.tup (ts++us))
 | _,_=>False
theorem fJ {b:Bool}{ta tb:TE}{da db:DE}(ha:OkE K b ta da)(hb:OkE K b tb db):OkE K b (tOp (xe0 K) ta tb) (d2 xbS da db):=fun B φ σ τ H Q KK R hd q =>
 ha B φ σ τ H _ _ R hd fun t v H1 x1 k1 r1=>hb B φ σ τ H1 _ _ (R.hx x1) k1 fun u w H2 x2 k2 r2=>by
  have r1':=x2.rep (fun a s=>R.sB s) r1
  have x:=x1.trans x2
  replace k2:xbS t u KK:=k2
  unfold xbS at k2
  split at k2
  ·rename_i i j
   cases (show v=.int i from r1');cases (show w=.int j from r2)
   exact .inl ⟨i,j,rfl,rfl,q _ _ H2 x k2 rfl⟩
  ·rename_i ts us
   obtain⟨a,ws,e,n,ha',rl⟩:=r1'
   obtain⟨a2,ws2,e2,n2,ha2,rl2⟩:=r2
   exact .inr (.inl ⟨a,a2,ws,ws2,e,e2,ha',ha2,by rw[←rl.len,←rl2.len];exact k2.1,fun p hp=>q _ _ _ (x.trans (HX.new (R.hx x) hp _)) k2.2 ⟨p,_,rfl,fun z=>(R.hx x).domB z hp,xQ,wD hp (rl.app rl2)⟩⟩)
  ·rename_i ts us
   obtain⟨a,ws,e,n,ha',rl⟩:=id r1'
   obtain⟨a2,ws2,e2,n2,ha2,rl2⟩:=id r2
   refine .inr (.inr ⟨a,a2,ws,ws2,e,e2,SqT.of ha',SqT.of ha2,by rw[←rl.len,←rl2.len];exact k2.1,fun z=>?_,fun _ z=>?_,fun _ _ p hp=>q _ _ _ (x.trans (HX.new (R.hx x) hp _)) k2.2 ⟨p,_,rfl,fun z=>(R.hx x).domB z hp,xQ,wD hp (rl.app rl2)⟩⟩)
   ·have e0:ts=[]:=by
     have:=rl.len;rw[z] at this;exact xiZ.mp this
    subst e0
    rw[←e2];exact q _ _ H2 x k2.2 (by rw[xjr];exact r2)
   ·have e0:us=[]:=by
     have:=rl2.len;rw[z] at this;exact xiZ.mp this
    subst e0
    rw[←e];exact q _ _ H2 x k2.2 (by rw[xiz];exact r1')
  ·exact k2.elim
def xho (x y:Tr)(KK:Tr→Prop):Prop:=match x,y with
 | .int i,.int j=>KK (.bl (decide (i<j)))
 | x,y=>∃ns ms:List Int,x=.tup (ns.map Tr.int)∧y=.tup (ms.map Tr.int)∧KK (.bl (HT.lexLt ns ms))
theorem jh:OpS (xg7 K) xho:=fun F G H x y t u KK Q r1 r2 hf q=>by
 unfold xho at hf
 split at hf
 ·rename_i i j
  cases (show x=.int i from r1);cases (show y=.int j from r2)
  exact .inl ⟨i,j,rfl,rfl,q _ _ rfl hf⟩
 ·obtain⟨ns,ms,rfl,rfl,k⟩:=hf
  obtain⟨a,ws,e,n,ha,rl⟩:=r1
  obtain⟨a2,ws2,e2,n2,ha2,rl2⟩:=r2
  rw[fu rl] at ha
  rw[fu rl2] at ha2
  exact .inr ⟨a,a2,ns,ms,e,e2,SqT.of ha,SqT.of ha2,q _ _ rfl k⟩
theorem oh {F:Addr→Prop}{H:Hp}{ts:List Tr}{ws:List V}{lo hi:Option Int}(r:zo F H ts ws)(h:pZ ws lo hi=ws):j_ ts lo hi=ts:=by
 unfold j_
 unfold pZ at h
 rw[←r.len] at h
 have h1:((ts.drop (HT.sIx ts.length 0 lo)).take (HT.sIx ts.length ts.length hi-HT.sIx ts.length 0 lo)).length=ts.length:=by
  have:=xj0 List.length h
  rw[xi6,xiY] at this ⊢
  rw[←r.len] at this
  exact this
 have h2:HT.sIx ts.length 0 lo=0∨ts.length=0:=by
  rw[xi6,xiY] at h1
  omega
 rcases h2 with h2 | h2
 ·rw[h2,xiF,xjU]
  rw[h2,xi6,xiF,xjU] at h1
  exact xjG (by omega)
 ·have:ts=[]:=xiZ.mp h2
  subst this
  simp
theorem bQ {b:Bool}{te:TE}{tl th:TO}{d:DE}{dl dh:DO}(h:OkE K b te d)(hl:OkO K tl dl)(hh:OkO K th dh):OkE K b (tSl (xhm K) te tl th) (dSl d dl dh):=fun B φ σ τ H Q KK R hd q =>
 h B φ σ τ H _ _ R hd fun t v H1 x1 k1 r1=>hl B φ σ τ H1 _ _ (R.hx x1) k1 fun lo H2 x2 k2=>hh B φ σ τ H2 _ _ (R.hx (x1.trans x2)) k2 fun hi H3 x3 k3=>by
  have r3:=(x2.trans x3).rep (fun a s=>R.sB s) r1
  have x:=(x1.trans x2).trans x3
  cases t with
  | lst ts =>
   obtain⟨a,ws,e,n,ha,rl⟩:=r3
   exact .inl ⟨a,ws,e,SqL.of ha,fun p hp=>q _ _ _ (x.trans (HX.new (R.hx x) hp _)) k3 ⟨p,_,rfl,fun z=>(R.hx x).domB z hp,xQ,wD hp (rl.cut lo hi)⟩⟩
  | tup ts =>
   obtain⟨a,ws,e,n,ha,rl⟩:=id r3
   refine .inr ⟨a,ws,e,SqT.of ha,fun z=>?_,fun p hp=>q _ _ _ (x.trans (HX.new (R.hx x) hp _)) k3 ⟨p,_,rfl,fun z=>(R.hx x).domB z hp,xQ,wD hp (rl.cut lo hi)⟩⟩
   rw[←e]
   exact q _ _ H3 x k3 (by rw[oh rl z];exact r3)
  | _=>exact k3.elim
def xgV (i:Nat)(dk d:DE):DS:=fun G τ=>match nth τ i with
 | .ow ts=>dk τ fun k=>d τ fun t=>∃n:Nat,k=.int n∧n≤ts.length∧ts.length<sizeLine∧G.nx (τ.set i (.ow (ts.take n++[t]++ts.drop n)))
 | _=>False
theorem lN {F:Addr→Prop}{H:Hp}{ts:List Tr}{ws:List V}(n:Nat)(r:zo F H ts ws):zo F H (ts.take n) (ws.take n):=yN.mpr (vd n (yN.mp r))
theorem oN {F:Addr→Prop}{H:Hp}{ts:List Tr}{ws:List V}(n:Nat)(r:zo F H ts ws):zo F H (ts.drop n) (ws.drop n):=yN.mpr (kE n (yN.mp r))
theorem lJ {b:Bool}{i:Nat}{tk te:TE}{dk d:DE}(hk:OkE K b tk dk)(h:OkE K true te d):OkS K fr (pG (tBM K "list" oY (dD i) (wK tk (wK te nu)))) (xgV i dk d):=fun B φ σ τ H E G R hd e=>by
 have en:=R.ent i
 unfold xgV at hd
 revert en hd
 cases hi:nth τ i with
 | ow ts =>
  intro hd ⟨a,ws,e1,e2,e3,e4,r⟩
  refine⟨_,e1,.inl ⟨rfl,_,SqL.of e4⟩,hk B φ σ τ H _ _ R hd fun t0 v0 H0 x0 k0 r0=>h B φ σ τ H0 _ _ (R.hx x0) k0 fun t v H1 x1 k1 r1=>?_⟩
  obtain⟨n,rfl,hn,hz,k1⟩:=k1
  cases (show v0=.int n from r0)
  obtain⟨ws',f4,f5,_⟩:=gu R (x0.trans x1) hi e1
  exact⟨a,ws',v,n,rfl,rfl,f4,by rw[←f5.len];exact hz,by rw[←f5.len];exact hn,e.nx φ σ _ _ ((R.hx (x0.trans x1)).wrOw hi e1 (((lN n f5).app (show zo _ _ [t] [v] from⟨v,[],rfl,r1,rfl⟩)).app (oN n f5))) k1⟩
 | _=>exact fun z _=>z.elim
end
end L2
namespace L2
open PySem PySem.Spec PyProof.Rows
def xea (b:Bool):String:=if b then "tuple_iterator" else "list_iterator"
abbrev za1 (b:Bool)(h:Heap)(a:Addr):Heap:=h.push { cls:=.type (xea b),data:=.fields #[.ref a,.int 0 0] }
abbrev za2 (b c:Bool)(h:Heap)(a d:Addr):Heap:=(za1 b h a).push { cls:=.type (xea c),data:=.fields #[.ref d,.int 0 0] }
abbrev za3 (b c:Bool)(h:Heap)(a d:Addr):Heap:=(za2 b c h a d).push { cls:=.type "tuple", data:=.seq #[.ref h.objs.size,.ref (za1 b h a).objs.size] }
abbrev za4 (b c:Bool)(h:Heap)(a d:Addr):Heap:=(za3 b c h a d).push { cls:=.type "tuple", data:=.seq #[.none,.none] }
abbrev za5 (b c:Bool)(h:Heap)(a d:Addr):Heap:=(za4 b c h a d).push { cls:=.type "zip", data:=.fields #[.none,.bool false,.bool false,.ref (za2 b c h a d).objs.size,.ref (za3 b c h a d).objs.size] }
theorem fN {prog:Program}{w:World}{A:Around}{E:Value→Shared→Prop}{s:Shared}{b:Bool}{a:Addr}{vs:List Value}{Q:Value→Shared→Prop}(h:ou b a vs s.heap)(q:Q (.ref s.heap.objs.size) { s with heap:=za1 b s.heap a }):wpAny (model prog w) A (pyIter (.ref a)) Q E s:=by
 cases b with
 | true=>exact wpAny_pyIter_tuple (show s.heap.IsTuple a vs.toArray from h) q
 | false=>exact wpAny_pyIter_list (show s.heap.IsList a vs.toArray from h) q
theorem xat {b:Bool}{a:Addr}{vs:List Value}{h:Heap}(s:ou b a vs h)(o:Obj):ou b a vs (h.push o):=(ae b 0 a vs).smv _ _ s fun o' e=>Heap.get?_push_of_some _ e
theorem lU (b c:Bool)(a d:Addr)(xs ys:List Value):Meets (Builtin.«zip.__new__» ⟨[.type "zip", .ref a,.ref d],[]⟩) (fun _ R s=>ou b a xs s.heap∧ou c d ys s.heap∧R (.ok (.ret (.ref (za4 b c s.heap a d).objs.size))) { s with heap:=za5 b c s.heap a d }) :=
 .of_wp fun prog w A R s h=>by
  obtain⟨hp,g,dd,tk,os⟩:=s
  obtain⟨ha,hb,h⟩:=h
  have hsub:=sub_zip
  have A1:ou b a xs (Shared.heap ⟨hp,g,dd,tk,os⟩):=ha
  have B1:ou c d ys (Shared.heap ⟨hp.push { cls:=.type (xea b),data:=.fields #[.ref a,.int 0 0] },g,dd,tk,os⟩):=xat hb _
  wp_walk using fN A1,fN B1
  exact⟨_,rfl,h⟩
section
variable {prog:Program} {w:World} {A:Around} {E:Value→Shared→Prop} {s:Shared}
theorem lj {b c:Bool}{a d:Addr}{xs ys:List Value}{Q:Value→Shared→Prop}(ha:ou b a xs s.heap)(hb:ou c d ys s.heap)
  (h:∀g,IsZip g (s.heap.objs.size+4) (s.heap.objs.size+2) (s.heap.objs.size+3) .none→IsPair g (s.heap.objs.size+2) (.ref s.heap.objs.size) (.ref (s.heap.objs.size+1))→IsPair g (s.heap.objs.size+3) .none .none →
   Tn2 b s.heap.objs.size a 0 g→Tn2 c (s.heap.objs.size+1) d 0 g→(∀c o,s.heap.get? c=some o→g.get? c=some o)→Q (.ref (s.heap.objs.size+4)) { s with heap:=g }) :
  wpAny (model prog w) A (call (.type "zip") [.ref a,.ref d]) Q E s:=by
 refine callType_new F.called_zip (by decide) (F.typeCall_zip_2 _ _) (F.newCall_zip_2 _ _) (fun obj=>F.args_object_init_3 obj _ _) F.entry_zip_new (lU b c a d xs ys) ⟨ha,hb,?_⟩
 have n1:(za1 b s.heap a).objs.size=s.heap.objs.size+1:=Heap.size_push ..
 have n2:(za2 b c s.heap a d).objs.size=s.heap.objs.size+2:=by rw[Heap.size_push,n1]
 have n3:(za3 b c s.heap a d).objs.size=s.heap.objs.size+3:=by rw[Heap.size_push,n2]
 have n4:(za4 b c s.heap a d).objs.size=s.heap.objs.size+4:=by rw[Heap.size_push,n3]
 have o5:(za5 b c s.heap a d).get? (za4 b c s.heap a d).objs.size=some _:=Heap.get?_push_size _ rfl
 have o4:(za5 b c s.heap a d).get? (za3 b c s.heap a d).objs.size=some _:=Heap.get?_push_of_some _ (Heap.get?_push_size _ rfl)
 have o3:(za5 b c s.heap a d).get? (za2 b c s.heap a d).objs.size=some _:=Heap.get?_push_of_some _ (Heap.get?_push_of_some _ (Heap.get?_push_size _ rfl))
 have o2:(za5 b c s.heap a d).get? (za1 b s.heap a).objs.size=some _:=Heap.get?_push_of_some _ (Heap.get?_push_of_some _ (Heap.get?_push_of_some _ (Heap.get?_push_size _ rfl)))
 have o1:(za5 b c s.heap a d).get? s.heap.objs.size=some _:=Heap.get?_push_of_some _ (Heap.get?_push_of_some _ (Heap.get?_push_of_some _ (Heap.get?_push_of_some _ (Heap.get?_push_size _ rfl))))
 show _∧_
 rw[n2,n3,n4] at o5
 rw[n1,n2] at o3
 rw[n3] at o4
 rw[n1] at o2
 rw[n4]
 refine⟨⟨_,o5,rfl⟩,h _ o5 o3 o4 ?_ ?_ fun c o g=>Heap.get?_push_of_some _ (Heap.get?_push_of_some _ (Heap.get?_push_of_some _ (Heap.get?_push_of_some _ (Heap.get?_push_of_some _ g))))⟩
 ·cases b with
  | true=>exact⟨_,o1,rfl,rfl⟩
  | false=>exact⟨_,o1,rfl,rfl⟩
 ·cases c with
  | true=>exact⟨_,o2,rfl,rfl⟩
  | false=>exact⟨_,o2,rfl,rfl⟩
end
def xgd (K:PySem.W.Frag)(b c:Bool)(a1 a2:Addr):It :=
 ⟨fun i H=>∃xs ys x y,Sq2 K b H a1 xs∧Sq2 K c H a2 ys∧xs[i]? = some x∧ys[i]? = some y,
  fun i H v H'=>∃x y q,(∀xs,Sq2 K b H a1 xs→xs[i]? = some x)∧(∀ys,Sq2 K c H a2 ys→ys[i]? = some y)∧v=.ref q∧H q=none∧H'=upd H q (.tup [x,y]),
  fun i H=>∃xs ys,Sq2 K b H a1 xs∧Sq2 K c H a2 ys∧(xs.length≤i∨ys.length≤i)⟩
section
variable {P:Program} {w:World} {K:PySem.W.Frag} {z ti to i1 i2 a1 a2:Addr} {b c':Bool}
def ZS2 (b c:Bool)(z ti to i1 i2 a1 a2:Addr)(i:Nat)(h:Heap):Prop:=IsZip h z ti to .none∧IsPair h ti (.ref i1) (.ref i2)∧(∃p q,IsPair h to p q)∧Tn2 b i1 a1 i h∧Tn2 c i2 a2 i h
theorem ly {elts:List Expr}{kk:Nat}{pp:Pos}(D:ZA z ti to i1 i2 a1 a2):Turn P w K (.Tuple elts kk pp) (xgd K b c' a1 a2) [z,ti,to,i1,i2] z (ZS2 b c' z ti to i1 i2 a1 a2) where
 mem:=by simp
 obj:=fun i h st c hc=>by
  obtain⟨s1,s2,⟨p,q,s3⟩,s4,s5⟩:=st
  simp only[xjf,xjv,xj9] at hc
  rcases hc with e | e | e | e | e<;>subst e
  ·exact⟨_,s1,fun v=>by simp⟩
  ·exact⟨_,s2,fun v=>by simp⟩
  ·exact⟨_,s3,fun v=>by simp⟩
  ·exact(ae b _ a1 []).ob _ _ s4
  ·exact(ae c' _ a2 []).ob _ _ s5
 keep:=fun i h h' st k=>by
  obtain⟨s1,s2,⟨p,q,s3⟩,s4,s5⟩:=st
  exact⟨k _ (by simp) _ s1,k _ (by simp) _ s2,⟨p,q,k _ (by simp) _ s3⟩,(ae b i1 a1 []).mv _ _ _ s4 fun o e=>k _ (by simp) o e,(ae c' i2 a2 []).mv _ _ _ s5 fun o e=>k _ (by simp) o e⟩
 item:=by
  intro X hP hw hK hc i pins s σ H E I hf st hg
  subst hP hw hK
  obtain⟨Z,TI,⟨p,q,TO⟩,b1,b2⟩:=st
  obtain⟨xs,ys,x,y,sq1,sq2,hx,hy⟩:=hg
  obtain⟨vs,rv,c1⟩:=I.sq2 sq1
  obtain⟨us,ru,c2⟩:=I.sq2 sq2
  obtain⟨xv,ex,rx⟩:=rv.get hx
  obtain⟨yv,ey,ry⟩:=ru.get hy
  have hT:s.TypeIs (.ref z) "zip" := ⟨_,Z,rfl⟩
  have fr:H s.heap.objs.size=none:=I.hok.fresh (xjK _)
  unfold pyNext
  refine wpAny_bind (wpAny_attempt (wpAny_callSpecial?_slot (name:=Str.ofString "__next__") hT F.slot_zip_next (wpAny_call_entry F.slot_zip_next hT F.entry_zip_next (xaB D (ae b i1 a1 vs) (ae c' i2 a2 us) Z TI TO b1 b2 c1 c2 ex ey fun g Z' TO' b1' b2' T' kp=>?_) (F.args_zip_next_1 _))))
  refine wpAny_pure ⟨_,rfl,wpAny_letOwnedTupleGo_zip Z' fun g2 Z2 S2=>?_⟩
  obtain⟨⟨d1,d2,d3,d4,d5,d6,d7,d8,d9,d10⟩,_⟩:=D
  have ltz:z<s.heap.objs.size:=Heap.lt_size Z
  have kp2:∀c o,c∉[z,ti,to,i1,i2]→s.heap.get? c=some o→g2.get? c=some o:=fun c o hc e=>by
   simp only[xjf,xjv,xj9,not_or] at hc
   exact S2.extBut _ _ hc.1 (kp c o hc.1 hc.2.2.1 hc.2.2.2.1 hc.2.2.2.2 e)
  have TI2:IsPair g2 ti (.ref i1) (.ref i2):=S2.extBut _ _ d1 (kp _ _ d1 d5 d6 d7 TI)
  have T2:IsPair g2 s.heap.objs.size xv yv:=S2.extBut _ _ (xjS ltz) T'
  have st2:ZS2 b c' z ti to i1 i2 a1 a2 (i+1) g2:=⟨Z2,TI2,⟨_,_,S2.extBut _ _ d2 TO'⟩,(ae b i1 a1 vs).mv _ _ _ b1' fun o=>S2.extBut _ o d3,(ae c' i2 a2 us).mv _ _ _ b2' fun o=>S2.extBut _ o d4⟩
  have nfp:∀c u,H c=some u→c∉[z,ti,to,i1,i2]:=fun c u e hm=>by rw[(hf c hm).1] at e;cases e
  have nT:∀c o,s.heap.get? c=some o→c≠s.heap.objs.size:=fun c o e=>xjT (Heap.lt_size e)
  refine⟨.ref s.heap.objs.size,upd H s.heap.objs.size (.tup [x,y]),?_,rfl,⟨x,y,_,fun xs' h'=>by rw[←I.sq2_inj sq1 h'];exact hx,fun ys' h'=>by rw[←I.sq2_inj sq2 h'];exact hy,rfl,fr,rfl⟩,st2,fun c hm=>?_⟩
  ·show Inv X pins σ (upd H s.heap.objs.size (.tup [x,y])) { s with heap:=g2,gens:=s.gens,drawn:=s.drawn,toks:=s.toks }
   refine Inv.step (s:=s) (g':=s.gens) (d':=s.drawn) (t':=s.toks) (ch:=[z,ti,to,i1,i2]) I (fun c hm=>?_) (fun c o _ _ hm e _=>kp2 c o hm e) (fun c o _ _ hm e _=>⟨o.slots,kp2 c o hm e⟩) (fun c o hm e n=>by rw[xN (nT c o e)];exact n) (fun c o hm e=>⟨o,kp2 c o hm e⟩)
    (fun c zs e=>by rw[xN (xw e fr)];exact e) (fun c o u e=>by rw[xN (xw e fr)];exact e) (fun c ps e=>⟨#[],by rw[xN (xw e fr),e];simp⟩) (fun m hm=>?_) (fun c u e=>?_) I.bare
   ·obtain⟨_,f1,_,f3,f4,f5⟩:=hf c hm
    exact⟨f3,f1,f4,f5⟩
   ·obtain⟨o,es,ep,ho,r⟩:=hm
    exact⟨o,es,ep,kp2 _ o (fun z'=>(hf _ z').2.1 rfl) ho,r⟩
   ·by_cases hc':c=s.heap.objs.size
    ·subst hc'
     rw[xQ] at e
     cases e
     exact⟨by show 2≤sizeLine;decide,[xv,yv],.cons rx (.cons ry .nil),_,T2,rfl,0,rfl⟩
    ·rw[xN hc'] at e
     refine(I.hok c u e).stay (fun c' v hcc q'=>kp2 c' v ?_ q') (fun c' q'=>by rw[xN (xw q' fr)];exact q') (fun c' zs q'=>by rw[xN (xw q' fr)];exact q') fun c' o u q'=>by rw[xN (xw q' fr)];exact q'
     rcases hcc with rfl | hcc
     ·exact nfp _ _ e
     ·exact nfp _ _ hcc
  ·rw[xN]
   ·exact(hf c hm).1
   ·simp only[xjf,xjv,xj9] at hm
    rcases hm with e | e | e | e | e<;>subst e
    ·exact nT _ _ Z
    ·exact nT _ _ TI
    ·exact nT _ _ TO
    ·obtain⟨o,e,_⟩:=(ae b _ a1 []).ob _ _ b1;exact nT _ _ e
    ·obtain⟨o,e,_⟩:=(ae c' _ a2 []).ob _ _ b2;exact nT _ _ e
 done:=by
  intro X hP hw hK hc i pins s σ H E I hf st hg
  subst hP hw hK
  obtain⟨Z,TI,⟨p,q,TO⟩,b1,b2⟩:=st
  obtain⟨xs,ys,sq1,sq2,hend⟩:=hg
  obtain⟨vs,rv,c1⟩:=I.sq2 sq1
  obtain⟨us,ru,c2⟩:=I.sq2 sq2
  have hT:s.TypeIs (.ref z) "zip" := ⟨_,Z,rfl⟩
  have he:vs[i]? = none∨us[i]? = none:=hend.imp (fun h=>List.getElem?_eq_none_iff.mpr (by rw[←rv.length];exact h)) (fun h=>List.getElem?_eq_none_iff.mpr (by rw[←ru.length];exact h))
  unfold pyNext
  refine wpAny_bind (wpAny_attempt (wpAny_callSpecial?_slot (name:=Str.ofString "__next__") hT F.slot_zip_next (wpAny_call_entry F.slot_zip_next hT F.entry_zip_next (xa9 (I.ok.hd hc) D (ae b i1 a1 vs) (ae c' i2 a2 us) Z TI TO b1 b2 c1 c2 he fun g e kp ho=>?_) (F.args_zip_next_1 _))))
  obtain⟨o,ho,hcl⟩:=ho
  refine wpAny_bind (wpAny_isInstance (T := "StopIteration") (b:=true) ⟨o,ho,hcl⟩ isSubtype_stop (wpAny_pure ⟨rfl,?_⟩))
  have kp2:∀c o,c∉[z,ti,to,i1,i2]→s.heap.get? c=some o→g.get? c=some o:=fun c o hc e=>by
   simp only[xjf,xjv,xj9,not_or] at hc
   exact kp c o hc.1 hc.2.2.1 hc.2.2.2.1 hc.2.2.2.2 e
  have nfp:∀c u,H c=some u→c∉[z,ti,to,i1,i2]:=fun c u e hm=>by rw[(hf c hm).1] at e;cases e
  refine Inv.step (s:=s) (g':=s.gens) (d':=s.drawn) (t':=s.toks) (ch:=[z,ti,to,i1,i2]) I (fun c hm=>?_) (fun c o _ _ hm e _=>kp2 c o hm e) (fun c o _ _ hm e _=>⟨o.slots,kp2 c o hm e⟩) (fun c o hm e n=>n) (fun c o hm e=>⟨o,kp2 c o hm e⟩)
   (fun c zs e=>e) (fun c o u e=>e) (fun c ps e=>⟨#[],by rw[e];simp⟩) (fun m hm=>?_) (fun c u e=>?_) I.bare
  ·obtain⟨_,f1,_,f3,f4,f5⟩:=hf c hm
   exact⟨f3,f1,f4,f5⟩
  ·obtain⟨o,es,ep,ho,r⟩:=hm
   exact⟨o,es,ep,kp2 _ o (fun z'=>(hf _ z').2.1 rfl) ho,r⟩
  ·refine(I.hok c u e).stay (fun c' v hcc q'=>kp2 c' v ?_ q') (fun _ q'=>q') (fun _ _ q'=>q') fun _ _ _ q'=>q'
   rcases hcc with rfl | hcc
   ·exact nfp _ _ e
   ·exact nfp _ _ hcc
 self:=fun A i s Q E st h=>wpAny_pyIter_zip st.1 h
end
def xeR (K:PySem.W.Frag)(ta:TA):TI:=fun σ H R=>ta σ H fun vs H1=>∃(b c:Bool) (a1 a2:Addr) (xs ys:List V),vs=[.ref a1,.ref a2]∧Sq2 K b H1 a1 xs∧Sq2 K c H1 a2 ys∧R (xgd K b c a1 a2) H1
section
variable {X:Cx}
theorem lq (K:PySem.W.Frag){elts:List Expr}{kk:Nat}{pp:Pos}{a b:Expr}{ta:TA}{p pos:Pos}(hg:Gl X "zip")(hm:X.mg "zip" = none)(ha:PA X [a,b] ta)(hs:starEach [a,b] X.env=[(false,eval a X.env),(false,eval b X.env)]:=by rfl)(hs2:starEach [b] X.env=[(false,eval b X.env)]:=by rfl)(eK:X.K=K:=by rfl) :
  PI X (.Tuple elts kk pp) (.Call (.Name "zip" p) [a,b] [] pos) (xeR K ta):=by
 subst eK
 intro pins s σ H R I h
 refine Call_ (dq I hg hm xfM (PyProof.Rows.callWith_type1 (thn (@ha pos pins s σ H _ I h) fun us s1 ⟨vs,H1,I1,r1,q1⟩=>?_) (by rw[hs,hs2]) (by rw[hs2];rfl)))
 obtain⟨bb,cc,a1,a2,xs,ys,e,sq1,sq2,q⟩:=q1
 subst e
 obtain⟨u1,u2,rfl,e1,e2⟩:=vals2 r1
 obtain rfl:u1=Value.ref a1:=e1
 obtain rfl:u2=Value.ref a2:=e2
 obtain⟨vs,rv,c1⟩:=I1.sq2 sq1
 obtain⟨us,ru,c2⟩:=I1.sq2 sq2
 have fp:∀k:Nat,fW X pins H1 (s1.heap.objs.size+k):=fun k=>I1.fpOk (xjI _ _) (I1.hok.fresh (xjI _ _))
 have lt:∀(b:Bool) (a:Addr) (vs:List Value),ou b a vs s1.heap→a<s1.heap.objs.size:=fun b a vs h=>by
  cases b with
  | true=>obtain⟨o,e,_⟩:=(show s1.heap.IsTuple a vs.toArray from h);exact Heap.lt_size e
  | false=>obtain⟨o,e,_⟩:=(show s1.heap.IsList a vs.toArray from h);exact Heap.lt_size e
 refine lj c1 c2 ?_
 intro g z1 z2 z3 z4 z5 kp
 have st:ZS2 bb cc (s1.heap.objs.size+4) (s1.heap.objs.size+2) (s1.heap.objs.size+3) s1.heap.objs.size (s1.heap.objs.size+1) a1 a2 0 g:=⟨z1,z2,⟨_,_,z3⟩,z4,z5⟩
 refine wpAny_pyIter_zip st.1 ⟨_,_,_,_,H1,rfl,I1.kept (t':=s1.toks) kp,ly (xfU (lt _ _ _ c1) (lt _ _ _ c2)),st,fun c hc=>?_,q⟩
 simp only[xjf,xjv,xj9] at hc
 rcases hc with e | e | e | e | e<;>subst e
 ·exact fp 4
 ·exact fp 2
 ·exact fp 3
 ·exact fp 0
 ·exact fp 1
end
def pj:List Tr→List Tr→List Tr
 | t::ts,u::us=>.tup [t,u]::pj ts us
 | _,_=>[]
theorem sO:∀(ts us:List Tr),(pj ts us).length=min ts.length us.length
 | [],_=>by simp[pj]
 | _::_,[]=>by simp[pj]
 | _::ts,_::us=>by simp only[pj,xiX,sO ts us];omega
theorem cf:∀ {ts us:List Tr} {i:Nat} {t u:Tr},ts[i]? = some t→us[i]? = some u→(pj ts us)[i]? = some (.tup [t,u])
 | [],_,_,_,_,h,_=>by simp at h
 | _::_,[],_,_,_,_,h=>by simp at h
 | _::_,_::_,0,_,_,h,h'=>by simp at h h';subst h h';rfl
 | _::ts,_::us,i+1,t,u,h,h'=>by
  show(pj ts us)[i]? = _
  exact cf (by simpa using h) (by simpa using h')
def sqT (b:Bool)(ts:List Tr):Tr:=if b then .tup ts else .lst ts
section
variable {K:PySem.W.Frag}
theorem vP {F:Addr→Prop}{H:Hp}{b:Bool}{ts:List Tr}{a:Addr}(h:Rep F H (sqT b ts) (.ref a)):∃ws,Sq2 K b H a ws∧zo F H ts ws:=by
 cases b with
 | true =>
  obtain⟨a',ws,e,n,h,r⟩:=(show Rep F H (.tup ts) (.ref a) from h)
  cases e
  exact⟨ws,SqT.of h,r⟩
 | false =>
  obtain⟨a',ws,e,n,h,r⟩:=(show Rep F H (.lst ts) (.ref a) from h)
  cases e
  exact⟨ws,SqL.of h,r⟩
theorem xaY {b c:Bool}{a1 a2:Addr}{ts us:List Tr}:ItL (xgd K b c a1 a2) (pj ts us) [(sqT b ts,.ref a1),(sqT c us,.ref a2)] where
 go:=fun F H i s hi=>by
  obtain⟨ws,h1,r1⟩:=vP (K:=K) (s _ xjh)
  obtain⟨ws2,h2,r2⟩:=vP (K:=K) (s _ (xjg _ xjh))
  rw[sO] at hi
  obtain⟨w,e1,_⟩:=r1.getT (xiP (i:=i) (by omega))
  obtain⟨w2,e2,_⟩:=r2.getT (xiP (i:=i) (by omega))
  exact⟨ws,ws2,w,w2,h1,h2,e1,e2⟩
 stop:=fun F H s=>by
  obtain⟨ws,h1,r1⟩:=vP (K:=K) (s _ xjh)
  obtain⟨ws2,h2,r2⟩:=vP (K:=K) (s _ (xjg _ xjh))
  refine⟨ws,ws2,h1,h2,?_⟩
  rw[sO,←r1.len,←r2.len];omega
 yld:=fun F i H x H' s d hi y=>by
  obtain⟨ws,h1,r1⟩:=vP (K:=K) (s _ xjh)
  obtain⟨ws2,h2,r2⟩:=vP (K:=K) (s _ (xjg _ xjh))
  obtain⟨v,v2,q,hv,hv2,rfl,hq,rfl⟩:=y
  obtain⟨t,e1,g1⟩:=r1.get (hv ws h1)
  obtain⟨u,e2,g2⟩:=r2.get (hv2 ws2 h2)
  exact⟨.inr ⟨q,_,hq,rfl⟩,.tup [t,u],cf e1 e2,q,_,rfl,fun z=>d q z hq,xQ,⟨_,_,rfl,fj hq g1,_,_,rfl,fj hq g2,rfl⟩⟩
def xgx:Tr→Option (Bool×List Tr)
 | .tup ts=>some (true,ts)
 | .lst ts=>some (false,ts)
 | _=>none
def xgr (d:DA):DI:=fun τ KK=>d τ fun xs=>match xs with
 | [x,y]=>(match xgx x,xgx y with | some p,some q=>KK (pj p.2 q.2) | _,_=>False)
 | _=>False
theorem t_ {x:Tr}{p:Bool×List Tr}(h:xgx x=some p):x=sqT p.1 p.2:=by
 cases x with
 | tup ts=>cases h;rfl
 | lst ts=>cases h;rfl
 | _=>cases h
theorem oO {F:Addr→Prop}{H:Hp}{b:Bool}{ts:List Tr}{v:V}(h:Rep F H (sqT b ts) v):∃a,v=.ref a:=by
 cases b with
 | true=>obtain⟨a,ws,e,_⟩:=(show Rep F H (.tup ts) v from h);exact⟨a,e⟩
 | false=>obtain⟨a,ws,e,_⟩:=(show Rep F H (.lst ts) v from h);exact⟨a,e⟩
theorem bR {b:Bool}{n:Nat}{ta:TA}{da:DA}(h:OkA K b n ta da):OkI K b (xeR K ta) (xgr da):=fun B φ σ τ H R KK Rs hd q =>
 h B φ σ τ H _ _ Rs hd fun ts vs H1 x1 k1 l1 r1=>by
  split at k1
  ·rename_i x y
   split at k1
   ·rename_i p p' e1 e2
    obtain⟨v,w,rfl,g1,g2⟩:=xbI r1
    rw[t_ e1] at g1
    rw[t_ e2] at g2
    obtain⟨a1,rfl⟩:=oO g1
    obtain⟨a2,rfl⟩:=oO g2
    obtain⟨ws,s1,_⟩:=vP (K:=K) g1
    obtain⟨ws2,s2,_⟩:=vP (K:=K) g2
    refine⟨p.1,p'.1,a1,a2,ws,ws2,rfl,s1,s2,q _ _ _ H1 x1 k1 xaY fun z hz=>?_⟩
    simp only[xjf,xjv,xj9] at hz
    rcases hz with rfl | rfl
    ·exact g1
    ·exact g2
   ·exact k1.elim
  ·exact k1.elim
end
end L2
namespace L2
open PySem PySem.Spec PyProof.Rows
theorem wq {X:Cx}(K:PySem.W.Frag)(e:X.K=K:=by rfl):IxR X (rIx K):=e▸xeK
end L2
namespace L2
open PySem PySem.Spec PyProof.Rows
theorem nZ {dg:DG}{body:DS}{G:fe}(W:List Tr→TSt→Prop)(h0:∀ τ,W [] τ→G.nx τ)
  (h1:∀x xs τ (N:TSt→Prop),W (x::xs) τ→(∀ τ',W xs τ'→N τ')→dg x τ fun τ'=>body { G with nx:=N,ct:=N,bk:=G.nx } τ'):∀xs τ,W xs τ→xbr dg body G xs τ
 | [],τ,w=>h0 τ w
 | x::xs,τ,w=>h1 x xs τ (xbr dg body G xs) w (nZ W h0 h1 xs)
theorem wx {dg:DG}{body:DS}{G:fe}{all:List Tr}{τ:TSt}(W:Nat→TSt→Prop)(w0:W 0 τ)
  (h1:∀i x τ (N:TSt→Prop),all[i]? = some x→W i τ→(∀ τ',W (i+1) τ'→N τ')→dg x τ fun τ'=>body { G with nx:=N,ct:=N,bk:=G.nx } τ')
  (h0:∀ τ,W all.length τ→G.nx τ):xbr dg body G all τ:=by
 refine nZ (fun xs τ=>∃i,xs=all.drop i∧i≤all.length∧W i τ) (fun τ ⟨i,e,hi,w⟩=>h0 τ ?_) (fun x xs τ N ⟨i,e,hi,w⟩ hN=>?_) all τ ⟨0,rfl,xjW _,w0⟩
 ·have:all.length≤i:=by
   have:=xj0 List.length e
   rw[xiY] at this
   simp at this
   omega
  have:i=all.length:=by omega
  rw[←this];exact w
 ·have hlt:i<all.length:=by
   have:=xj0 List.length e
   rw[xiY] at this
   simp at this
   omega
  rw[xiD hlt] at e
  injection e with e1 e2
  exact h1 i x τ N (by rw[e1];exact xiP hlt) w fun τ' w'=>hN τ' ⟨i+1,e2,hlt,w'⟩
theorem cV {c:DT}{body:DS}{G:fe}(W:Nat→TSt→Prop)
  (h:∀n τ (N:TSt→Prop),W n τ→(∀m τ',m<n→W m τ'→N τ')→c τ fun b=>if b=true then body { G with nx:=N,ct:=N,bk:=G.nx } τ else G.nx τ):∀k n τ,n<k→W n τ→xc7 c body G k τ
 | 0,_,_,hk,_=>absurd hk (by omega)
 | k+1,n,τ,hk,w=>h n τ (xc7 c body G k) w fun m τ' hm w'=>cV W h k m τ' (by omega) w'
theorem fC {c:DT}{body:DS}{G:fe}{τ:TSt}(W:Nat→TSt→Prop)(n:Nat)(w0:W n τ)
  (h:∀n τ (N:TSt→Prop),W n τ→(∀m τ',m<n→W m τ'→N τ')→c τ fun b=>if b=true then body { G with nx:=N,ct:=N,bk:=G.nx } τ else G.nx τ):xcN c body G τ :=
 ⟨n+1,cV W h (n+1) n τ (xjR n) w0⟩
theorem gD {dg:DG}{dc:DT}{de:DE}{τi:TSt}{KK:List Tr→Prop}(W:List Tr→List Tr→Prop)(h0:∀acc,W [] acc→KK acc)
  (h1:∀x xs acc (N:List Tr→Prop),W (x::xs) acc→(∀acc',W xs acc'→N acc')→dg x τi fun τ2=>dc τ2 fun b=>if b=true then de τ2 fun y=>N (acc++[y]) else N acc):∀xs acc,W xs acc→nI dg dc de τi KK xs acc
 | [],acc,w=>h0 acc w
 | x::xs,acc,w=>h1 x xs acc (nI dg dc de τi KK xs) w (gD W h0 h1 xs)
theorem qI {dg:DG}{de:DE}{τi:TSt}{KK:List Tr→Prop}{xs:List Tr}(g:Tr→Tr)(h1:∀x∈xs,∀N:Tr→Prop,N (g x)→dg x τi fun τ2=>de τ2 N)(h0:KK (xs.map g)):nI dg xaM de τi KK xs []:=by
 refine gD (fun ys acc=>∃zs,xs=zs++ys∧acc=zs.map g) (fun acc ⟨zs,e,e2⟩=>?_) (fun x ys acc N ⟨zs,e,e2⟩ hN=>?_) xs [] ⟨[],rfl,rfl⟩
 ·rw[xiz] at e
  subst e e2
  exact h0
 ·subst e2
  have hx:x∈xs:=by rw[e];simp
  exact h1 x hx (fun y=>N (zs.map g++[y])) (hN _ ⟨zs++[x],by rw[e];simp,by simp⟩)
theorem uH {α:Type}{f:α→Tr}{l:List α}{i:Nat}{t:Tr}(h:(l.map f)[i]? = some t):∃x,l[i]? = some x∧t=f x:=by
 rw[xiS] at h
 cases e:l[i]? with
 | none=>rw[e] at h;cases h
 | some x=>rw[e] at h;cases h;exact⟨x,rfl,rfl⟩
theorem fi {α:Type}(ts:List α)(n:Nat):atT ts (n:Int)=ts[n]?:=fH ts n
theorem xcO {α:Type}{ts:List α}{k:Int}(h0:0≤k):atT ts k=ts[k.toNat]?:=by
 obtain⟨n,rfl⟩:∃n:Nat,k=(n:Int):=⟨k.toNat,by omega⟩
 rw[fi];simp
theorem cK {α:Type}(ts:List α)(t:α):atT (ts++[t]) (-1)=some t:=by
 rw[xcX];exact xbq ts t
theorem sqz {n:Nat}(h:n≤1000000):n<sizeLine:=xjO h (by decide)
theorem xcF {n:Nat}(h:n≤1000000):n≤sizeLine:=xjJ (sqz h)
theorem uu {a b:Int}(h:0≤b):a.fdiv b=a / b:=Int.fdiv_eq_ediv_of_nonneg a h
theorem xbw {a b:Int}(h:0≤b):a.fmod b=a % b:=Int.fmod_eq_emod_of_nonneg a h
end L2
namespace L2
open PySem PySem.Spec PyProof.Rows
section
variable {prog:Program} {w:World} {A:Around} {E:Value→Shared→Prop} {s:Shared}
theorem tV {it t:Addr}{items:Array Value}(hne:t≠it):∀(n i:Nat) (s:Shared) (Q:List Value→Shared→Prop),s.heap.IsListIter it t i→s.heap.IsList t items→i+n≤items.size →
  (∀h',h'.IsListIter it t (i+n)→Heap.SameBut it s.heap h'→Q ((items.toList.drop i).take n) { s with heap:=h' })→wpAny (model prog w) A (draw (.ref it) n) Q E s
 | 0,i,s,Q,hit,_,_,hQ=>by
  show wpAny _ _ (pure []) Q E s
  exact wpAny_pure (by simpa using hQ s.heap hit (Heap.SameBut.refl ..))
 | n+1,i,s,Q,hit,ht,hle,hQ=>by
  have hlt:i<items.size:=by omega
  show wpAny _ _ (pyNext (.ref it) >>= _) Q E s
  refine wpAny_bind (wpAny_pyNext_list_item hit ht (x:=items[i]) (by simp[hlt]) fun h₁ hit₁ hs₁=>?_)
  refine wpAny_bind (wpAny_holding (tV hne n (i+1) _ _ hit₁ (ht.extBut hs₁.extBut hne) (by omega) fun h₂ hit₂ hs₂=>wpAny_pure ?_))
  have hd:items.toList.drop i=items[i]::items.toList.drop (i+1):=by simp[xiD,hlt]
  have:=hQ h₂ (by rw[show i+(n+1)=i+1+n by omega];exact hit₂) (hs₁.trans hs₂)
  rw[hd,List.take_succ_cons] at this
  exact this
theorem hZ {t:Addr}{items:Array Value}{Q:List Value→Shared→Prop}(hh:A.handled=none)(ht:s.heap.IsList t items)
  (hQ:∀h',Heap.ExtBut s.heap.objs.size s.heap h'→Q items.toList { s with heap:=h' }):wpAny (model prog w) A (unpackItems (.ref t) items.size none) Q E s:=by
 have hlt:t≠s.heap.objs.size:=by obtain⟨o,ho,_⟩:=ht;exact xjT (Heap.lt_size ho)
 unfold unpackItems
 refine wpAny_bind ?_
 ·unfold notIterableAtAll
  refine wpAny_bind (wpAny_specialOf ht.typeIs slot_list_iter.lookup ?_)
  refine wpAny_pure ?_
  simp only[Bool.false_eq_true,xj6]
  refine wpAny_bind (wpAny_holding (wpAny_pyIter_list ht ?_))
  refine wpAny_bind (wpAny_holding (tV hlt items.size 0 _ _ ⟨_,Heap.get?_push_size _ rfl,rfl,rfl⟩ (ht.push _) (by omega) fun h₁ hit₁ hs₁=>?_))
  have hall:List.take items.size (List.drop 0 items.toList)=items.toList:=by
   rw[xiF];exact xjG (by simp)
  rw[hall]
  rw[if_neg (by simp)]
  have ht₁:h₁.IsList t items:=(ht.push _).extBut hs₁.extBut hlt
  refine wpAny_bind (wpAny_holding (wpAny_pyNext_list_end hh hit₁ ht₁ (by simp) fun h₂ he₂=>?_))
  simp only[Option.isSome_none,Bool.false_eq_true,xj6]
  refine wpAny_pure (hQ h₂ fun b o hb e=>he₂ b o hb (hs₁.extBut b o hb (Heap.get?_push_of_some _ e)))
theorem nE {t:Addr}{items:Array Value}{targets:List (Bool×(Value→Sem Unit))}{Q:Unit→Shared→Prop}(hh:A.handled=none)(ht:s.heap.IsList t items)
  (hn:targets.length=items.size) (hstar:targets.findIdx? (·.1)=none)
  (h:∀h',Heap.ExtBut s.heap.objs.size s.heap h'→wpAny (model prog w) A (assignInOrder (targets.map (·.2)) items.toList) Q E { s with heap:=h' }) :
  wpAny (model prog w) A (unpack (.ref t) targets) Q E s:=by
 unfold unpack
 rw[hn,hstar]
 exact wpAny_bind (wpAny_holding (hZ hh ht h))
theorem jG {env:Env}{elts:List Expr}{x1}{pos:Pos}{t:Addr}{items:Array Value}{Q:Unit→Shared→Prop}(hh:A.handled=none)(ht:s.heap.IsList t items)
  (hn:(assignEach elts env).length=items.size) (hstar:(assignEach elts env).findIdx? (·.1)=none)
  (h:∀h',Heap.ExtBut s.heap.objs.size s.heap h'→wpAny (model prog w) A (assignInOrder ((assignEach elts env).map (·.2)) items.toList) Q E { s with heap:=h' }) :
  wpAny (model prog w) A (assign (.Tuple elts x1 pos) env (.ref t)) Q E s:=by
 rw[assign_Tuple]
 exact wpAny_bind (wpAny_standAt (nE hh ht hn hstar h))
end
def xgY (K:PySem.W.Frag)(n:Nat)(t:TGs):TG:=fun v σ H Q=>∃a xs,v=.ref a∧SqL K H a xs∧xs.length=n∧t xs σ H Q
section
variable {X:Cx}
theorem xdK (K:PySem.W.Frag){pos:Pos}{es:List Expr}{k:Nat}{t:TGs}{n:Nat}(hc:X.calm=true)(h:PGs X es t)
  (hn:(assignEach es X.env).length=n:=by rfl) (hst:(assignEach es X.env).findIdx? (·.1)=none:=by rfl) (e:X.K=K:=by rfl):PG X (.Tuple es k pos) (xgY K n t):=by
 subst e
 intro pins s σ H v u Q I r hw
 obtain⟨a,xs,e1,hq,hl,hw⟩:=hw
 subst e1
 cases r
 obtain⟨its,rv,⟨o,m,ho,hcl,hd,hs⟩,hz⟩:=I.list hq
 refine jG (I.ok.hd hc) (items:=its.toArray) ⟨o,ho,hcl,m,hs⟩ (by simp[hn,←hl,rv.length]) hst fun h' hx=>?_
 have I1:Inv X pins σ H { s with heap:=h' }:=I.kept (t':=s.toks) fun b o e=>hx b o (xjT (Heap.lt_size e)) e
 exact @h pins _ σ H xs _ Q I1 (by simpa using rv) hw
end
section
variable {K:PySem.W.Frag}
def xhz (n:Nat)(d:DGs):DG:=fun t τ KK=>match t with | .lst ts=>ts.length=n∧d ts τ KK | _=>False
theorem xdD {n:Nat}{gs:TGs}{ds:DGs}(h:xe4 K gs ds):OkN K (xgY K n gs) (xhz n ds):=fun B φ σ τ H F t v Q KK R hF r hd q=>by
 cases t with
 | lst ts =>
  obtain⟨a,ws,e,n,ha,rl⟩:=r
  exact⟨a,ws,e,SqL.of ha,by rw[←rl.len];exact hd.1,h B φ σ τ H F ts ws Q KK R hF rl hd.2 q⟩
 | _=>exact hd.elim
def xez (i:Nat)(db:DE):DE:=fun τ KK=>match nth τ i with | .ow ts=>db τ fun y=>xgf (.lst ts) y KK | _=>False
theorem c8 {i:Nat}{tb:TE}{db:DE}(hb:OkE K true tb db):OkF K (tOp xfZ (dD i) tb) (xez i db):=fun B φ σ τ H Q KK R hd q=>by
 have en:=R.ent i
 unfold xez at hd
 revert en hd
 cases hi:nth τ i with
 | ow ts =>
  intro hd ⟨a,ws,e1,e2,e3,e4,r⟩
  refine⟨_,e1,hb B φ σ τ H _ _ R hd fun u w H2 x2 k2 r2=>?_⟩
  obtain⟨ws',e4',r',_⟩:=gu R x2 hi e1
  cases u with
  | lst us =>
   obtain⟨a2,ws2,e2,n2,ha2,rl2⟩:=r2
   exact⟨a,a2,ws',ws2,rfl,e2,e4',ha2,by rw[←r'.len,←rl2.len];exact k2.1,fun p hp=>q _ _ _ _ (x2.trans (HX.new (R.hx x2) hp _)) k2.2 (x2.none hp) xQ (uB hp (r'.app rl2))⟩
  | _=>exact k2.elim
 | _=>exact fun z _=>z.elim
end
theorem xZ {b:Bool}{A B:Prop}(h1:b=true→A)(h0:b=false→B):if b=true then A else B:=by
 cases b with
 | true=>exact om (h1 rfl)
 | false=>exact nJ (h0 rfl)
end L2
namespace Pol
abbrev R3:=Int×Int×Int
def val (r p:R3):Int:=r.1*p.1+r.2.1*p.2.1-r.2.2*p.2.2
def det (u v w:R3):Int:=u.1*(v.2.1*w.2.2-v.2.2*w.2.1)-u.2.1*(v.1*w.2.2-v.2.2*w.1)+u.2.2*(v.1*w.2.1-v.2.1*w.1)
def add (u v:R3):R3:=(u.1+v.1,u.2.1+v.2.1,u.2.2+v.2.2)
def mul (k:Int)(u:R3):R3:=(k*u.1,k*u.2.1,k*u.2.2)
theorem ext3 {u v:R3}(h1:u.1=v.1)(h2:u.2.1=v.2.1)(h3:u.2.2=v.2.2):u=v:=Prod.ext h1 (Prod.ext h2 h3)
theorem val_add (r p q:R3):val r (add p q)=val r p+val r q:=by simp only[val,add];grind
theorem val_mul (r p:R3)(k:Int):val r (mul k p)=k*val r p:=by simp only[val,mul];grind
theorem wk (u v w:R3):det u v w=det v w u:=by simp only[det];grind
theorem bz (u v w:R3):det u w v = - det u v w:=by simp only[det];grind
theorem vb (u v:R3):det u v v=0:=by simp only[det];grind
theorem qD (u v:R3):det u u v=0:=by simp only[det];grind
theorem vM (u v:R3):det u v u=0:=by simp only[det];grind
theorem sX (u v p q:R3):det u v (add p q)=det u v p+det u v q:=by simp only[det,add];grind
theorem vD (u v p:R3)(k:Int):det u v (mul k p)=k*det u v p:=by simp only[det,mul];grind
theorem four (r a b c d:R3):det b c d*val r a+det a b d*val r c=det a c d*val r b+det a b c*val r d:=by simp only[det,val];grind
theorem xcM (u v w p:R3):mul (det u v w) p=add (mul (det p v w) u) (add (mul (det u p w) v) (mul (det u v p) w)):=by
 apply ext3<;>simp only[det,mul,add]<;>grind
theorem xb1 (r u w z p:R3)(hu:val r u=0)(hw:val r w=0):val r p*det u w z=val r z*det u w p:=by
 have h:=xj0 (val r) (xcM u w z p)
 rw[val_mul,val_add,val_add,val_mul,val_mul,val_mul,hu,hw] at h
 rw[xif (val r p)]
 rw[h];grind
theorem pp {a b:Int}(h:0<a)(k:0<b):0<a*b:=xio h k
theorem pz {a b:Int}(h:0≤a)(k:0≤b):0≤a*b:=Int.mul_nonneg h k
theorem pn {a b:Int}(h:0≤a)(k:b≤0):a*b≤0:=Int.mul_nonpos_of_nonneg_of_nonpos h k
theorem np {a b:Int}(h:a≤0)(k:0≤b):a*b≤0:=Int.mul_nonpos_of_nonpos_of_nonneg h k
theorem nn {a b:Int}(h:a≤0)(k:b≤0):0≤a*b:=Int.mul_nonneg_of_nonpos_of_nonpos h k
theorem wc {a b:Int}(h:0<a)(k:0<a*b):0<b:=by
 rcases xid 0 b with z | z
 ·exact z
 ·have:=pn (xh_ h) z;omega
theorem zz {a b:Int}(h:0<a)(k:0≤a*b):0≤b:=by
 rcases xid b 0 with z | z
 ·have:=xin h z;omega
 ·exact z
theorem tH {a b:Int}(h:0<a)(k:a*b≤0):b≤0:=by
 rcases xid 0 b with z | z
 ·have:=pp h z;omega
 ·exact z
theorem dO {a b:Int}(h:0<a)(k:a*b=0):b=0:=(xii.mp k).resolve_left (by omega)
inductive Cn (l:List R3):R3→Prop
 | zero:Cn l (0,0,0)
 | mem {v}:v∈l→Cn l v
 | add {p q}:Cn l p→Cn l q→Cn l (add p q)
theorem Cn.nsmul {l:List R3}{p:R3}(h:Cn l p):∀k:Nat,Cn l (mul k p)
 | 0=>by
  have:mul ((0:Nat):Int) p=(0,0,0):=by apply ext3<;>simp[mul]
  rw[this];exact .zero
 | k+1=>by
  have:mul ((k+1:Nat):Int) p=Pol.add (mul k p) p:=by apply ext3<;>simp only[mul,Pol.add]<;>grind
  rw[this];exact(h.nsmul k).add h
theorem Cn.smul {l:List R3}{p:R3}(h:Cn l p){k:Int}(hk:0≤k):Cn l (mul k p):=by
 have:=h.nsmul k.toNat
 rwa [xis hk] at this
theorem Cn.mono {l l':List R3}{p:R3}(h:Cn l p)(hl:∀v∈l,Cn l' v):Cn l' p:=by
 induction h with
 | zero=>exact .zero
 | mem m=>exact hl _ m
 | add _ _ h1 h2=>exact h1.add h2
theorem Cn.lin {l:List R3}{p:R3}(h:Cn l p)(g:R3→Int)(g0:g (0,0,0)=0)(ga:∀p q,g (Pol.add p q)=g p+g q)(hl:∀v∈l,0≤g v):0≤g p:=by
 induction h with
 | zero=>omega
 | mem m=>exact hl _ m
 | add _ _ h1 h2=>rw[ga];omega
theorem Cn.valGe {l:List R3}{p:R3}(h:Cn l p)(r:R3)(hl:∀v∈l,0≤Pol.val r v):0≤Pol.val r p :=
 h.lin (Pol.val r) (by simp[Pol.val]) (val_add r) hl
theorem Cn.det {l:List R3}{p:R3}(h:Cn l p)(u v:R3)(hl:∀w∈l,0≤Pol.det u v w):0≤Pol.det u v p :=
 h.lin (Pol.det u v) (by simp[Pol.det]) (sX u v) hl
theorem Cn.bot {l:List R3}{p:R3}(h:Cn l p)(hl:∀v∈l,0<v.2.2):p=(0,0,0)∨0<p.2.2:=by
 induction h with
 | zero=>exact .inl rfl
 | mem m=>exact .inr (hl _ m)
 | @add p q _ _ h1 h2 =>
  rcases h1 with rfl | h1
  ·have:Pol.add (0,0,0) q=q:=by apply ext3<;>simp[Pol.add]
   rw[this];exact h2
  ·right
   show 0<p.2.2+q.2.2
   rcases h2 with rfl | h2
   ·simpa using h1
   ·omega
theorem Cn.zeros {l:List R3}{p:R3}(h:Cn l p)(r:R3)(hl:∀v∈l,0≤Pol.val r v)(h0:Pol.val r p≤0):Cn (l.filter fun v=>Pol.val r v=0) p:=by
 induction h with
 | zero=>exact .zero
 | @mem v m=>exact .mem (xji.mpr ⟨m,by have:=hl v m;simp;omega⟩)
 | @add p q hp hq h1 h2 =>
  rw[val_add] at h0
  have a:=hp.valGe r hl
  have b:=hq.valGe r hl
  exact(h1 (by omega)).add (h2 (by omega))
theorem Cn.pair {u v p:R3}(h:Cn [u,v] p):∃a b:Int,0≤a∧0≤b∧p=Pol.add (mul a u) (mul b v):=by
 induction h with
 | zero=>exact⟨0,0,by omega,by omega,by apply ext3<;>simp[Pol.add,mul]⟩
 | mem m =>
  simp only[xjf,xjv,xj9] at m
  rcases m with rfl | rfl
  ·exact⟨1,0,by omega,by omega,by apply ext3<;>simp[Pol.add,mul]⟩
  ·exact⟨0,1,by omega,by omega,by apply ext3<;>simp[Pol.add,mul]⟩
 | add _ _ h1 h2 =>
  obtain⟨a,b,a0,b0,rfl⟩:=h1
  obtain⟨c,d,c0,d0,rfl⟩:=h2
  exact⟨a+c,b+d,by omega,by omega,by apply ext3<;>simp only[Pol.add,mul]<;>grind⟩
def InC (l:List R3)(p:R3):Prop:=∃m:Int,0<m∧Cn l (mul m p)
structure Ccw (l:List R3):Prop where
 tri:∀u v w:R3,List.Sublist [u,v,w] l→0<det u v w
 nd:l.Nodup
theorem xck {u v w:R3}{l1 l2:List R3}(h:[u,v,w]=l1++l2):(l1=[]∧l2=[u,v,w])∨(l1=[u]∧l2=[v,w])∨(l1=[u,v]∧l2=[w])∨(l1=[u,v,w]∧l2=[]):=by
 cases l1 with
 | nil=>exact .inl ⟨rfl,h.symm⟩
 | cons a t =>
  injection h with h1 h2
  subst h1
  cases t with
  | nil=>exact .inr (.inl ⟨rfl,h2.symm⟩)
  | cons b t =>
   injection h2 with h1 h2
   subst h1
   cases t with
   | nil=>exact .inr (.inr (.inl ⟨rfl,h2.symm⟩))
   | cons c t =>
    injection h2 with h1 h2
    subst h1
    have:=List.append_eq_nil_iff.mp h2.symm
    rw[this.1,this.2]
    exact .inr (.inr (.inr ⟨rfl,rfl⟩))
theorem Ccw.rot {a b:List R3}(h:Ccw (a++b)):Ccw (b++a):=by
 refine⟨fun u v w s=>?_,?_⟩
 ·obtain⟨l1,l2,e,s1,s2⟩:=xjD.mp s
  have s3:=List.Sublist.append s2 s1
  rcases xck e with ⟨rfl,rfl⟩ | ⟨rfl,rfl⟩ | ⟨rfl,rfl⟩ | ⟨rfl,rfl⟩
  ·exact h.tri _ _ _ (by simpa using s3)
  ·have:=h.tri _ _ _ (show List.Sublist [v,w,u] (a++b) by simpa using s3)
   rw[wk];exact this
  ·have:=h.tri _ _ _ (show List.Sublist [w,u,v] (a++b) by simpa using s3)
   rw[←wk];exact this
  ·exact h.tri _ _ _ (by simpa using s3)
 ·have:=h.nd
  rw[xjt] at this ⊢
  exact⟨this.2.1,this.1,fun x hx y hy e=>this.2.2 y hy x hx e.symm⟩
theorem Ccw.alt {l:List R3}(h:Ccw l)(r:R3){a b c d:R3}(s:List.Sublist [a,b,c,d] l):¬(0<val r a∧val r b≤0∧0<val r c∧val r d≤0)∧¬(val r a≤0∧0<val r b∧val r c≤0∧0<val r d):=by
 have h1:=h.tri b c d (xiv (List.Sublist.cons _ (xiu _)) s)
 have h2:=h.tri a b d (xiv (by simp) s)
 have h3:=h.tri a c d (xiv (by simp) s)
 have h4:=h.tri a b c (xiv (by simp) s)
 have e:=four r a b c d
 constructor
 ·rintro⟨x1,x2,x3,x4⟩
  have:=pp h1 x1
  have:=pp h2 x3
  have:=pn (xh_ h3) x2
  have:=pn (xh_ h4) x4
  omega
 ·rintro⟨x1,x2,x3,x4⟩
  have:=pn (xh_ h1) x1
  have:=pn (xh_ h2) x3
  have:=pp h3 x2
  have:=pp h4 x4
  omega
theorem m5 (f:R3→Bool):∀l:List R3,l=l.takeWhile f++l.dropWhile f:=fun l=>(List.takeWhile_append_dropWhile (p:=f) (l:=l)).symm
theorem o8 {f:R3→Bool}{x:R3}:∀ {l:List R3},x∈l.takeWhile f→f x=true:=fun {l} h=>by
 induction l with
 | nil=>simp at h
 | cons a t ih =>
  rw[List.takeWhile_cons] at h
  split at h
  ·rcases xjf.mp h with rfl | h
   ·assumption
   ·exact ih h
  ·simp at h
theorem m_ {f:R3→Bool}{x:R3}{t:List R3}:∀ {l:List R3},l.dropWhile f=x::t→f x=false:=fun {l} h=>by
 induction l with
 | nil=>simp at h
 | cons a l ih =>
  rw[List.dropWhile_cons] at h
  split at h
  ·exact ih h
  ·rename_i hn
   injection h with h1 h2
   subst h1
   simpa using hn
theorem Ccw.parts {l:List R3}(h:Ccw l)(r:R3):∃a b P Q,l=a++b∧b++a=P++Q∧(∀v∈P,0<val r v)∧∀v∈Q,val r v≤0:=by
 have e1:=m5 (fun v=>decide (val r v≤0)) l
 have m1:∀v∈l.takeWhile fun v=>decide (val r v≤0),val r v≤0:=fun v hv=>xj8 (o8 hv)
 revert e1 m1
 generalize l.takeWhile (fun v=>decide (val r v≤0))=N1
 cases hd:l.dropWhile (fun v=>decide (val r v≤0)) with
 | nil =>
  intro e1 m1
  rw[xiz] at e1
  exact⟨[],l,[],l,rfl,by simp,fun v hv=>absurd hv (by simp),fun v hv=>m1 v (e1▸hv)⟩
 | cons p R =>
  intro e1 m1
  have hp:0<val r p:=by
   have:=m_ hd
   have:=xj7 this
   omega
  have e2:=m5 (fun v=>decide (0<val r v)) R
  have m2:∀v∈R.takeWhile fun v=>decide (0<val r v),0<val r v:=fun v hv=>xj8 (o8 hv)
  revert e2 m2
  generalize R.takeWhile (fun v=>decide (0<val r v))=P1
  cases hd2:R.dropWhile (fun v=>decide (0<val r v)) with
  | nil =>
   intro e2 m2
   rw[xiz] at e2
   subst e2
   refine⟨N1,p::R,p::R,N1,e1,rfl,fun v hv=>?_,m1⟩
   rcases xjf.mp hv with rfl | hv
   ·exact hp
   ·exact m2 v hv
  | cons q S =>
   intro e2 m2
   have hq:val r q≤0:=by
    have:=m_ hd2
    have:=xj7 this
    omega
   have mp:∀v∈p::P1,0<val r v:=fun v hv=>by
    rcases xjf.mp hv with rfl | hv
    ·exact hp
    ·exact m2 v hv
   cases N1 with
   | cons n0 N =>
    refine⟨n0::N,p::R,p::P1,q::S++(n0::N),e1,by rw[e2];simp,mp,fun v hv=>?_⟩
    rcases xjc.mp hv with hv | hv
    ·rcases xjf.mp hv with rfl | hv
     ·exact hq
     ·rcases xid 0 (val r v) with z | z
      ·exfalso
       have s:List.Sublist [n0,p,q,v] l:=by
        rw[e1,e2]
        have s1:List.Sublist [v] S:=xjB.mpr hv
        have s2:List.Sublist [q,v] (q::S):=s1.cons_cons q
        have s3:List.Sublist [q,v] (P1++q::S):=s2.trans (xjE _ _)
        have s4:List.Sublist [p,q,v] (p::(P1++q::S)):=s3.cons_cons p
        have s5:List.Sublist [n0] (n0::N):=xjB.mpr xjh
        exact s5.append s4
       exact(h.alt r s).2 ⟨m1 n0 xjh,hp,hq,z⟩
      ·exact z
    ·exact m1 v hv
   | nil =>
    have e3:=m5 (fun v=>decide (val r v≤0)) S
    have m3:∀v∈S.takeWhile fun v=>decide (val r v≤0),val r v≤0:=fun v hv=>xj8 (o8 hv)
    have hd3:∀v∈S.dropWhile (fun v=>decide (val r v≤0)),0<val r v:=fun v hv=>by
     cases hc:S.dropWhile (fun v=>decide (val r v≤0)) with
     | nil=>rw[hc] at hv;simp at hv
     | cons p2 S2 =>
      have hp2:0<val r p2:=by
       have:=m_ hc
       have:=xj7 this
       omega
      rw[hc] at hv
      rcases xjf.mp hv with rfl | hv
      ·exact hp2
      ·rcases xid 0 (val r v) with z | z
       ·exact z
       ·exfalso
        have s:List.Sublist [p,q,p2,v] l:=by
         rw[e1,xjr,e2,e3,hc]
         have s1:List.Sublist [v] S2:=xjB.mpr hv
         have s2:List.Sublist [p2,v] (p2::S2):=s1.cons_cons p2
         have s3:=s2.trans (xjE (S.takeWhile fun v=>decide (val r v≤0)) _)
         have s4:=s3.cons_cons q
         have s5:=s4.trans (xjE P1 _)
         exact s5.cons_cons p
        exact(h.alt r s).1 ⟨hp,hq,hp2,z⟩
    refine⟨p::P1++q::S.takeWhile (fun v=>decide (val r v≤0)),S.dropWhile (fun v=>decide (val r v≤0)),S.dropWhile (fun v=>decide (val r v≤0))++p::P1,q::S.takeWhile (fun v=>decide (val r v≤0)),?_,?_,fun v hv=>?_,fun v hv=>?_⟩
    ·rw[e1,xjr,e2]
     conv=>lhs;rw[e3]
     simp
    ·simp
    ·rcases xjc.mp hv with hv | hv
     ·exact hd3 v hv
     ·exact mp v hv
    ·rcases xjf.mp hv with rfl | hv
     ·exact hq
     ·exact m3 v hv
end Pol
namespace Pol
def xo:R3→List R3→R3
 | p,[]=>p
 | _,x::xs=>xo x xs
theorem uJ (u v w:R3):det u v w=det w u v:=by simp only[det];grind
theorem xbn (u v w:R3):det u v w = - det v u w:=by simp only[det];grind
theorem gZ (p q:R3):∀(xs ys:List R3),xo p (xs++q::ys)=xo q ys
 | [],_=>rfl
 | x::xs,ys=>gZ x q xs ys
theorem dB (p q:R3)(xs:List R3):xo p (xs++[q])=q:=gZ p q xs []
theorem yr (p:R3):∀(xs:List R3),xo p xs∈p::xs
 | []=>by simp[xo]
 | x::xs=>xjg _ (yr x xs)
theorem fF (p:R3):∀(xs:List R3),∃ys,p::xs=ys++[xo p xs]
 | []=>⟨[],rfl⟩
 | x::xs=>by
  obtain⟨ys,e⟩:=fF x xs
  exact⟨p::ys,xj0 (p::·) e⟩
def chain:R3→List R3→List (R3×R3)
 | _,[]=>[]
 | p,x::xs=>(p,x)::chain x xs
theorem jf (p:R3):∀(xs ys:List R3),chain p (xs++ys)=chain p xs++chain (xo p xs) ys
 | [],_=>rfl
 | x::xs,ys=>by
  show(p,x)::chain x (xs++ys)=(p,x)::(chain x xs++chain (xo x xs) ys)
  rw[jf x xs ys]
def cyc:List R3→List (R3×R3)
 | []=>[]
 | x::xs=>chain (xo x xs) (x::xs)
theorem jW {x y:R3}{xs ys:List R3}:cyc ((x::xs)++(y::ys))=chain (xo y ys) (x::xs)++chain (xo x xs) (y::ys):=by
 show chain (xo x (xs++y::ys)) ((x::xs)++(y::ys))=_
 rw[gZ,jf];rfl
theorem xav (a b:List R3):∃c d,cyc (a++b)=c++d∧cyc (b++a)=d++c:=by
 cases a with
 | nil=>exact⟨[],cyc b,by simp,by simp⟩
 | cons x xs =>
  cases b with
  | nil=>exact⟨[],cyc (x::xs),by simp,by simp⟩
  | cons y ys=>exact⟨_,_,jW,jW⟩
theorem ny {a b:List R3}{p:R3×R3}(h:p∈cyc (b++a)):p∈cyc (a++b):=by
 obtain⟨c,d,e1,e2⟩:=xav a b
 rw[e2] at h
 rw[e1]
 exact xjc.mpr ((xjc.mp h).symm)
theorem jc {x y:R3}:∀ {p:R3} {l:List R3},(x,y)∈chain p l→∃s t,p::l=s++x::y::t
 | _,[],h=>by simp[chain] at h
 | p,z::l,h=>by
  rcases xjf.mp h with e | h
  ·injection e with e1 e2
   subst e1 e2
   exact⟨[],l,rfl⟩
  ·obtain⟨s,t,e⟩:=jc h
   exact⟨p::s,t,by rw[e];rfl⟩
theorem Ccw.edge {l:List R3}(h:Ccw l){u v w:R3}(he:(u,v)∈cyc l)(hw:w∈l):0≤det u v w:=by
 cases l with
 | nil=>simp at hw
 | cons x xs =>
  have he:(u,v)∈(xo x xs,x)::chain x xs:=he
  rcases xjf.mp he with e | he
  ·injection e with e1 e2
   subst e1 e2
   obtain⟨ys,e⟩:=fF v xs
   generalize xo v xs=L at e ⊢
   cases ys with
   | nil =>
    injection e with e1 e2
    rw[←e1,qD];exact xib _
   | cons y ys =>
    injection e with e1 e2
    subst e1
    have e2:xs=ys++[L]:=e2
    rw[e2] at hw
    rcases xjf.mp hw with rfl | hw
    ·rw[vb];exact xib _
    ·rcases xjc.mp hw with hw | hw
     ·have:=h.tri v w L (by
       rw[e2]
       exact((xjB.mpr hw).append (xiu [L])).cons_cons v)
      rw[uJ] at this;exact xh_ this
     ·have:w=L:=by simpa using hw
      rw[this,vM];exact xib _
  ·obtain⟨s,t,e⟩:=jc he
   rw[e] at hw
   rcases xjc.mp hw with hw | hw
   ·have:=h.tri w u v (by
     rw[e]
     exact(xjB.mpr hw).append ((xiu [u,v]).trans (by simp)))
    rw[wk] at this;omega
   ·rcases xjf.mp hw with rfl | hw
    ·rw[vM];exact xib _
    ·rcases xjf.mp hw with rfl | hw
     ·rw[vb];exact xib _
     ·have:=h.tri u v w (by
       rw[e]
       exact((((xjB.mpr hw).cons_cons v).cons_cons u)).trans (xjE s _))
      omega
theorem fan (x:R3)(p:R3):∀(y:R3) (ys:List R3),(∀u v,(u,v)∈chain y ys→0<det x u v∧0≤det u v p)→0≤det x y p→det x (xo y ys) p≤0→ys≠[]→∃u v,(u,v)∈chain y ys∧0≤det x u p∧det x v p≤0
 | y,[],_,_,_,h=>absurd rfl h
 | y,z::ys,hc,h0,h1,_=>by
  rcases xid 0 (det x z p) with c | c
  ·cases ys with
   | nil=>exact absurd h1 (by show ¬det x z p≤0;omega)
   | cons a ys =>
    obtain⟨u,v,m,h2,h3⟩:=fan x p z (a::ys) (fun u v m=>hc u v (xjg _ m)) (xh_ c) h1 (by simp)
    exact⟨u,v,xjg _ m,h2,h3⟩
  ·exact⟨y,z,xjh,h0,c⟩
theorem Ccw.incone {l:List R3}(h:Ccw l)(h3:3≤l.length){p:R3}(hp:∀u v,(u,v)∈cyc l→0≤det u v p):InC l p:=by
 match l,h,h3,hp with
 | x::y::z::t,h,_,hp =>
  have he:∀u v,(u,v)∈chain y (z::t)→0<det x u v∧0≤det u v p:=fun u v m=>by
   obtain⟨s,s2,e⟩:=jc m
   refine⟨h.tri x u v ?_,hp u v (xjg _ (xjg _ m))⟩
   rw[e]
   exact(((xiu [u,v]).trans (show List.Sublist [u,v] (u::v::s2) by simp)).trans (xjE s _)).cons_cons x
  have h0:0≤det x y p:=hp x y (xjg _ xjh)
  have h1:0≤det (xo x (y::z::t)) x p:=hp _ _ xjh
  have h1':det x (xo y (z::t)) p≤0:=by
   have e:det x (xo y (z::t)) p = - det (xo x (y::z::t)) x p:=xbn _ _ _
   omega
  obtain⟨u,v,m,h2,h3⟩:=fan x p y (z::t) he h0 h1' (by simp)
  obtain⟨d1,d2⟩:=he u v m
  have mem:∀w,w=u∨w=v→w∈x::y::z::t:=fun w hw=>by
   obtain⟨s,s2,e⟩:=jc m
   have:w∈y::z::t:=by
    rw[e]
    rcases hw with rfl | rfl<;>simp
   exact xjg _ this
  refine⟨det x u v,d1,?_⟩
  rw[xcM x u v p]
  have c1:0≤det p u v:=by rw[wk];exact d2
  have c2:0≤det x p v:=by rw[bz];omega
  exact((Cn.mem xjh).smul c1).add (((Cn.mem (mem u (.inl rfl))).smul c2).add ((Cn.mem (mem v (.inr rfl))).smul h2))
end Pol
namespace Pol
def turn (r s:R3):Int:=r.1*s.2.1-r.2.1*s.1
def ud (w:R3):Nat:=Int.gcd (Int.gcd w.1 w.2.1:Int) w.2.2
def red (w:R3):R3:=(w.1 / ud w,w.2.1 / ud w,w.2.2 / ud w)
theorem bf (w:R3):(ud w:Int) ∣ w.1∧(ud w:Int) ∣ w.2.1∧(ud w:Int) ∣ w.2.2:=by
 have h1:(ud w:Int) ∣ (Int.gcd w.1 w.2.1:Int):=Int.gcd_dvd_left ..
 exact⟨Int.dvd_trans h1 (Int.gcd_dvd_left ..),Int.dvd_trans h1 (Int.gcd_dvd_right ..),Int.gcd_dvd_right ..⟩
theorem xb_ {d:Int}{w:R3}(h1:d ∣ w.1)(h2:d ∣ w.2.1)(h3:d ∣ w.2.2):d ∣ (ud w:Int):=xh3 (xh3 h1 h2) h3
theorem qJ {w:R3}(h:0<w.2.2):0<(ud w:Int):=by
 have:=xh9 (Int.gcd w.1 w.2.1:Int) (show w.2.2≠0 by omega)
 unfold ud;omega
theorem sP {w:R3}:mul (ud w) (red w)=w:=by
 obtain⟨h1,h2,h3⟩:=bf w
 exact ext3 (xih h1) (xih h2) (xih h3)
theorem oR {w:R3}(h:0<w.2.2):0<(red w).2.2:=by
 have e:(ud w:Int)*(red w).2.2=w.2.2:=xj0 (·.2.2) (sP (w:=w))
 exact wc (qJ h) (by rw[e];exact h)
theorem xbJ {w:R3}(h:0<w.2.2):ud (red w)=1:=by
 obtain⟨h1,h2,h3⟩:=bf (red w)
 have g:=qJ h
 have d:(ud w:Int)*(ud (red w):Int) ∣ (ud w:Int):=by
  have e:=sP (w:=w)
  refine xb_ ?_ ?_ ?_
  ·conv=>rhs;rw[←e]
   exact xig _ h1
  ·conv=>rhs;rw[←e]
   exact xig _ h2
  ·conv=>rhs;rw[←e]
   exact xig _ h3
 have d2:(ud (red w):Int) ∣ 1:=by
  have:(ud w:Int)*(ud (red w):Int) ∣ (ud w:Int)*1:=by rw[Int.mul_one];exact d
  exact Int.dvd_of_mul_dvd_mul_left (by omega) this
 have:=Int.le_of_dvd (by decide) d2
 have p:=qJ (oR h)
 omega
theorem j6 {v s t:R3}(hg:ud v=1)(hz:0<v.2.2)(hs:val s v=0)(ht:val t v=0)(hn:turn s t≠0) :
  v.2.2≤(turn s t).natAbs∧v.1.natAbs≤(s.2.2*t.2.1-t.2.2*s.2.1).natAbs∧v.2.1.natAbs≤(t.2.2*s.1-s.2.2*t.1).natAbs:=by
 have e1:turn s t*v.1=v.2.2*(s.2.2*t.2.1-t.2.2*s.2.1):=by
  have:turn s t*v.1=v.2.2*(s.2.2*t.2.1-t.2.2*s.2.1)+t.2.1*val s v-s.2.1*val t v:=by simp only[turn,val];grind
  rw[hs,ht] at this;rw[this];grind
 have e2:turn s t*v.2.1=v.2.2*(t.2.2*s.1-s.2.2*t.1):=by
  have:turn s t*v.2.1=v.2.2*(t.2.2*s.1-s.2.2*t.1)+s.1*val t v-t.1*val s v:=by simp only[turn,val];grind
  rw[hs,ht] at this;rw[this];grind
 have dv:v.2.2 ∣ turn s t:=by
  have h1:v.2.2 ∣ turn s t*v.1:=⟨_,e1⟩
  have h2:v.2.2 ∣ turn s t*v.2.1:=⟨_,e2⟩
  have h3:v.2.2 ∣ turn s t*v.2.2:=Int.dvd_mul_left ..
  have g12:v.2.2 ∣ turn s t*(Int.gcd v.1 v.2.1:Int):=by
   have:=xh3 h1 h2
   rw[xh8] at this
   have h4:((turn s t).natAbs*Int.gcd v.1 v.2.1:Nat)=((turn s t*(Int.gcd v.1 v.2.1:Int)).natAbs:Nat):=by rw[xiq];rfl
   rw[h4] at this
   exact xh4.mp this
  have g3:=xh3 g12 h3
  rw[xh8] at g3
  have hg':Int.gcd (Int.gcd v.1 v.2.1:Int) v.2.2=1:=hg
  rw[hg',Nat.mul_one] at g3
  exact xh4.mp g3
 have zl:v.2.2≤(turn s t).natAbs:=by
  have h:=Int.le_of_dvd (show(0:Int)<((turn s t).natAbs:Int) by omega) (xh4.mpr dv)
  exact h
 refine⟨zl,?_,?_⟩
 ·have h:=xj0 Int.natAbs e1
  rw[xiq,xiq] at h
  rcases Nat.lt_or_ge (s.2.2*t.2.1-t.2.2*s.2.1).natAbs v.1.natAbs with c | c
  ·exfalso
   have h1:v.2.2.natAbs≤(turn s t).natAbs:=by omega
   have h2:0<v.2.2.natAbs:=by omega
   have h3:v.2.2.natAbs*(s.2.2*t.2.1-t.2.2*s.2.1).natAbs<v.2.2.natAbs*v.1.natAbs:=Nat.mul_lt_mul_of_pos_left c h2
   have h4:v.2.2.natAbs*v.1.natAbs≤(turn s t).natAbs*v.1.natAbs:=Nat.mul_le_mul_right _ h1
   omega
  ·exact c
 ·have h:=xj0 Int.natAbs e2
  rw[xiq,xiq] at h
  rcases Nat.lt_or_ge (t.2.2*s.1-s.2.2*t.1).natAbs v.2.1.natAbs with c | c
  ·exfalso
   have h1:v.2.2.natAbs≤(turn s t).natAbs:=by omega
   have h2:0<v.2.2.natAbs:=by omega
   have h3:v.2.2.natAbs*(t.2.2*s.1-s.2.2*t.1).natAbs<v.2.2.natAbs*v.2.1.natAbs:=Nat.mul_lt_mul_of_pos_left c h2
   have h4:v.2.2.natAbs*v.2.1.natAbs≤(turn s t).natAbs*v.2.1.natAbs:=Nat.mul_le_mul_right _ h1
   omega
  ·exact c
def abs (i:Int):Int:=if i<0 then -i else i
def cw (r u v:R3):R3:=add (mul (abs (val r v)) u) (mul (abs (val r u)) v)
def xq (r u v:R3):R3:=red (cw r u v)
theorem oV (r u v:R3):cw r u v=cw r v u:=by apply ext3<;>simp only[cw,add]<;>omega
structure Bt (u v x:R3)(a b g:Int):Prop where
 pa:0<a
 pb:0<b
 pg:0<g
 e:mul g x=add (mul a u) (mul b v)
theorem qO {r u v:R3}(hu:0<u.2.2)(hv:0<v.2.2)(h:val r u*val r v<0):Bt u v (xq r u v) (abs (val r v)) (abs (val r u)) (ud (cw r u v))∧val r (xq r u v)=0∧0<(xq r u v).2.2∧ud (xq r u v)=1:=by
 have sg:(val r u<0∧0<val r v)∨(0<val r u∧val r v<0):=by
  rcases xie (val r u) 0 with c | c | c
  ·rcases xid 0 (val r v) with d | d
   ·exact .inl ⟨c,d⟩
   ·have:=nn (xh_ c) d;omega
  ·rw[c] at h;simp at h
  ·rcases xid (val r v) 0 with d | d
   ·exact .inr ⟨c,d⟩
   ·have:=pz (xh_ c) d;omega
 have p1:0<abs (val r v):=by unfold abs;split<;>omega
 have p2:0<abs (val r u):=by unfold abs;split<;>omega
 have hz:0<(cw r u v).2.2:=by
  show 0<abs (val r v)*u.2.2+abs (val r u)*v.2.2
  have:=pp p1 hu
  have:=pp p2 hv
  omega
 have v0:val r (cw r u v)=0:=by
  unfold cw
  rw[val_add,val_mul,val_mul]
  rcases sg with ⟨c,d⟩ | ⟨c,d⟩
  ·have e1:abs (val r v)=val r v:=by unfold abs;rw[if_neg (by omega)]
   have e2:abs (val r u) = - val r u:=by unfold abs;rw[if_pos c]
   rw[e1,e2];grind
  ·have e1:abs (val r v) = - val r v:=by unfold abs;rw[if_pos d]
   have e2:abs (val r u)=val r u:=by unfold abs;rw[if_neg (by omega)]
   rw[e1,e2];grind
 refine⟨⟨p1,p2,qJ hz,sP⟩,?_,oR hz,xbJ hz⟩
 have:=xj0 (val r) (sP (w:=cw r u v))
 rw[val_mul,v0] at this
 exact dO (qJ hz) this
theorem Bt.val {u v x:R3}{a b g:Int}(h:Bt u v x a b g)(r:R3):g*Pol.val r x=a*Pol.val r u+b*Pol.val r v:=by
 have:=xj0 (Pol.val r) h.e
 rwa [val_mul,val_add,val_mul,val_mul] at this
theorem Bt.det {u v x:R3}{a b g:Int}(h:Bt u v x a b g)(p q:R3):g*Pol.det p q x=a*Pol.det p q u+b*Pol.det p q v:=by
 have:=xj0 (Pol.det p q) h.e
 rwa [vD,sX,vD,vD] at this
theorem Bt.kept {u v x:R3}{a b g:Int}(h:Bt u v x a b g){r:R3}(hu:Pol.val r u≤0)(hv:Pol.val r v≤0):Pol.val r x≤0:=by
 have:=h.val r
 have:=pn (xh_ h.pa) hu
 have:=pn (xh_ h.pb) hv
 exact tH h.pg (by omega)
theorem Bt.tight {u v x:R3}{a b g:Int}(h:Bt u v x a b g){r:R3}(hu:Pol.val r u=0)(hv:Pol.val r v=0):Pol.val r x=0:=by
 have:=h.val r
 rw[hu,hv] at this
 exact dO h.pg (by omega)
theorem unlike {r s u v:R3}(hs:s.1≠0∨s.2.1≠0)(hu:0<u.2.2)(hv:0<v.2.2)(su:val s u=0)(sv:val s v=0)(h:val r u*val r v<0):turn s r≠0:=by
 intro z
 have e:s.1*(val r u*v.2.2-val r v*u.2.2)=r.1*(val s u*v.2.2-val s v*u.2.2)+turn s r*(u.2.1*v.2.2-v.2.1*u.2.2):=by simp only[val,turn];grind
 have e':s.2.1*(val r u*v.2.2-val r v*u.2.2)=r.2.1*(val s u*v.2.2-val s v*u.2.2)-turn s r*(u.1*v.2.2-v.1*u.2.2):=by simp only[val,turn];grind
 rw[z,su,sv] at e e'
 have k:val r u*v.2.2-val r v*u.2.2=0:=by
  rcases hs with c | c
  ·have e:s.1*(val r u*v.2.2-val r v*u.2.2)=0:=by rw[e];grind
   exact(xii.mp e).resolve_left c
  ·have e':s.2.1*(val r u*v.2.2-val r v*u.2.2)=0:=by rw[e'];grind
   exact(xii.mp e').resolve_left c
 rcases xie (val r u) 0 with c | c | c
 ·have d:0<val r v:=by
   rcases xid 0 (val r v) with d | d
   ·exact d
   ·have:=nn (xh_ c) d;omega
  have:=xim c hv
  have:=pp d hu
  omega
 ·rw[c] at h;simp at h
 ·have d:val r v<0:=by
   rcases xid (val r v) 0 with d | d
   ·exact d
   ·have:=pz (xh_ c) d;omega
  have:=xim d hu
  have:=pp c hv
  omega
end Pol
namespace Pol
def seg (r:R3)(p:R3×R3):List R3:=(if val r p.1*val r p.2<0 then[xq r p.1 p.2] else[])++(if val r p.2≤0 then[p.2] else[])
def mX (r:R3)(l:List R3):List R3:=(cyc l).flatMap (seg r)
theorem cZ (r:R3)(a b:List R3):∃c d,mX r (a++b)=c++d∧mX r (b++a)=d++c:=by
 obtain⟨c,d,e1,e2⟩:=xav a b
 exact⟨c.flatMap (seg r),d.flatMap (seg r),by unfold mX;rw[e1,xiJ],by unfold mX;rw[e2,xiJ]⟩
theorem fg {r:R3}:∀ {p:R3} {P:List R3},0<val r p→(∀v∈P,0<val r v)→(chain p P).flatMap (seg r)=[]
 | p,[],_,_=>rfl
 | p,x::P,hp,h=>by
  have hx:=h x xjh
  show seg r (p,x)++(chain x P).flatMap (seg r)=[]
  rw[fg hx fun v hv=>h v (xjg _ hv),xiz]
  unfold seg
  rw[if_neg (show ¬val r p*val r x<0 by have:=pp hp hx;omega),if_neg (show ¬val r x≤0 by omega)];rfl
theorem fK {r:R3}:∀ {p:R3} {Q:List R3},val r p≤0→(∀v∈Q,val r v≤0)→(chain p Q).flatMap (seg r)=Q
 | p,[],_,_=>rfl
 | p,x::Q,hp,h=>by
  have hx:=h x xjh
  show seg r (p,x)++(chain x Q).flatMap (seg r)=x::Q
  rw[fK hx fun v hv=>h v (xjg _ hv)]
  unfold seg
  rw[if_neg (show ¬val r p*val r x<0 by have:=nn hp hx;omega),if_pos (show val r (p,x).2≤0 from hx)];rfl
def bef (r p q:R3):List R3:=if val r q<0 then[xq r p q] else[]
theorem xew {r p q:R3}(hp:0<val r p)(hq:val r q≤0):seg r (p,q)=bef r p q++[q]:=by
 unfold seg bef
 rw[if_pos (show val r (p,q).2≤0 from hq)]
 by_cases c:val r q<0
 ·rw[if_pos c,if_pos (show val r (p,q).1*val r (p,q).2<0 from xin hp c)]
 ·rw[if_neg c,if_neg (show ¬val r (p,q).1*val r (p,q).2<0 from by
   have e:val r q=0:=by omega
   show ¬val r p*val r q<0
   rw[e];simp)]
theorem xdm {r p q:R3}(hp:0<val r p)(hq:val r q≤0):seg r (q,p)=bef r p q:=by
 unfold seg bef
 rw[if_neg (show ¬val r (q,p).2≤0 from by show ¬val r p≤0;omega),xiz]
 by_cases c:val r q<0
 ·rw[if_pos c,if_pos (show val r (q,p).1*val r (q,p).2<0 from xim c hp)]
  unfold xq;rw[oV]
 ·rw[if_neg c,if_neg (show ¬val r (q,p).1*val r (q,p).2<0 from by
   have e:val r q=0:=by omega
   show ¬val r q*val r p<0
   rw[e];simp)]
theorem dU {r p1 q1:R3}{P Q:List R3}(hP:∀v∈p1::P,0<val r v)(hQ:∀v∈q1::Q,val r v≤0) :
  mX r ((p1::P)++(q1::Q))=bef r p1 (xo q1 Q)++(bef r (xo p1 P) q1++q1::Q):=by
 unfold mX
 rw[jW,xiJ]
 have h1:=hP p1 xjh
 have h2:=hQ q1 xjh
 have h3:=hQ _ (yr q1 Q)
 have h4:=hP _ (yr p1 P)
 have e1:(chain (xo q1 Q) (p1::P)).flatMap (seg r)=bef r p1 (xo q1 Q):=by
  show seg r (xo q1 Q,p1)++(chain p1 P).flatMap (seg r)=_
  rw[fg h1 fun v hv=>hP v (xjg _ hv),xiz,xdm h1 h3]
 have e2:(chain (xo p1 P) (q1::Q)).flatMap (seg r)=bef r (xo p1 P) q1++q1::Q:=by
  show seg r (xo p1 P,q1)++(chain q1 Q).flatMap (seg r)=_
  rw[fK h2 fun v hv=>hQ v (xjg _ hv),xew h4 h2,xiy];rfl
 rw[e1,e2]
structure Good (Ls l:List R3):Prop where
 ccw:Ccw l
 bot:∀v∈l,0<v.2.2
 prim:∀v∈l,ud v=1
 kept:∀v∈l,∀s∈Ls,val s v≤0
 edge:∀u v,(u,v)∈cyc l→u≠v→∃s∈Ls,val s u=0∧val s v=0
 two:∀v∈l,∃s∈Ls,∃t∈Ls,val s v=0∧val t v=0∧turn s t≠0
 all:∀p:R3,0<p.2.2→(∀s∈Ls,val s p≤0)→InC l p
theorem Good.rot {Ls a b:List R3}(h:Good Ls (a++b)):Good Ls (b++a) where
 ccw:=h.ccw.rot
 bot:=fun v hv=>h.bot v (by simpa [or_comm] using hv)
 prim:=fun v hv=>h.prim v (by simpa [or_comm] using hv)
 kept:=fun v hv=>h.kept v (by simpa [or_comm] using hv)
 edge:=fun u v e=>h.edge u v (ny e)
 two:=fun v hv=>h.two v (by simpa [or_comm] using hv)
 all:=fun p h0 h1=>by
  obtain⟨m,hm,c⟩:=h.all p h0 h1
  exact⟨m,hm,c.mono fun v hv=>.mem (by simpa [or_comm] using hv)⟩
theorem xa7 {a b:R3}:∀ {l:List R3},List.Sublist [a,b] l→3≤l.length→∃c,List.Sublist [c,a,b] l∨List.Sublist [a,c,b] l∨List.Sublist [a,b,c] l
 | [],_,h=>absurd h (by simp)
 | x::l,s,h=>by
  cases s with
  | cons _ s =>
   exact⟨x,.inl (s.cons_cons x)⟩
  | cons_cons _ s =>
   have hl:2≤l.length:=by simpa using h
   have hb:b∈l:=xjB.mp s
   obtain⟨s1,s2,e⟩:=xiA hb
   cases s1 with
   | cons c s1 =>
    refine⟨c,.inr (.inl ?_)⟩
    rw[e]
    have:List.Sublist [c,b] (c::s1++b::s2):=(xjB.mpr xjh).append (xjB.mpr xjh)
    exact this.cons_cons a
   | nil =>
    cases s2 with
    | nil=>rw[e] at hl;simp at hl
    | cons c s2 =>
     refine⟨c,.inr (.inr ?_)⟩
     rw[e]
     simp
theorem j2 {l:List R3}(h:∀u v w:R3,List.Sublist [u,v,w] l→0<det u v w)(h3:3≤l.length):l.Nodup:=by
 refine List.pairwise_iff_forall_sublist.mpr fun {a b} s e=>?_
 subst e
 obtain⟨c,s | s | s⟩:=xa7 s h3
 ·have:=h _ _ _ s;rw[vb] at this;omega
 ·have:=h _ _ _ s;rw[vM] at this;omega
 ·have:=h _ _ _ s;rw[qD] at this;omega
end Pol
namespace Pol
theorem r_ {p:R3}{P:List R3}(h:P≠[]):List.Sublist [p,xo p P] (p::P):=by
 cases P with
 | nil=>exact absurd rfl h
 | cons y ys=>exact(xjB.mpr (show xo p (y::ys)∈y::ys from yr y ys)).cons_cons p
structure Bw (u v x:R3)(a b g:Int):Prop where
 pa:0≤a
 pb:0<b
 pg:0<g
 e:mul g x=add (mul a u) (mul b v)
theorem Bt.w {u v x:R3}{a b g:Int}(h:Bt u v x a b g):Bw u v x a b g:=⟨xh_ h.pa,h.pb,h.pg,h.e⟩
theorem Bw.self (u v:R3):Bw u v v 0 1 1:=⟨by omega,by omega,by omega,by apply ext3<;>simp[mul,add]⟩
theorem Bw.det {u v x:R3}{a b g:Int}(h:Bw u v x a b g)(p q:R3):g*Pol.det p q x=a*Pol.det p q u+b*Pol.det p q v:=by
 have:=xj0 (Pol.det p q) h.e
 rwa [vD,sX,vD,vD] at this
section
variable {Ls P Q:List R3} {r p1 q1:R3}
structure xcx (Ls:List R3)(r p1 q1:R3)(P Q:List R3):Prop where
 good:Good Ls ((p1::P)++(q1::Q))
 hP:∀v∈p1::P,0<val r v
 hQ:∀v∈q1::Q,val r v≤0
 three:P≠[]∨Q≠[]
 dir:∀s∈Ls,s.1≠0∨s.2.1≠0
namespace xcx
variable (S:xcx Ls r p1 q1 P Q)
include S
theorem q1le:val r q1≤0:=S.hQ q1 xjh
theorem qmle:val r (xo q1 Q)≤0:=S.hQ _ (yr q1 Q)
theorem p1gt:0<val r p1:=S.hP p1 xjh
theorem pkgt:0<val r (xo p1 P):=S.hP _ (yr p1 P)
theorem botQ {v:R3}(h:v∈q1::Q):0<v.2.2:=S.good.bot v (xje _ h)
theorem botP {v:R3}(h:v∈p1::P):0<v.2.2:=S.good.bot v (xjd _ h)
theorem pqq {p x y:R3}(hp:p∈p1::P)(s:List.Sublist [x,y] (q1::Q)):0<det p x y:=S.good.ccw.tri p x y ((xjB.mpr hp).append s)
theorem ppq {p p' x:R3}(hp:List.Sublist [p,p'] (p1::P))(hx:x∈q1::Q):0<det p p' x:=S.good.ccw.tri p p' x (hp.append (xjB.mpr hx))
theorem qqq {x y z:R3}(s:List.Sublist [x,y,z] (q1::Q)):0<det x y z:=S.good.ccw.tri x y z (s.trans (xjE _ _))
theorem q1xy {x y:R3}(s:List.Sublist [x,y] (q1::Q)):0≤det q1 x y:=by
 cases s with
 | cons _ s=>exact xh_ (S.qqq (s.cons_cons q1))
 | cons_cons _ s=>rw[qD];exact xib _
theorem xyqm {x y:R3}(s:List.Sublist [x,y] (q1::Q)):0≤det x y (xo q1 Q):=by
 obtain⟨ys,e⟩:=fF q1 Q
 have s':=s
 rw[e] at s'
 obtain⟨l1,l2,e2,s1,s2⟩:=xjD.mp s'
 cases l2 with
 | nil =>
  rw[xiz] at e2
  subst e2
  have:=S.qqq (x:=x) (y:=y) (z:=xo q1 Q) (by rw[e];exact s1.append (xiu [xo q1 Q]))
  omega
 | cons b l2 =>
  have hb:b=xo q1 Q∧l2=[]:=by
   cases s2 with
   | cons _ s2=>cases s2
   | cons_cons _ s2=>cases s2;exact⟨rfl,rfl⟩
  obtain⟨hb,rfl⟩:=hb
  have:y=b:=by
   cases l1 with
   | nil=>cases e2
   | cons c l1 =>
    cases l1 with
    | nil=>injection e2 with _ e2;injection e2
    | cons d l1 =>
     injection e2 with _ e2
     injection e2 with _ e2
     simp at e2
  rw[this,hb,vb];exact xib _
theorem nd:((p1::P)++(q1::Q)).Nodup:=S.good.ccw.nd
theorem p1pkx {x:R3}(hx:x∈q1::Q):0≤det p1 (xo p1 P) x∧(P≠[]→0<det p1 (xo p1 P) x):=by
 by_cases h:P=[]
 ·subst h
  exact⟨by show 0≤det p1 p1 x;rw[qD];exact xib _,fun z=>absurd rfl z⟩
 ·have:=S.ppq (r_ h) hx
  exact⟨by omega,fun _=>this⟩
theorem pq1x {p x:R3}(hp:p∈p1::P)(hx:x∈q1::Q):0≤det p q1 x∧(x≠q1→0<det p q1 x):=by
 rcases xjf.mp hx with rfl | hx
 ·exact⟨by rw[vb];exact xib _,fun z=>absurd rfl z⟩
 ·have:=S.pqq hp ((xjB.mpr hx).cons_cons q1)
  exact⟨by omega,fun _=>this⟩
theorem pxqm {p x:R3}(hp:p∈p1::P)(hx:x∈q1::Q):0≤det p x (xo q1 Q)∧(x≠xo q1 Q→0<det p x (xo q1 Q)):=by
 obtain⟨ys,e⟩:=fF q1 Q
 rw[e] at hx
 rcases xjc.mp hx with hx | hx
 ·have:=S.pqq (x:=x) (y:=xo q1 Q) hp (by rw[e];exact(xjB.mpr hx).append (xiu [xo q1 Q]))
  exact⟨by omega,fun _=>this⟩
 ·have:x=xo q1 Q:=by simpa using hx
  rw[this]
  exact⟨by rw[vb];exact xib _,fun z=>absurd rfl z⟩
theorem q1xqm {x:R3}(hx:x∈q1::Q):0≤det q1 x (xo q1 Q):=by
 rcases xjf.mp hx with rfl | hx
 ·rw[qD];exact xib _
 ·exact S.xyqm ((xjB.mpr hx).cons_cons q1)
theorem q1ne (h:Q≠[]):q1≠xo q1 Q:=by
 have s:=r_ (p:=q1) h
 have nd:=(xjt.mp S.nd).2.1
 exact List.pairwise_iff_forall_sublist.mp nd s
def w1 (r p1 q1:R3)(P:List R3):R3:=if val r q1<0 then xq r (xo p1 P) q1 else q1
def u1 (r p1 q1:R3)(Q:List R3):R3:=if val r (xo q1 Q)<0 then xq r p1 (xo q1 Q) else xo q1 Q
theorem X1 (h:val r q1<0):Bt (xo p1 P) q1 (xq r (xo p1 P) q1) (abs (val r q1)) (abs (val r (xo p1 P))) (ud (cw r (xo p1 P) q1))∧val r (xq r (xo p1 P) q1)=0∧0<(xq r (xo p1 P) q1).2.2∧ud (xq r (xo p1 P) q1)=1 :=
 qO (S.botP (yr p1 P)) (S.botQ xjh) (xin S.pkgt h)
theorem X2 (h:val r (xo q1 Q)<0):Bt p1 (xo q1 Q) (xq r p1 (xo q1 Q)) (abs (val r (xo q1 Q))) (abs (val r p1)) (ud (cw r p1 (xo q1 Q)))∧val r (xq r p1 (xo q1 Q))=0∧0<(xq r p1 (xo q1 Q)).2.2∧ud (xq r p1 (xo q1 Q))=1 :=
 qO (S.botP xjh) (S.botQ (yr q1 Q)) (xin S.p1gt h)
theorem w1b:∃a b g,Bw (xo p1 P) q1 (w1 r p1 q1 P) a b g∧(val r q1<0→0<a)∧val r (w1 r p1 q1 P)=0:=by
 unfold w1
 by_cases h:val r q1<0
 ·rw[if_pos h]
  obtain⟨b,z,_⟩:=S.X1 h
  exact⟨_,_,_,b.w,fun _=>b.pa,z⟩
 ·rw[if_neg h]
  exact⟨_,_,_,Bw.self _ _,fun z=>absurd z h,by have:=S.q1le;omega⟩
theorem u1b:∃a b g,Bw p1 (xo q1 Q) (u1 r p1 q1 Q) a b g∧(val r (xo q1 Q)<0→0<a)∧val r (u1 r p1 q1 Q)=0:=by
 unfold u1
 by_cases h:val r (xo q1 Q)<0
 ·rw[if_pos h]
  obtain⟨b,z,_⟩:=S.X2 h
  exact⟨_,_,_,b.w,fun _=>b.pa,z⟩
 ·rw[if_neg h]
  exact⟨_,_,_,Bw.self _ _,fun z=>absurd z h,by have:=S.qmle;omega⟩
theorem close {p:R3}(hc:val r q1<0∨Q≠[])(hp:val r p≤0):0≤det (u1 r p1 q1 Q) (w1 r p1 q1 P) p:=by
 obtain⟨a,b,g,bw,ha,hw⟩:=S.w1b
 obtain⟨c,d,g',bu,hcc,hu⟩:=S.u1b
 have e1:=bu.det p1 (w1 r p1 q1 P)
 rw[vM,xip,Int.zero_add] at e1
 have e2:=bw.det (xo q1 Q) p1
 have d1:det (xo q1 Q) p1 (xo p1 P)=det p1 (xo p1 P) (xo q1 Q):=wk _ _ _
 have d2:det (xo q1 Q) p1 q1=det p1 q1 (xo q1 Q):=wk _ _ _
 rw[d1,d2] at e2
 obtain⟨f1,f2⟩:=S.p1pkx (yr q1 Q)
 obtain⟨f3,f4⟩:=S.pq1x (p:=p1) xjh (yr q1 Q)
 have k1:0<det (xo q1 Q) p1 (w1 r p1 q1 P):=by
  refine wc bw.pg ?_
  rw[e2]
  have n1:=pz bw.pa f1
  have n2:=pz (xh_ bw.pb) f3
  by_cases hq:Q=[]
  ·have hp':P≠[]:=S.three.resolve_right (fun z=>z hq)
   have h0:val r q1<0:=hc.resolve_right (fun z=>z hq)
   have:=pp (ha h0) (f2 hp')
   omega
  ·have:=pp bw.pb (f4 (Ne.symm (S.q1ne hq)))
   omega
 have d3:det p1 (w1 r p1 q1 P) (xo q1 Q)=det (xo q1 Q) p1 (w1 r p1 q1 P):=uJ _ _ _
 rw[d3] at e1
 have k2:0<det p1 (w1 r p1 q1 P) (u1 r p1 q1 Q):=by
  refine wc bu.pg ?_
  rw[e1];exact pp bu.pb k1
 have e3:=xb1 r (u1 r p1 q1 Q) (w1 r p1 q1 P) p1 p hu hw
 have d4:det (u1 r p1 q1 Q) (w1 r p1 q1 P) p1 = - det p1 (w1 r p1 q1 P) (u1 r p1 q1 Q):=by
  rw[uJ,bz]
 rw[d4] at e3
 refine zz S.p1gt ?_
 rw[←e3]
 exact nn hp (by omega)
def left (r p1 q1:R3)(P Q:List R3):List R3:=bef r (xo p1 P) q1++(q1::Q)++bef r p1 (xo q1 Q)
theorem mem_left {v:R3}(h:v∈left r p1 q1 P Q):(v∈q1::Q)∨(val r q1<0∧v=xq r (xo p1 P) q1)∨(val r (xo q1 Q)<0∧v=xq r p1 (xo q1 Q)):=by
 unfold left bef at h
 rcases xjc.mp h with h | h
 ·rcases xjc.mp h with h | h
  ·split at h
   ·exact .inr (.inl ⟨by assumption,by simpa using h⟩)
   ·simp at h
  ·exact .inl h
 ·split at h
  ·exact .inr (.inr ⟨by assumption,by simpa using h⟩)
  ·simp at h
theorem sub_bef {p q:R3}{l:List R3}(h:List.Sublist l (bef r p q)):l=[]∨(val r q<0∧l=[xq r p q]):=by
 unfold bef at h
 split at h
 ·cases h with
  | cons _ h=>cases h;exact .inl rfl
  | cons_cons _ h=>cases h;exact .inr ⟨by assumption,rfl⟩
 ·cases h;exact .inl rfl
theorem tri {u v w:R3}(s:List.Sublist [u,v,w] (left r p1 q1 P Q)):0<det u v w:=by
 unfold left at s
 rw[xiy] at s
 obtain⟨l1,l2,e,s1,s2⟩:=xjD.mp s
 obtain⟨l3,l4,e2,s3,s4⟩:=xjD.mp s2
 have b1:=S.sub_bef s1
 have b4:=S.sub_bef s4
 subst e2
 rcases b1 with rfl | ⟨h1,rfl⟩
 ·rcases b4 with rfl | ⟨h4,rfl⟩
  ·have:[u,v,w]=l3:=by simpa using e
   subst this
   exact S.qqq s3
  ·-- q q X2
   obtain⟨bt,_⟩:=S.X2 h4
   have:l3=[u,v]∧w=xq r p1 (xo q1 Q):=by
    rcases xck (show[u,v,w]=l3++[xq r p1 (xo q1 Q)] from e) with ⟨_,z⟩ | ⟨_,z⟩ | ⟨z1,z⟩ | ⟨_,z⟩
    ·cases z
    ·cases z
    ·cases z;exact⟨z1,rfl⟩
    ·cases z
   obtain⟨rfl,rfl⟩:=this
   have e3:=bt.det u v
   have k1:0<det u v p1:=by rw[uJ];exact S.pqq xjh s3
   have k2:=S.xyqm s3
   have:=pp bt.pa k1
   have:=pz (xh_ bt.pb) k2
   exact wc bt.pg (by omega)
 ·obtain⟨bt,_⟩:=S.X1 h1
  rcases b4 with rfl | ⟨h4,rfl⟩
  ·have:u=xq r (xo p1 P) q1∧l3=[v,w]:=by
    injection e with e1 e2
    exact⟨e1,by simpa using e2.symm⟩
   obtain⟨rfl,rfl⟩:=this
   have e3:=bt.det v w
   have k1:0<det v w (xo p1 P):=by rw[uJ];exact S.pqq (yr p1 P) s3
   have k2:0≤det v w q1:=by rw[uJ];exact S.q1xy s3
   have:=pp bt.pa k1
   have:=pz (xh_ bt.pb) k2
   rw[wk]
   exact wc bt.pg (by omega)
  ·obtain⟨bu,_⟩:=S.X2 h4
   have:u=xq r (xo p1 P) q1∧l3=[v]∧w=xq r p1 (xo q1 Q):=by
    injection e with e1 e
    have e:[v,w]=l3++[xq r p1 (xo q1 Q)]:=e
    cases l3 with
    | nil=>cases e
    | cons a l3 =>
     injection e with e2 e
     cases l3 with
     | nil=>injection e with e3 _;exact⟨e1,by rw[e2],e3⟩
     | cons b l3=>injection e with _ e;simp at e
   obtain⟨rfl,rfl,rfl⟩:=this
   have hv:v∈q1::Q:=xjB.mp s3
   have e3:=bu.det (xq r (xo p1 P) q1) v
   have e4:=bt.det v p1
   have e5:=bt.det v (xo q1 Q)
   have r1:det v p1 (xo p1 P)=det p1 (xo p1 P) v:=wk _ _ _
   have r2:det v p1 q1=det p1 q1 v:=wk _ _ _
   have r3:det v (xo q1 Q) (xo p1 P)=det (xo p1 P) v (xo q1 Q):=uJ _ _ _
   have r4:det v (xo q1 Q) q1=det q1 v (xo q1 Q):=uJ _ _ _
   rw[r1,r2] at e4
   rw[r3,r4] at e5
   obtain⟨f1,f2⟩:=S.p1pkx hv
   obtain⟨f3,f4⟩:=S.pq1x (p:=p1) xjh hv
   obtain⟨f5,f6⟩:=S.pxqm (p:=xo p1 P) (yr p1 P) hv
   have f7:=S.q1xqm hv
   have n1:=pz (xh_ bt.pa) f1
   have n2:=pz (xh_ bt.pb) f3
   have n3:=pz (xh_ bt.pa) f5
   have n4:=pz (xh_ bt.pb) f7
   have g1:0≤det v p1 (xq r (xo p1 P) q1):=zz bt.pg (by omega)
   have g2:0≤det v (xo q1 Q) (xq r (xo p1 P) q1):=zz bt.pg (by omega)
   have some:0<det v p1 (xq r (xo p1 P) q1)∨0<det v (xo q1 Q) (xq r (xo p1 P) q1):=by
    by_cases hq:Q=[]
    ·have hp':P≠[]:=S.three.resolve_right (fun z=>z hq)
     left
     have:=pp bt.pa (f2 hp')
     exact wc bt.pg (by omega)
    ·by_cases hv1:v=q1
     ·right
      have:=pp bt.pa (f6 (by rw[hv1];exact S.q1ne hq))
      exact wc bt.pg (by omega)
     ·left
      have:=pp bt.pb (f4 hv1)
      exact wc bt.pg (by omega)
   have m1:det (xq r (xo p1 P) q1) v p1=det v p1 (xq r (xo p1 P) q1):=wk _ _ _
   have m2:det (xq r (xo p1 P) q1) v (xo q1 Q)=det v (xo q1 Q) (xq r (xo p1 P) q1):=wk _ _ _
   rw[m1,m2] at e3
   refine wc bu.pg ?_
   rw[e3]
   have t1:=pz (xh_ bu.pa) g1
   have t2:=pz (xh_ bu.pb) g2
   rcases some with z | z
   ·have:=pp bu.pa z;omega
   ·have:=pp bu.pb z;omega
end xcx
end
end Pol
namespace Pol
section
variable {Ls P Q:List R3} {r p1 q1:R3}
namespace xcx
variable (S:xcx Ls r p1 q1 P Q)
include S
theorem pairs {u v:R3}(h:(u,v)∈cyc (left r p1 q1 P Q)):(u=u1 r p1 q1 Q∧v=w1 r p1 q1 P)∨(val r q1<0∧u=xq r (xo p1 P) q1∧v=q1)∨(val r (xo q1 Q)<0∧u=xo q1 Q∧v=xq r p1 (xo q1 Q))∨(u,v)∈chain q1 Q:=by
 unfold left bef at h
 unfold u1 w1
 by_cases h1:val r q1<0
 ·by_cases h2:val r (xo q1 Q)<0
  ·simp only[if_pos h1,if_pos h2,xiC,xjr] at h ⊢
   have e:cyc (xq r (xo p1 P) q1::q1::(Q++[xq r p1 (xo q1 Q)]))=(xq r p1 (xo q1 Q),xq r (xo p1 P) q1)::(xq r (xo p1 P) q1,q1)::(chain q1 Q++[(xo q1 Q,xq r p1 (xo q1 Q))]):=by
    show(xo q1 (Q++[_]),_)::(_,q1)::chain q1 (Q++[_])=_
    rw[dB,jf];rfl
   rw[e] at h
   rcases xjf.mp h with h | h
   ·injection h with a b;exact .inl ⟨a,b⟩
   ·rcases xjf.mp h with h | h
    ·injection h with a b;exact .inr (.inl ⟨h1,a,b⟩)
    ·rcases xjc.mp h with h | h
     ·exact .inr (.inr (.inr h))
     ·have h:=xjq.mp h
      injection h with a b;exact .inr (.inr (.inl ⟨h2,a,b⟩))
  ·simp only[if_pos h1,if_neg h2,xiC,xjr,xiz] at h ⊢
   have e:cyc (xq r (xo p1 P) q1::q1::Q)=(xo q1 Q,xq r (xo p1 P) q1)::(xq r (xo p1 P) q1,q1)::chain q1 Q:=rfl
   rw[e] at h
   rcases xjf.mp h with h | h
   ·injection h with a b;exact .inl ⟨a,b⟩
   ·rcases xjf.mp h with h | h
    ·injection h with a b;exact .inr (.inl ⟨h1,a,b⟩)
    ·exact .inr (.inr (.inr h))
 ·by_cases h2:val r (xo q1 Q)<0
  ·simp only[if_neg h1,if_pos h2,xiC,xjr] at h ⊢
   have e:cyc (q1::(Q++[xq r p1 (xo q1 Q)]))=(xq r p1 (xo q1 Q),q1)::(chain q1 Q++[(xo q1 Q,xq r p1 (xo q1 Q))]):=by
    show(xo q1 (Q++[_]),_)::chain q1 (Q++[_])=_
    rw[dB,jf];rfl
   rw[e] at h
   rcases xjf.mp h with h | h
   ·injection h with a b;exact .inl ⟨a,b⟩
   ·rcases xjc.mp h with h | h
    ·exact .inr (.inr (.inr h))
    ·have h:=xjq.mp h
     injection h with a b;exact .inr (.inr (.inl ⟨h2,a,b⟩))
  ·simp only[if_neg h1,if_neg h2,xiC,xjr,xiz] at h ⊢
   have e:cyc (q1::Q)=(xo q1 Q,q1)::chain q1 Q:=rfl
   rw[e] at h
   rcases xjf.mp h with h | h
   ·injection h with a b;exact .inl ⟨a,b⟩
   ·exact .inr (.inr (.inr h))
theorem old1:(xo p1 P,q1)∈cyc ((p1::P)++(q1::Q)):=by
 rw[jW];exact xje _ xjh
theorem old2:(xo q1 Q,p1)∈cyc ((p1::P)++(q1::Q)):=by
 rw[jW];exact xjd _ xjh
theorem old3 {u v:R3}(h:(u,v)∈chain q1 Q):(u,v)∈cyc ((p1::P)++(q1::Q)):=by
 rw[jW];exact xje _ (xjg _ h)
theorem pk_ne:xo p1 P≠q1:=fun e=>by have:=S.pkgt;have:=S.q1le;rw[e] at *;omega
theorem p1_ne:xo q1 Q≠p1:=fun e=>by have:=S.p1gt;have:=S.qmle;rw[e] at *;omega
theorem len_left:(val r q1<0∨val r (xo q1 Q)<0∨2≤Q.length)→3≤(left r p1 q1 P Q).length:=by
 intro h
 unfold left bef
 by_cases hq:Q=[]
 ·subst hq
  have h':val r q1<0:=by
   rcases h with h | h | h
   ·exact h
   ·exact h
   ·simp at h
  rw[if_pos h',if_pos (show val r (xo q1 [])<0 from h')];simp
 ·have l1:1≤Q.length:=by
   cases Q with
   | nil=>exact absurd rfl hq
   | cons _ _=>simp
  rcases h with h | h | h
  ·rw[if_pos h];simp;omega
  ·rw[if_pos h];simp;omega
  ·simp;omega
theorem small (h:¬(val r q1<0∨val r (xo q1 Q)<0∨2≤Q.length)):left r p1 q1 P Q=q1::Q∧∀v∈q1::Q,val r v=0:=by
 have h1:¬val r q1<0:=fun z=>h (.inl z)
 have h2:¬val r (xo q1 Q)<0:=fun z=>h (.inr (.inl z))
 have h3:¬2≤Q.length:=fun z=>h (.inr (.inr z))
 refine⟨by unfold left bef;rw[if_neg h1,if_neg h2];simp,fun v hv=>?_⟩
 have a:=S.q1le
 have b:=S.qmle
 rcases xjf.mp hv with rfl | hv
 ·omega
 ·match Q,hv,h3,b,h2 with
  | [x],hv,_,b,h2 =>
   have:v=x:=by simpa using hv
   subst this
   have b:val r v≤0:=b
   have h2:¬val r v<0:=h2
   omega
  | _::_::_,_,h3,_,_=>exact absurd (by simp) h3
theorem good_left:Good (Ls++[r]) (left r p1 q1 P Q):=by
 have keptOld:∀s∈Ls,∀v∈(p1::P)++(q1::Q),val s v≤0:=fun s hs v hv=>S.good.kept v hv s hs
 have mP:∀ {v},v∈p1::P→v∈(p1::P)++(q1::Q):=fun h=>xjd _ h
 have mQ:∀ {v},v∈q1::Q→v∈(p1::P)++(q1::Q):=fun h=>xje _ h
 refine⟨⟨fun u v w s=>S.tri s,?_⟩,fun v hv=>?_,fun v hv=>?_,fun v hv s hs=>?_,fun u v he hne=>?_,fun v hv=>?_,fun p h0 hp=>?_⟩
 ·by_cases c:val r q1<0∨val r (xo q1 Q)<0∨2≤Q.length
  ·exact j2 (fun u v w s=>S.tri s) (S.len_left c)
  ·rw[(S.small c).1];exact(xjt.mp S.nd).2.1
 ·rcases S.mem_left hv with hv | ⟨h,rfl⟩ | ⟨h,rfl⟩
  ·exact S.botQ hv
  ·exact(S.X1 h).2.2.1
  ·exact(S.X2 h).2.2.1
 ·rcases S.mem_left hv with hv | ⟨h,rfl⟩ | ⟨h,rfl⟩
  ·exact S.good.prim v (mQ hv)
  ·exact(S.X1 h).2.2.2
  ·exact(S.X2 h).2.2.2
 ·rcases xjc.mp hs with hs | hs
  ·rcases S.mem_left hv with hv | ⟨h,rfl⟩ | ⟨h,rfl⟩
   ·exact keptOld s hs v (mQ hv)
   ·exact(S.X1 h).1.kept (keptOld s hs _ (mP (yr p1 P))) (keptOld s hs _ (mQ xjh))
   ·exact(S.X2 h).1.kept (keptOld s hs _ (mP xjh)) (keptOld s hs _ (mQ (yr q1 Q)))
  ·have:s=r:=by simpa using hs
   subst this
   rcases S.mem_left hv with hv | ⟨h,rfl⟩ | ⟨h,rfl⟩
   ·exact S.hQ v hv
   ·rw[(S.X1 h).2.1];exact xib _
   ·rw[(S.X2 h).2.1];exact xib _
 ·rcases S.pairs he with ⟨rfl,rfl⟩ | ⟨h,rfl,rfl⟩ | ⟨h,rfl,rfl⟩ | h
  ·obtain⟨_,_,_,_,_,e1⟩:=S.w1b
   obtain⟨_,_,_,_,_,e2⟩:=S.u1b
   exact⟨r,by simp,e2,e1⟩
  ·obtain⟨s,hs,a,b⟩:=S.good.edge _ _ S.old1 S.pk_ne
   exact⟨s,xjd _ hs,(S.X1 h).1.tight a b,b⟩
  ·obtain⟨s,hs,a,b⟩:=S.good.edge _ _ S.old2 S.p1_ne
   exact⟨s,xjd _ hs,a,(S.X2 h).1.tight b a⟩
  ·obtain⟨s,hs,a,b⟩:=S.good.edge _ _ (S.old3 h) hne
   exact⟨s,xjd _ hs,a,b⟩
 ·rcases S.mem_left hv with hv | ⟨h,rfl⟩ | ⟨h,rfl⟩
  ·obtain⟨s,hs,t,ht,a,b,c⟩:=S.good.two v (mQ hv)
   exact⟨s,xjd _ hs,t,xjd _ ht,a,b,c⟩
  ·obtain⟨s,hs,a,b⟩:=S.good.edge _ _ S.old1 S.pk_ne
   exact⟨s,xjd _ hs,r,by simp,(S.X1 h).1.tight a b,(S.X1 h).2.1,unlike (S.dir s hs) (S.botP (yr p1 P)) (S.botQ xjh) a b (xin S.pkgt h)⟩
  ·obtain⟨s,hs,a,b⟩:=S.good.edge _ _ S.old2 S.p1_ne
   exact⟨s,xjd _ hs,r,by simp,(S.X2 h).1.tight b a,(S.X2 h).2.1,unlike (S.dir s hs) (S.botP xjh) (S.botQ (yr q1 Q)) b a (xin S.p1gt h)⟩
 ·have hpL:∀s∈Ls,val s p≤0:=fun s hs=>hp s (xjd _ hs)
  have hpr:val r p≤0:=hp r (by simp)
  obtain⟨m,hm,cn⟩:=S.good.all p h0 hpL
  by_cases c:val r q1<0∨val r (xo q1 Q)<0∨2≤Q.length
  ·have he:∀u v,(u,v)∈cyc ((p1::P)++(q1::Q))→0≤det u v p:=fun u v h=>by
    have:=cn.det u v fun w hw=>S.good.ccw.edge h hw
    rw[vD] at this
    exact zz hm this
   refine Ccw.incone ⟨fun u v w s=>S.tri s,j2 (fun u v w s=>S.tri s) (S.len_left c)⟩ (S.len_left c) fun u v hm'=>?_
   rcases S.pairs hm' with ⟨e1,e2⟩ | ⟨h,e1,e2⟩ | ⟨h,e1,e2⟩ | h
   ·rw[e1,e2]
    refine S.close ?_ hpr
    rcases c with c | c | c
    ·exact .inl c
    ·by_cases hq:Q=[]
     ·subst hq;exact .inl c
     ·exact .inr hq
    ·right;intro z;subst z;simp at c
   ·rw[e1,e2]
    have bt:=(S.X1 h).1
    have e:=bt.det q1 p
    have r1:det q1 p (xo p1 P)=det (xo p1 P) q1 p:=uJ _ _ _
    rw[r1,vM,xip,xh2] at e
    have k:=pz (xh_ bt.pa) (he _ _ S.old1)
    rw[wk]
    exact zz bt.pg (by omega)
   ·rw[e1,e2]
    have bt:=(S.X2 h).1
    have e:=bt.det p (xo q1 Q)
    have r1:det p (xo q1 Q) p1=det (xo q1 Q) p1 p:=wk _ _ _
    rw[r1,vb,xip,xh2] at e
    have k:=pz (xh_ bt.pa) (he _ _ S.old2)
    rw[uJ]
    exact zz bt.pg (by omega)
   ·exact he u v (S.old3 h)
  ·obtain⟨e,z⟩:=S.small c
   refine⟨m,hm,?_⟩
   have ge:∀v∈(p1::P)++(q1::Q),0≤val r v:=fun v hv=>by
    rcases xjc.mp hv with hv | hv
    ·have:=S.hP v hv;omega
    ·have:=z v hv;omega
   have:=cn.zeros r ge (by rw[val_mul];exact pn (xh_ hm) hpr)
   rw[e]
   refine this.mono fun v hv=>?_
   obtain⟨hv,hv0⟩:=xji.mp hv
   have hv0:val r v=0:=by simpa using hv0
   rcases xjc.mp hv with hv | hv
   ·have:=S.hP v hv;omega
   ·exact .mem hv
end xcx
end
end Pol
namespace Pol
def yj (r:R3)(left:List R3)(p:R3×R3):List R3 :=
 let l1:=if val r p.1*val r p.2<0 then(if xq r p.1 p.2∈left then left else left++[xq r p.1 p.2]) else left
 if val r p.2≤0 then l1++[p.2] else l1
def yK (l:List R3)(r:R3):List R3:=(cyc l).foldl (yj r) []
theorem xbW {r:R3}{acc:List R3}{p:R3×R3}(h:(acc++seg r p).Nodup):yj r acc p=acc++seg r p:=by
 unfold yj seg at *
 by_cases c:val r p.1*val r p.2<0
 ·rw[if_pos c] at h ⊢
  have hn:xq r p.1 p.2∉acc:=fun z=>by
   have:=(xjt.mp h).2.2 _ z _ (xjd _ (xjq.mpr rfl))
   exact this rfl
  simp only[if_neg hn]
  split<;>simp
 ·rw[if_neg c] at h ⊢
  simp only
  split<;>simp
theorem bE {r:R3}:∀ {ps:List (R3×R3)} {acc:List R3},(acc++ps.flatMap (seg r)).Nodup→ps.foldl (yj r) acc=acc++ps.flatMap (seg r)
 | [],acc,_=>by simp
 | p::ps,acc,h=>by
  have h':(acc++(seg r p++ps.flatMap (seg r))).Nodup:=h
  rw[←xiy] at h'
  rw[xiM,xbW (xjt.mp h').1,bE h',xiy];rfl
theorem rV {r:R3}{l:List R3}(h:(mX r l).Nodup):yK l r=mX r l:=by
 unfold yK
 rw[bE (by simpa [mX] using h)];rfl
theorem qe {r:R3}{l:List R3}(h:∀v∈l,val r v≤0):mX r l=l:=by
 cases l with
 | nil=>rfl
 | cons x xs=>exact fK (h _ (yr x xs)) h
theorem vS {r:R3}{l:List R3}(h:∀v∈l,0<val r v):mX r l=[]:=by
 cases l with
 | nil=>rfl
 | cons x xs=>exact fg (h _ (yr x xs)) h
theorem jg {Ls l:List R3}{r:R3}(g:Good Ls l)(h:∀v∈l,val r v≤0):Good (Ls++[r]) l where
 ccw:=g.ccw
 bot:=g.bot
 prim:=g.prim
 kept:=fun v hv s hs=>by
  rcases xjc.mp hs with hs | hs
  ·exact g.kept v hv s hs
  ·have:s=r:=by simpa using hs
   subst this
   exact h v hv
 edge:=fun u v he hn=>by
  obtain⟨s,hs,a⟩:=g.edge u v he hn
  exact⟨s,xjd _ hs,a⟩
 two:=fun v hv=>by
  obtain⟨s,hs,t,ht,a⟩:=g.two v hv
  exact⟨s,xjd _ hs,t,xjd _ ht,a⟩
 all:=fun p h0 hp=>g.all p h0 fun s hs=>hp s (xjd _ hs)
theorem uY {Ls l l':List R3}{r:R3}(g:Good Ls l)(h:∀v∈l,0≤val r v)(hs:List.Sublist l' l)(hl:l'.length≤1)(h0:∀v∈l',val r v=0)(h1:∀v∈l,val r v=0→v∈l'):Good (Ls++[r]) l' where
 ccw:=⟨fun u v w s=>by
  have:=s.length_le
  simp at this
  omega,g.ccw.nd.sublist hs⟩
 bot:=fun v hv=>g.bot v (hs.subset hv)
 prim:=fun v hv=>g.prim v (hs.subset hv)
 kept:=fun v hv s hs'=>by
  rcases xjc.mp hs' with h' | h'
  ·exact g.kept v (hs.subset hv) s h'
  ·have:s=r:=by simpa using h'
   subst this
   rw[h0 v hv];exact xib _
 edge:=fun u v he hn=>by
  exfalso
  match l',hl,he with
  | [x],_,he =>
   have:(u,v)=(x,x):=by simpa [cyc,chain,xo] using he
   injection this with a b
   exact hn (by rw[a,b])
  | [],_,he=>simp[cyc] at he
  | _::_::_,hl,_=>simp at hl
 two:=fun v hv=>by
  obtain⟨s,hs',t,ht,a⟩:=g.two v (hs.subset hv)
  exact⟨s,xjd _ hs',t,xjd _ ht,a⟩
 all:=fun p hz hp=>by
  obtain⟨m,hm,c⟩:=g.all p hz fun s hs=>hp s (xjd _ hs)
  refine⟨m,hm,(c.zeros r h ?_).mono fun v hv=>?_⟩
  ·rw[val_mul];exact pn (xh_ hm) (hp r (by simp))
  ·obtain⟨a,b⟩:=xji.mp hv
   exact .mem (h1 v a (by simpa using b))
theorem j7 {Ls:List R3}{r u v x:R3}(g:Good Ls [u,v])(dir:∀s∈Ls,s.1≠0∨s.2.1≠0)(hu:0<val r u)(hv:val r v<0)(hx:x=xq r u v):Good (Ls++[r]) [x,v]:=by
 subst hx
 have bu:=g.bot u (by simp)
 have bv:=g.bot v (by simp)
 obtain⟨bt,x0,xb,xp⟩:=qO (r:=r) bu bv (xin hu hv)
 have ne:u≠v:=fun e=>by rw[e] at hu;omega
 obtain⟨s,hs,su,sv⟩:=g.edge u v (by simp[cyc,chain,xo]) ne
 have nx:xq r u v≠v:=fun e=>by rw[e] at x0;omega
 have sx:=bt.tight su sv
 refine⟨⟨fun a b c h=>by have:=h.length_le;simp at this,by simp[nx]⟩,fun w hw=>?_,fun w hw=>?_,fun w hw t ht=>?_,fun a b he hn=>?_,fun w hw=>?_,fun p hz hp=>?_⟩
 ·simp only[xjf,xjv,xj9] at hw
  rcases hw with rfl | rfl
  ·exact xb
  ·exact bv
 ·simp only[xjf,xjv,xj9] at hw
  rcases hw with rfl | rfl
  ·exact xp
  ·exact g.prim w (by simp)
 ·simp only[xjf,xjv,xj9] at hw
  rcases xjc.mp ht with ht | ht
  ·rcases hw with rfl | rfl
   ·exact bt.kept (g.kept u (by simp) t ht) (g.kept v (by simp) t ht)
   ·exact g.kept w (by simp) t ht
  ·have:t=r:=by simpa using ht
   subst this
   rcases hw with rfl | rfl
   ·rw[x0];exact xib _
   ·exact xh_ hv
 ·have he:(a,b)=(v,xq r u v)∨(a,b)=(xq r u v,v):=by simpa [cyc,chain,xo] using he
  rcases he with e | e<;>injection e with e1 e2<;>subst e1 e2
  ·exact⟨s,xjd _ hs,sv,sx⟩
  ·exact⟨s,xjd _ hs,sx,sv⟩
 ·simp only[xjf,xjv,xj9] at hw
  rcases hw with rfl | rfl
  ·exact⟨s,xjd _ hs,r,by simp,sx,x0,unlike (dir s hs) bu bv su sv (xin hu hv)⟩
  ·obtain⟨s,hs',t,ht,a⟩:=g.two w (by simp)
   exact⟨s,xjd _ hs',t,xjd _ ht,a⟩
 ·obtain⟨m,hm,c⟩:=g.all p hz fun s hs=>hp s (xjd _ hs)
  obtain⟨a,b,a0,b0,e⟩:=c.pair
  have hr:val r (mul m p)≤0:=by rw[val_mul];exact pn (xh_ hm) (hp r (by simp))
  rw[e,val_add,val_mul,val_mul] at hr
  have av:abs (val r v) = - val r v:=by unfold abs;rw[if_pos hv]
  have au:abs (val r u)=val r u:=by unfold abs;rw[if_neg (by omega)]
  refine⟨(- val r v)*m,pp (by omega) hm,?_⟩
  have e2:mul ((- val r v)*m) p=add (mul (a*(ud (cw r u v):Int)) (xq r u v)) (mul (b*(- val r v)-a*val r u) v):=by
   have e3:mul ((- val r v)*m) p=mul (- val r v) (mul m p):=by apply ext3<;>simp only[mul]<;>grind
   have e4:mul (a*(ud (cw r u v):Int)) (xq r u v)=mul a (mul (ud (cw r u v)) (xq r u v)):=by apply ext3<;>simp only[mul]<;>grind
   rw[e3,e,e4,bt.e,av,au]
   apply ext3<;>simp only[mul,add]<;>grind
  rw[e2]
  have k:0≤b*(- val r v)-a*val r u:=by
   have:b*(- val r v)-a*val r u = - (a*val r u+b*val r v):=by grind
   omega
  exact((Cn.mem (by simp)).smul (pz a0 (xh_ bt.pg))).add ((Cn.mem (by simp)).smul k)
theorem Good.sw {Ls:List R3}{u v:R3}(g:Good Ls [u,v]):Good Ls [v,u]:=Good.rot (a:=[u]) (b:=[v]) g
theorem bC {Ls l:List R3}{r:R3}(g:Good Ls l)(dir:∀s∈Ls,s.1≠0∨s.2.1≠0):Good (Ls++[r]) (yK l r):=by
 match l,g with
 | [],g =>
  show Good (Ls++[r]) []
  exact jg g fun v hv=>by simp at hv
 | [v],g =>
  by_cases h:val r v≤0
  ·have hk:∀w∈[v],val r w≤0:=fun w hw=>by rw[xjq.mp hw];exact h
   rw[rV (by rw[qe hk];simp),qe hk]
   exact jg g hk
  ·have hk:∀w∈[v],0<val r w:=fun w hw=>by rw[xjq.mp hw];omega
   rw[rV (by rw[vS hk];simp),vS hk]
   exact uY g (fun w hw=>xh_ (hk w hw)) (xjs _) (by simp) (fun w hw=>by simp at hw) fun w hw h0=>by have:=hk w hw;omega
 | [u,v],g =>
  have ne:u≠v:=by
   have:=g.ccw.nd
   simp at this
   exact this
  have cy:cyc [u,v]=[(v,u),(u,v)]:=rfl
  unfold yK
  rw[cy]
  simp only[xiM,List.foldl_nil]
  by_cases c:val r u*val r v<0
  ·have c':val r v*val r u<0:=by rw[xif];exact c
   have ex:xq r v u=xq r u v:=by unfold xq;rw[oV]
   have hu0:val r u≠0:=fun z=>by rw[z] at c;simp at c
   have hv0:val r v≠0:=fun z=>by rw[z] at c;simp at c
   by_cases hu:val r u≤0
   ·have hv:0<val r v:=by
     rcases xid 0 (val r v) with z | z
     ·exact z
     ·have:=nn hu z;omega
    have e1:yj r [] (v,u)=[xq r v u,u]:=by
     unfold yj
     simp only[if_pos c',if_pos hu]
     simp
    have e2:yj r [xq r v u,u] (u,v)=[xq r v u,u]:=by
     unfold yj
     simp only[if_pos c,if_neg (show ¬val r v≤0 by omega)]
     rw[if_pos (by rw[←ex];simp)]
    rw[e1,e2]
    exact j7 g.sw dir hv (by omega) rfl
   ·have hv:val r v<0:=by
     rcases xid (val r v) 0 with z | z
     ·exact z
     ·have:=pz (by omega:0≤val r u) z;omega
    have e1:yj r [] (v,u)=[xq r v u]:=by
     unfold yj
     simp only[if_pos c',if_neg hu]
     simp
    have e2:yj r [xq r v u] (u,v)=[xq r v u,v]:=by
     unfold yj
     simp only[if_pos c,if_pos (show val r v≤0 by omega)]
     rw[if_pos (by rw[←ex];simp)];rfl
    rw[e1,e2]
    exact j7 g dir (by omega) hv ex
  ·have c':¬val r v*val r u<0:=by rw[xif];exact c
   have e1:yj r [] (v,u)=if val r u≤0 then[u] else[]:=by
    unfold yj
    simp only[if_neg c']
    split<;>simp
   have e2:∀l,yj r l (u,v)=if val r v≤0 then l++[v] else l:=fun l=>by
    unfold yj
    simp only[if_neg c]
   rw[e1,e2]
   by_cases hu:val r u≤0
   ·rw[if_pos hu]
    by_cases hv:val r v≤0
    ·rw[if_pos hv]
     show Good (Ls++[r]) [u,v]
     exact jg g fun w hw=>by
      simp only[xjf,xjv,xj9] at hw
      rcases hw with rfl | rfl<;>assumption
    ·rw[if_neg hv]
     have hu0:val r u=0:=by
      rcases xid (val r u) 0 with z | z
      ·have:=xim z (show 0<val r v by omega);omega
      ·omega
     exact uY g (fun w hw=>by
      simp only[xjf,xjv,xj9] at hw
      rcases hw with rfl | rfl<;>omega) (by simp) (by simp) (fun w hw=>by rw[xjq.mp hw];exact hu0) fun w hw h0=>by
       simp only[xjf,xjv,xj9] at hw
       rcases hw with rfl | rfl
       ·simp
       ·omega
   ·rw[if_neg hu]
    by_cases hv:val r v≤0
    ·rw[if_pos hv]
     have hv0:val r v=0:=by
      rcases xid (val r v) 0 with z | z
      ·have:=xin (show 0<val r u by omega) z;omega
      ·omega
     exact uY g (fun w hw=>by
      simp only[xjf,xjv,xj9] at hw
      rcases hw with rfl | rfl<;>omega) (by simp) (by simp) (fun w hw=>by
       have:w=v:=by simpa using hw
       rw[this];exact hv0) fun w hw h0=>by
       simp only[xjf,xjv,xj9] at hw
       rcases hw with rfl | rfl
       ·omega
       ·simp
    ·rw[if_neg hv]
     exact uY g (fun w hw=>by
      simp only[xjf,xjv,xj9] at hw
      rcases hw with rfl | rfl<;>omega) (by simp) (by simp) (fun w hw=>by simp at hw) fun w hw h0=>by
       simp only[xjf,xjv,xj9] at hw
       rcases hw with rfl | rfl<;>omega
 | x::y::z::t,g =>
  obtain⟨a,b,P,Q,e1,e2,hP,hQ⟩:=g.ccw.parts r
  have e0:x::y::z::t=a++b:=e1
  rw[e0] at g ⊢
  have gr:Good Ls (b++a):=g.rot
  have mem:∀v,v∈a++b→v∈P++Q:=fun v hv=>by rw[←e2];simpa [or_comm] using hv
  have hlen:(P++Q).length=t.length+3:=by
   rw[←e2,xiW,Nat.add_comm,←xiW,←e0];simp
  cases P with
  | nil =>
   have hk:∀v∈a++b,val r v≤0:=fun v hv=>hQ v (by simpa using mem v hv)
   rw[rV (by rw[qe hk];exact g.ccw.nd),qe hk]
   exact jg g hk
  | cons p1 P =>
   cases Q with
   | nil =>
    have hk:∀v∈a++b,0<val r v:=fun v hv=>hP v (by simpa using mem v hv)
    rw[rV (by rw[vS hk];simp),vS hk]
    exact uY g (fun w hw=>xh_ (hk w hw)) (xjs _) (by simp) (fun w hw=>by simp at hw) fun w hw h0=>by have:=hk w hw;omega
   | cons q1 Q =>
    have S:xcx Ls r p1 q1 P Q:=⟨by rw[←e2];exact gr,hP,hQ,by
     rcases xh1 (P=[]) with h | h
     ·right
      intro h'
      subst h h'
      simp at hlen
     ·exact .inl h,dir⟩
    have gl:=S.good_left
    unfold xcx.left at gl
    have g2:=Good.rot (a:=bef r (xo p1 P) q1++q1::Q) (b:=bef r p1 (xo q1 Q)) gl
    rw[←dU hP hQ,←e2] at g2
    obtain⟨c,d,f1,f2⟩:=cZ r a b
    rw[f2] at g2
    have g3:=g2.rot
    rw[←f1] at g3
    rw[rV g3.ccw.nd]
    exact g3
end Pol
namespace Pol
def FAR:Int:=60001
def box:List R3:=[(-FAR,-FAR,1),(FAR,-FAR,1),(FAR,FAR,1),(-FAR,FAR,1)]
def ox:List R3:=[(-1,0,FAR),(1,0,FAR),(0,-1,FAR),(0,1,FAR)]
theorem xhF {a b c d u v w:R3}(s:List.Sublist [u,v,w] [a,b,c,d]):(u=a∧v=b∧w=c)∨(u=a∧v=b∧w=d)∨(u=a∧v=c∧w=d)∨(u=b∧v=c∧w=d):=by
 have full:∀ {x y z u v w:R3},List.Sublist [u,v,w] [x,y,z]→u=x∧v=y∧w=z:=fun {x y z u v w} s=>by
  have:=s.eq_of_length (by simp)
  injection this with h1 h2
  injection h2 with h2 h3
  injection h3 with h3 _
  exact⟨h1,h2,h3⟩
 cases s with
 | cons _ s=>exact .inr (.inr (.inr (full s)))
 | cons_cons _ s =>
  have two:∀ {x y z v w:R3},List.Sublist [v,w] [x,y,z]→(v=x∧w=y)∨(v=x∧w=z)∨(v=y∧w=z):=fun {x y z v w} s=>by
   cases s with
   | cons _ s =>
    have:=s.eq_of_length (by simp)
    injection this with h1 h2
    injection h2 with h2 _
    exact .inr (.inr ⟨h1,h2⟩)
   | cons_cons _ s =>
    have:w∈[y,z]:=xjB.mp s
    simp only[xjf,xjv,xj9] at this
    rcases this with rfl | rfl
    ·exact .inl ⟨rfl,rfl⟩
    ·exact .inr (.inl ⟨rfl,rfl⟩)
  rcases two s with ⟨h1,h2⟩ | ⟨h1,h2⟩ | ⟨h1,h2⟩
  ·exact .inl ⟨rfl,h1,h2⟩
  ·exact .inr (.inl ⟨rfl,h1,h2⟩)
  ·exact .inr (.inr (.inl ⟨rfl,h1,h2⟩))
theorem lL:Ccw box:=by
 refine⟨fun u v w s=>?_,by decide⟩
 rcases xhF s with ⟨rfl,rfl,rfl⟩ | ⟨rfl,rfl,rfl⟩ | ⟨rfl,rfl,rfl⟩ | ⟨rfl,rfl,rfl⟩<;>decide
theorem bD:Good ox box:=by
 refine⟨lL,by decide,by decide,by decide,fun u v h _=>?_,by decide,fun p hz hp=>?_⟩
 ·have h:(u,v)∈[((-FAR,FAR,1),(-FAR,-FAR,1)),((-FAR,-FAR,1),(FAR,-FAR,1)),((FAR,-FAR,1),(FAR,FAR,1)),((FAR,FAR,1),(-FAR,FAR,1))]:=h
  simp only[xjf,xjv,xj9] at h
  rcases h with h | h | h | h<;>injection h with h1 h2<;>subst h1 h2
  ·exact⟨(-1,0,FAR),by decide,by decide,by decide⟩
  ·exact⟨(0,-1,FAR),by decide,by decide,by decide⟩
  ·exact⟨(1,0,FAR),by decide,by decide,by decide⟩
  ·exact⟨(0,1,FAR),by decide,by decide,by decide⟩
 ·have h1:=hp (-1,0,FAR) (by decide)
  have h2:=hp (1,0,FAR) (by decide)
  have h3:=hp (0,-1,FAR) (by decide)
  have h4:=hp (0,1,FAR) (by decide)
  simp only[val,FAR] at h1 h2 h3 h4
  refine lL.incone (by decide) fun u v h=>?_
  have h:(u,v)∈[((-FAR,FAR,1),(-FAR,-FAR,1)),((-FAR,-FAR,1),(FAR,-FAR,1)),((FAR,-FAR,1),(FAR,FAR,1)),((FAR,FAR,1),(-FAR,FAR,1))]:=h
  simp only[xjf,xjv,xj9] at h
  rcases h with h | h | h | h<;>injection h with h5 h6<;>subst h5 h6<;>simp only[det,FAR]<;>omega
def pieces (rows:List R3):List R3:=rows.foldl yK box
theorem mE:∀(rows Ls l:List R3),Good Ls l→(∀s∈Ls,s.1≠0∨s.2.1≠0)→(∀s∈rows,s.1≠0∨s.2.1≠0)→Good (Ls++rows) (rows.foldl yK l)
 | [],Ls,l,g,_,_=>by simpa using g
 | r::rows,Ls,l,g,d1,d2=>by
  rw[xiM]
  have:=mE rows (Ls++[r]) (yK l r) (bC g d1) (fun s hs=>by
   rcases xjc.mp hs with h | h
   ·exact d1 s h
   ·rw[xjq.mp h];exact d2 r xjh) (fun s hs=>d2 s (xjg _ hs))
  rwa [xiy] at this
theorem wm {rows:List R3}(d:∀s∈rows,s.1≠0∨s.2.1≠0):Good (ox++rows) (pieces rows):=mE rows ox box bD (by decide) d
def GR (rows:List R3):Prop:=∀u v:Int,(u≠0∨v≠0)→∃r∈rows,0<r.1*u+r.2.1*v
theorem best {rows:List R3}(f g:R3→Int)(h:∃r∈rows,0<g r):∃i∈rows,0<g i∧∀r∈rows,0<g r→f r*g i≤f i*g r:=by
 induction rows with
 | nil=>obtain⟨r,hr,_⟩:=h;simp at hr
 | cons x rows ih =>
  by_cases hx:0<g x
  ·by_cases hr:∃r∈rows,0<g r
   ·obtain⟨i,hi,gi,hb⟩:=ih hr
    rcases xid (f i*g x) (f x*g i) with c | c
    ·refine⟨x,xjh,hx,fun r hr gr=>?_⟩
     rcases xjf.mp hr with rfl | hr
     ·exact xib _
     ·have h1:=hb r hr gr
      have h2:(f r*g i)*g x≤(f i*g r)*g x:=xik h1 (xh_ hx)
      have h3:(f i*g x)*g r≤(f x*g i)*g r:=xik (xh_ c) (xh_ gr)
      have h4:g i*(f r*g x)≤g i*(f x*g r):=by
       have e1:g i*(f r*g x)=(f r*g i)*g x:=by grind
       have e2:(f i*g r)*g x=(f i*g x)*g r:=by grind
       have e3:(f x*g i)*g r=g i*(f x*g r):=by grind
       omega
      exact xia h4 gi
    ·refine⟨i,xjg _ hi,gi,fun r hr gr=>?_⟩
     rcases xjf.mp hr with rfl | hr
     ·exact c
     ·exact hb r hr gr
   ·refine⟨x,xjh,hx,fun r hr' gr=>?_⟩
    rcases xjf.mp hr' with rfl | h'
    ·exact xib _
    ·exact absurd ⟨r,h',gr⟩ hr
  ·obtain⟨r,hr,gr⟩:=h
   rcases xjf.mp hr with rfl | hr
   ·exact absurd gr hx
   ·obtain⟨i,hi,gi,hb⟩:=ih ⟨r,hr,gr⟩
    refine⟨i,xjg _ hi,gi,fun r hr gr=>?_⟩
    rcases xjf.mp hr with rfl | hr
    ·exact absurd gr hx
    ·exact hb r hr gr
theorem xcI {rows:List R3}(h:GR rows)(hb:∀r∈rows,(-30≤r.2.1∧r.2.1≤30)∧r.2.2≤1000){p:R3}(hz:0<p.2.2)(hp:∀r∈rows,val r p≤0):p.1≤60000*p.2.2:=by
 by_cases hc:∃r∈rows,r.2.1=0∧0<r.1
 ·obtain⟨r,hr,r0,r1⟩:=hc
  have h1:=hp r hr
  have h2:=(hb r hr).2
  simp only[val,r0,xit,xh2] at h1
  rcases xid 0 p.1 with c | c
  ·have h3:p.1≤r.1*p.1:=by
    have:1*p.1≤r.1*p.1:=xik (by omega) (xh_ c)
    omega
   have h4:r.2.2*p.2.2≤1000*p.2.2:=xik h2 (xh_ hz)
   omega
  ·omega
 ·obtain⟨i,hi,gi,mi⟩:=best (rows:=rows) (fun r=>r.1) (fun r=>r.2.1) (by
   obtain⟨r,hr,h1⟩:=h 0 1 (.inr (by decide))
   exact⟨r,hr,by simpa using h1⟩)
  obtain⟨j,hj,gj,mj⟩:=best (rows:=rows) (fun r=>r.1) (fun r=>- r.2.1) (by
   obtain⟨r,hr,h1⟩:=h 0 (-1) (.inr (by decide))
   exact⟨r,hr,by simp at h1;omega⟩)
  have pos:0<(- j.2.1)*i.1+i.2.1*j.1:=by
   rcases xid 0 ((- j.2.1)*i.1+i.2.1*j.1) with c | c
   ·exact c
   ·exfalso
    obtain⟨r,hr,h1⟩:=h i.2.1 (- i.1) (.inl (by omega))
    rcases xie r.2.1 0 with d | d | d
    ·have h2:=mj r hr (by omega)
     have h3:i.2.1*(r.1*(- j.2.1))≤i.2.1*(j.1*(- r.2.1)):=xij h2 (xh_ gi)
     have h4:(- r.2.1)*((- j.2.1)*i.1+i.2.1*j.1)≤0:=pn (by omega) c
     have h5:(- j.2.1)*(r.1*i.2.1+r.2.1*(- i.1))≤0:=by
      have e:(- j.2.1)*(r.1*i.2.1+r.2.1*(- i.1))=i.2.1*(r.1*(- j.2.1))-i.2.1*(j.1*(- r.2.1))+(- r.2.1)*((- j.2.1)*i.1+i.2.1*j.1):=by grind
      omega
     have h6:0<(- j.2.1)*(r.1*i.2.1+r.2.1*(- i.1)):=pp gj h1
     omega
    ·rw[d] at h1
     simp only[xit,xh2] at h1
     have:0<r.1:=by
      rcases xid 0 r.1 with z | z
      ·exact z
      ·have:=np z (xh_ gi);omega
     exact hc ⟨r,hr,d,this⟩
    ·have h2:=mi r hr d
     have e:r.1*i.2.1+r.2.1*(- i.1)=r.1*i.2.1-i.1*r.2.1:=by grind
     omega
  have h1:=hp i hi
  have h2:=hp j hj
  obtain⟨⟨b1,b2⟩,b3⟩:=hb i hi
  obtain⟨⟨b4,b5⟩,b6⟩:=hb j hj
  have k1:(- j.2.1)*val i p≤0:=pn (xh_ gj) h1
  have k2:i.2.1*val j p≤0:=pn (xh_ gi) h2
  have k3:((- j.2.1)*i.1+i.2.1*j.1)*p.1≤((- j.2.1)*i.2.2+i.2.1*j.2.2)*p.2.2:=by
   have e:((- j.2.1)*i.1+i.2.1*j.1)*p.1-((- j.2.1)*i.2.2+i.2.1*j.2.2)*p.2.2=(- j.2.1)*val i p+i.2.1*val j p:=by simp only[val];grind
   omega
  have k4:(- j.2.1)*i.2.2≤30000:=by
   have:(- j.2.1)*i.2.2≤(- j.2.1)*1000:=xij b3 (xh_ gj)
   omega
  have k5:i.2.1*j.2.2≤30000:=by
   have:i.2.1*j.2.2≤i.2.1*1000:=xij b6 (xh_ gi)
   omega
  have k6:((- j.2.1)*i.2.2+i.2.1*j.2.2)*p.2.2≤60000*p.2.2:=xik (by omega) (xh_ hz)
  rcases xid 0 p.1 with c | c
  ·have:1*p.1≤((- j.2.1)*i.1+i.2.1*j.1)*p.1:=xik (by omega) (xh_ c)
   omega
  ·omega
def rk (r:R3):Prop:=((-30≤r.1∧r.1≤30)∧(-30≤r.2.1∧r.2.1≤30))∧(-1000≤r.2.2∧r.2.2≤1000)
theorem xeG {rows:List R3}(h:GR rows)(hb:∀r∈rows,rk r){p:R3}(hz:0<p.2.2)(hp:∀r∈rows,val r p≤0) :
  (-(60000*p.2.2)≤p.1∧p.1≤60000*p.2.2)∧(-(60000*p.2.2)≤p.2.1∧p.2.1≤60000*p.2.2):=by
 have tr:∀(f:R3→R3) (q:R3),(∀r,val (f r) q=val r p)→q.2.2=p.2.2→(∀r∈rows,(-30≤(f r).2.1∧(f r).2.1≤30)∧(f r).2.2≤1000)→GR (rows.map f)→q.1≤60000*p.2.2:=fun f q h1 h2 h3 h4=>by
  have:=xcI (rows:=rows.map f) (p:=q) h4 (fun r hr=>by
   obtain⟨r0,hr0,rfl⟩:=xjl.mp hr
   exact h3 r0 hr0) (by rw[h2];exact hz) (fun r hr=>by
   obtain⟨r0,hr0,rfl⟩:=xjl.mp hr
   rw[h1];exact hp r0 hr0)
  rwa [h2] at this
 have gm:∀(f:R3→R3) (m:Int→Int→Int×Int),(∀u v,(u≠0∨v≠0)→((m u v).1≠0∨(m u v).2≠0))→(∀r u v,(f r).1*u+(f r).2.1*v=r.1*(m u v).1+r.2.1*(m u v).2)→GR (rows.map f):=fun f m h1 h2 u v hn=>by
  obtain⟨r,hr,h3⟩:=h _ _ (h1 u v hn)
  exact⟨f r,xjl.mpr ⟨r,hr,rfl⟩,by rw[h2];exact h3⟩
 refine⟨⟨?_,?_⟩,?_,?_⟩
 ·have:=tr (fun r=>(- r.1,r.2.1,r.2.2)) (- p.1,p.2.1,p.2.2) (fun r=>by simp only[val];grind) rfl (fun r hr=>⟨(hb r hr).1.2,(hb r hr).2.2⟩)
   (gm _ (fun u v=>(- u,v)) (fun u v hn=>by simp only;omega) (fun r u v=>by simp only;grind))
  simp only at this
  omega
 ·exact xcI h (fun r hr=>⟨(hb r hr).1.2,(hb r hr).2.2⟩) hz hp
 ·have:=tr (fun r=>(- r.2.1,r.1,r.2.2)) (- p.2.1,p.1,p.2.2) (fun r=>by simp only[val];grind) rfl (fun r hr=>⟨(hb r hr).1.1,(hb r hr).2.2⟩)
   (gm _ (fun u v=>(v,- u)) (fun u v hn=>by simp only;omega) (fun r u v=>by simp only;grind))
  simp only at this
  omega
 ·exact tr (fun r=>(r.2.1,r.1,r.2.2)) (p.2.1,p.1,p.2.2) (fun r=>by simp only[val];grind) rfl (fun r hr=>⟨(hb r hr).1.1,(hb r hr).2.2⟩)
   (gm _ (fun u v=>(v,u)) (fun u v hn=>by simp only;omega) (fun r u v=>by simp only;grind))
structure IsC (rows:List R3)(p:R3):Prop where
 kept:∀r∈rows,val r p≤0
 two:∃s∈rows,∃t∈rows,val s p=0∧val t p=0∧turn s t≠0
def aC (p q:R3):Prop:=p.1*q.2.2=q.1*p.2.2∧p.2.1*q.2.2=q.2.1*p.2.2
theorem xeL {s t p q:R3}(hn:turn s t≠0)(p1:val s p=0)(p2:val t p=0)(q1:val s q=0)(q2:val t q=0):aC p q:=by
 have e1:turn s t*(p.1*q.2.2-q.1*p.2.2)=(t.2.1*val s p-s.2.1*val t p)*q.2.2-(t.2.1*val s q-s.2.1*val t q)*p.2.2:=by simp only[turn,val];grind
 have e2:turn s t*(p.2.1*q.2.2-q.2.1*p.2.2)=(s.1*val t p-t.1*val s p)*q.2.2-(s.1*val t q-t.1*val s q)*p.2.2:=by simp only[turn,val];grind
 rw[p1,p2,q1,q2] at e1 e2
 have e1:turn s t*(p.1*q.2.2-q.1*p.2.2)=0:=by rw[e1];grind
 have e2:turn s t*(p.2.1*q.2.2-q.2.1*p.2.2)=0:=by rw[e2];grind
 have:=(xii.mp e1).resolve_left hn
 have:=(xii.mp e2).resolve_left hn
 exact⟨by omega,by omega⟩
section
variable {rows more:List R3}
structure xcp (rows more:List R3):Prop where
 box:∀ {p:R3},0<p.2.2→(∀r∈more,val r p≤0)→∀s∈ox,val s p<0
 fr:∀r∈rows,rk r
 sub:∀r∈rows,r∈more
 dir:∀r∈more,r.1≠0∨r.2.1≠0
theorem xdI (gr:GR rows)(fr:∀r∈rows,rk r)(sub:∀r∈rows,r∈more)(dir:∀r∈more,r.1≠0∨r.2.1≠0):xcp rows more:=⟨fun {p} hz hp s hs=>by
 obtain⟨⟨h1,h2⟩,h3,h4⟩:=xeG gr fr hz fun r hr=>hp r (sub r hr)
 simp only[ox,xjf,xjv,xj9] at hs
 rcases hs with rfl | rfl | rfl | rfl<;>simp only[val,FAR]<;>omega,fr,sub,dir⟩
theorem xcp.corner (F:xcp rows more){v:R3}(hv:v∈pieces more):0<v.2.2∧ud v=1∧IsC more v:=by
 have g:=wm F.dir
 have hz:=g.bot v hv
 have hk:∀r∈more,val r v≤0:=fun r hr=>g.kept v hv r (xje _ hr)
 have nb:=F.box hz hk
 obtain⟨s,hs,t,ht,a,b,c⟩:=g.two v hv
 have in':∀x∈ox++more,val x v=0→x∈more:=fun x hx h0=>by
  rcases xjc.mp hx with h | h
  ·have:=nb x h;omega
  ·exact h
 exact⟨hz,g.prim v hv,hk,s,in' s hs a,t,in' t ht b,a,b,c⟩
theorem xcp.incone (F:xcp rows more){p:R3}(hz:0<p.2.2)(hp:∀r∈more,val r p≤0):InC (pieces more) p:=by
 have g:=wm F.dir
 refine g.all p hz fun s hs=>?_
 rcases xjc.mp hs with h | h
 ·exact xh_ (F.box hz hp s h)
 ·exact hp s h
theorem val_neg (r p:R3):val (- r.1,- r.2.1,- r.2.2) p = - val r p:=by simp only[val];grind
theorem xcp.found (F:xcp rows more){p:R3}(hz:0<p.2.2)(hp:IsC more p):∃v∈pieces more,aC v p:=by
 obtain⟨m,hm,c⟩:=F.incone hz hp.kept
 obtain⟨s,hs,t,ht,a,b,hn⟩:=hp.two
 have g:=wm F.dir
 have kept:∀v∈pieces more,∀r∈more,val r v≤0:=fun v hv r hr=>g.kept v hv r (xje _ hr)
 have c1:=c.zeros (- s.1,- s.2.1,- s.2.2) (fun v hv=>by rw[val_neg];have:=kept v hv s hs;omega) (by rw[val_neg,val_mul,a];simp)
 have c2:=c1.zeros (- t.1,- t.2.1,- t.2.2) (fun v hv=>by rw[val_neg];have:=kept v (xji.mp hv).1 t ht;omega) (by rw[val_neg,val_mul,b];simp)
 cases e:((pieces more).filter fun v=>val (- s.1,- s.2.1,- s.2.2) v=0).filter (fun v=>val (- t.1,- t.2.1,- t.2.2) v=0) with
 | nil =>
  rw[e] at c2
  exfalso
  rcases c2.bot (fun v hv=>by simp at hv) with h | h
  ·have:m*p.2.2=0:=xj0 (·.2.2) h
   have:=pp hm hz
   omega
  ·have:∀q:R3,Cn [] q→q=(0,0,0):=fun q hq=>by
    induction hq with
    | zero=>rfl
    | mem h=>simp at h
    | add _ _ h1 h2=>rw[h1,h2];rfl
   rw[this _ c2] at h
   simp at h
 | cons v r =>
  have hv:v∈((pieces more).filter fun v=>val (- s.1,- s.2.1,- s.2.2) v=0).filter (fun v=>val (- t.1,- t.2.1,- t.2.2) v=0):=by rw[e];exact xjh
  obtain⟨h1,h2⟩:=xji.mp hv
  obtain⟨h3,h4⟩:=xji.mp h1
  have h2:val (- t.1,- t.2.1,- t.2.2) v=0:=by simpa using h2
  have h4:val (- s.1,- s.2.1,- s.2.2) v=0:=by simpa using h4
  rw[val_neg] at h2 h4
  exact⟨v,h3,xeL hn (by omega) (by omega) a b⟩
end
end Pol
namespace Pol
def dot (r s:R3):Int:=r.1*s.1+r.2.1*s.2.1
def xaa (sg:Int)(last:Option R3)(x:R3):Bool:=match last with | none=>true | some l=>decide (0<sg*turn l x)
def zW (r:R3)(sg:Int)(last:Option R3)(x:R3):Option R3 :=
 if 0<sg*turn r x∧xaa sg last x=true then some x else last
def far (r:R3)(sg:Int)(rs:List R3):Option R3:=rs.foldl (zW r sg) none
def back (r:R3)(rs:List R3):Bool:=rs.any fun x=>decide (turn r x=0)&&decide (dot r x<0)
def wL:List R3→Bool
 | []=>false
 | r::rs=>match far r 1 (r::rs),far r (-1) (r::rs) with
  | some l,some k=>decide (0<turn l k) || back r (r::rs)
  | _,_=>false
theorem xfe {a b:Int}(h:0<a)(k:a*b≤0):b≤0:=by
 rcases xid 0 b with z | z
 ·have:=pp h z;omega
 ·exact z
theorem plk (r l k z:R3):turn r l*turn k z-turn r k*turn l z+turn r z*turn l k=0:=by
 obtain⟨a,b,_⟩:=r;obtain⟨c,d,_⟩:=l;obtain⟨e,f,_⟩:=k;obtain⟨g,h,_⟩:=z
 simp only[turn];grind
theorem xgs (r l z:R3):z.1*turn r l=r.1*turn z l+l.1*turn r z:=by
 obtain⟨a,b,_⟩:=r;obtain⟨c,d,_⟩:=l;obtain⟨g,h,_⟩:=z
 simp only[turn];grind
theorem xgm (r l z:R3):z.2.1*turn r l=r.2.1*turn z l+l.2.1*turn r z:=by
 obtain⟨a,b,_⟩:=r;obtain⟨c,d,_⟩:=l;obtain⟨g,h,_⟩:=z
 simp only[turn];grind
theorem xgU (r l:R3):turn l r = - turn r l:=by
 obtain⟨a,b,_⟩:=r;obtain⟨c,d,_⟩:=l
 simp only[turn];grind
theorem proj (r x z:R3):dot r r*turn x z=dot r x*turn r z-turn r x*dot r z:=by
 obtain⟨a,b,_⟩:=r;obtain⟨c,d,_⟩:=x;obtain⟨g,h,_⟩:=z
 simp only[turn,dot];grind
theorem sq {a:Int}(h:a≠0):0<a*a:=by
 rcases xid 0 a with z | z
 ·exact pp z z
 ·have:0<(-a)*(-a):=pp (by omega) (by omega)
  rwa [Int.neg_mul_neg] at this
theorem sq0 (a:Int):0≤a*a:=by
 rcases xid 0 a with z | z
 ·exact pz (by omega) (by omega)
 ·exact nn z z
theorem xcl {r:R3}(h:r.1≠0∨r.2.1≠0):0<dot r r:=by
 unfold dot
 have h1:=sq0 r.1
 have h2:=sq0 r.2.1
 rcases h with h | h
 ·have:=sq h;omega
 ·have:=sq h;omega
theorem xd_ {r l z:R3}(h:turn r l≠0)(h1:turn r z=0)(h2:turn l z=0):z.1=0∧z.2.1=0:=by
 have b1:=xgs r l z
 have b2:=xgm r l z
 have a1:=xgU l z
 rw[h2] at a1
 rw[a1,h1] at b1 b2
 simp only[xip,Int.neg_zero,xh2] at b1 b2
 exact⟨(xii.mp b1).resolve_right h,(xii.mp b2).resolve_right h⟩
structure mD (r:R3)(s:Int)(rs:List R3)(l:R3):Prop where
 mem:l∈rs
 left:0<s*turn r l
 all:∀x∈rs,0<s*turn r x→s*turn l x≤0
theorem xhS (s:Int)(r l k z:R3):(s*turn r l)*(s*turn k z)=(s*turn r k)*(s*turn l z)-(s*turn r z)*(s*turn l k):=by
 have:=plk r l k z
 grind
def xg3 (r:R3)(s:Int)(done:List R3):Option R3→Prop
 | none=>∀x∈done,s*turn r x≤0
 | some l=>mD r s done l
theorem lQ {r:R3}{s:Int}:∀(rs done:List R3) (o:Option R3),xg3 r s done o→xg3 r s (done++rs) (rs.foldl (zW r s) o)
 | [],done,o,h=>by simpa using h
 | y::rs,done,o,h=>by
  rw[xiM]
  have ih:=lQ (r:=r) (s:=s) rs (done++[y]) (zW r s o y) (by
   unfold zW
   by_cases c:0<s*turn r y∧xaa s o y=true
   ·rw[if_pos c]
    obtain⟨c1,c2⟩:=c
    refine⟨by simp,c1,fun x hx hp=>?_⟩
    rcases xjc.mp hx with hx | hx
    ·cases o with
     | none=>exact absurd (show s*turn r x≤0 from h x hx) (by omega)
     | some l =>
      have h:mD r s done l:=h
      have c2:0<s*turn l y:=xj8 c2
      have hl:s*turn l x≤0:=h.all x hx hp
      have e:=xhS s r l y x
      have p1:=pn (xh_ c1) hl
      have p2:=pp hp c2
      exact xfe h.left (by rw[e];omega)
    ·have:x=y:=by simpa using hx
     subst this
     have:turn x x=0:=by unfold turn;grind
     rw[this];simp
   ·rw[if_neg c]
    cases o with
    | none =>
     intro x hx
     rcases xjc.mp hx with hx | hx
     ·exact h x hx
     ·have:x=y:=by simpa using hx
      subst this
      have c':¬0<s*turn r x:=fun z=>c ⟨z,rfl⟩
      omega
    | some l =>
     have h:mD r s done l:=h
     refine⟨xjd _ h.mem,h.left,fun x hx hp=>?_⟩
     rcases xjc.mp hx with hx | hx
     ·exact h.all x hx hp
     ·have:x=y:=by simpa using hx
      subst this
      have c':¬0<s*turn l x:=fun z=>c ⟨hp,xj3 z⟩
      omega)
  rwa [xiy] at ih
theorem bh {r:R3}{s:Int}{rs:List R3}(h:far r s rs=none):∀x∈rs,s*turn r x≤0:=by
 have:=lQ (r:=r) (s:=s) rs [] none (fun x hx=>by simp at hx)
 unfold far at h
 rw[h] at this
 intro x hx
 exact this x (by simpa using hx)
theorem qU {r l:R3}{s:Int}{rs:List R3}(h:far r s rs=some l):mD r s rs l:=by
 have:=lQ (r:=r) (s:=s) rs [] none (fun x hx=>by simp at hx)
 unfold far at h
 rw[h,xjr] at this
 exact this
theorem oW {r l k:R3}{rs:List R3}(hr:r∈rs)(r0:r.1≠0∨r.2.1≠0)(hl:mD r 1 rs l)(hk:mD r (-1) rs k)(h:0<turn l k∨back r rs=true){z:R3}(hz:∀x∈rs,turn x z≤0):z.1=0∧z.2.1=0:=by
 have l1:0<turn r l:=by have:=hl.left;omega
 have k1:turn r k<0:=by have:=hk.left;omega
 have zr:=hz r hr
 have zl:=hz l hl.mem
 have zk:=hz k hk.mem
 have e:=plk r l k z
 have p1:=pn (xh_ l1) zk
 have p2:=nn (xh_ k1) zl
 have hz0:turn r z=0:=by
  rcases h with h | h
  ·have p3:=np zr (xh_ h)
   have p4:turn r z*turn l k=0:=by omega
   exact(xii.mp p4).resolve_right (by omega)
  ·unfold back at h
   rw[xix] at h
   obtain⟨b,hb,c⟩:=h
   simp only[xhX,xj4] at c
   have q:=proj r b z
   rw[c.1] at q
   simp only[xit,Int.sub_zero] at q
   have q1:=pn (xh_ (xcl r0)) (hz b hb)
   have q2:=nn (xh_ c.2) zr
   have q3:dot r b*turn r z=0:=by omega
   exact(xii.mp q3).resolve_left (by have:=c.2;omega)
 rw[hz0] at e
 simp only[xit,xh2] at e
 have p5:turn r k*turn l z=0:=by omega
 exact xd_ (by omega) hz0 ((xii.mp p5).resolve_left (by omega))
theorem xcf {r l k:R3}{rs:List R3}(r0:∀x∈rs,x.1≠0∨x.2.1≠0)(hr:r∈rs)(hl:mD r 1 rs l)(hk:mD r (-1) rs k)(h:¬0<turn l k)(hb:back r rs=false):∀x∈rs,turn l x≤0:=by
 intro x hx
 have l1:0<turn r l:=by have:=hl.left;omega
 have k1:turn r k<0:=by have:=hk.left;omega
 rcases xie (turn r x) 0 with c | c | c
 ·have kx:0≤turn k x:=by have:=hk.all x hx (by omega);omega
  have e:=plk r l k x
  have p1:=pz (xh_ l1) kx
  have p2:=nn (xh_ c) (by omega:turn l k≤0)
  have p3:0≤turn r k*turn l x:=by omega
  rcases xid 0 (turn l x) with z | z
  ·have p4:turn r k*turn l x<0:=xim k1 z
   omega
  ·exact z
 ·have q:=proj r x l
  rw[c] at q
  simp only[xit,Int.sub_zero] at q
  have d0:0≤dot r x:=by
   rcases xid (dot r x) 0 with z | z
   ·exfalso
    have:back r rs=true:=by
     unfold back
     rw[xix]
     exact⟨x,hx,by rw[xj3 c,xj3 z];rfl⟩
    rw[this] at hb;cases hb
   ·exact z
  have q1:=pz d0 (xh_ l1)
  have q2:=xcl (r0 r hr)
  have a:=xgU x l
  rw[a]
  have:0≤turn x l:=by
   rcases xid (turn x l) 0 with z | z
   ·have:=xin q2 z
    omega
   ·exact z
  omega
 ·have:=hl.all x hx (by omega)
  omega
def RA (rs:List R3):Prop:=∀z∈rs,∀s:Int,(s=1∨s = -1)→∃x∈rs,0<s*turn z x
theorem xgj {rs:List R3}(r0:∀x∈rs,x.1≠0∨x.2.1≠0)(h:GR rs):RA rs:=fun z hz s hs=>by
 have key:∀x:R3,x.1*(s * -z.2.1)+x.2.1*(s*z.1)=s*turn z x:=fun x=>by unfold turn;grind
 obtain⟨x,hx,p⟩:=h (s * -z.2.1) (s*z.1) (by have:=r0 z hz;rcases hs with e | e<;>subst e<;>omega)
 exact⟨x,hx,by rw[key x] at p;exact p⟩
theorem xbL {rs:List R3}(r0:∀x∈rs,x.1≠0∨x.2.1≠0)(ne:rs≠[])(h:RA rs):wL rs=true:=by
 have no:∀z:R3,z∈rs→∀s:Int,(s=1∨s = -1)→(∀x∈rs,s*turn z x≤0)→False:=fun z hz s hs hx=>by
  obtain⟨x,hxm,p⟩:=h z hz s hs
  have:=hx x hxm
  omega
 cases rs with
 | nil=>exact absurd rfl ne
 | cons r t =>
  have hr:r∈r::t:=xjh
  have e:wL (r::t)=match far r 1 (r::t),far r (-1) (r::t) with
   | some l,some k=>decide (0<turn l k) || back r (r::t)
   | _,_=>false:=rfl
  rw[e]
  cases e1:far r 1 (r::t) with
  | none=>exact(no r hr 1 (.inl rfl) (bh e1)).elim
  | some l =>
   cases e2:far r (-1) (r::t) with
   | none=>exact(no r hr (-1) (.inr rfl) (bh e2)).elim
   | some k =>
    show(decide (0<turn l k) || back r (r::t))=true
    have hl:=qU e1
    have hk:=qU e2
    rcases xh1 ((decide (0<turn l k) || back r (r::t))=true) with q | q
    ·exact q
    ·exfalso
     simp only[xh0,xj4,not_or,Bool.not_eq_true] at q
     exact no l hl.mem 1 (.inl rfl) (fun x hx=>by have:=xcf r0 hr hl hk q.1 q.2 x hx;omega)
theorem xb4 {rs:List R3}(r0:∀x∈rs,x.1≠0∨x.2.1≠0)(h:wL rs=true):GR rs:=by
 cases rs with
 | nil=>cases h
 | cons r t =>
  have hr:r∈r::t:=xjh
  have e:wL (r::t)=match far r 1 (r::t),far r (-1) (r::t) with
   | some l,some k=>decide (0<turn l k) || back r (r::t)
   | _,_=>false:=rfl
  rw[e] at h
  cases e1:far r 1 (r::t) with
  | none=>rw[e1] at h;cases h
  | some l =>
   cases e2:far r (-1) (r::t) with
   | none=>rw[e1,e2] at h;cases h
   | some k =>
    rw[e1,e2] at h
    have c:(decide (0<turn l k) || back r (r::t))=true:=h
    have hl:=qU e1
    have hk:=qU e2
    have c':0<turn l k∨back r (r::t)=true:=by simpa using c
    intro u v uv
    rcases xh1 (∃x∈r::t,0<x.1*u+x.2.1*v) with q | q
    ·exact q
    ·exfalso
     have key:∀x:R3,turn x (-v,u,0)=x.1*u+x.2.1*v:=fun x=>by simp only[turn];grind
     have z:=oW hr (r0 r hr) hl hk c' (z:=(-v,u,0)) (fun x hx=>by
      rw[key x]
      rcases xid 0 (x.1*u+x.2.1*v) with w | w
      ·exact absurd ⟨x,hx,w⟩ q
      ·exact w)
     simp only at z
     omega
theorem xgt {rs:List R3}(h:GR rs):rs≠[]:=fun e=>by
 obtain⟨r,hr,_⟩:=h 1 0 (.inl (by decide))
 rw[e] at hr;simp at hr
end Pol
namespace Pol
theorem n5 (r:R3)(acc:List R3)(p:R3×R3):(yj r acc p).length≤acc.length+(seg r p).length:=by
 unfold yj seg
 by_cases c:val r p.1*val r p.2<0
 ·by_cases m:xq r p.1 p.2∈acc
  ·simp only[if_pos c,if_pos m]
   split<;>simp<;>omega
  ·simp only[if_pos c,if_neg m]
   split<;>simp<;>omega
 ·simp only[if_neg c]
  split<;>simp
theorem pe (r:R3):∀(ps:List (R3×R3)) (acc:List R3),(ps.foldl (yj r) acc).length≤acc.length+(ps.flatMap (seg r)).length
 | [],acc=>by simp
 | p::ps,acc=>by
  rw[xiM,List.flatMap_cons,xiW]
  have:=pe r ps (yj r acc p)
  have:=n5 r acc p
  omega
theorem oM (r p q:R3):(bef r p q).length≤1:=by unfold bef;split<;>simp
theorem xbm {l:List R3}(h:Ccw l)(r:R3):(mX r l).length≤l.length+2:=by
 obtain⟨a,b,P,Q,e1,e2,hP,hQ⟩:=h.parts r
 obtain⟨c,d,f1,f2⟩:=cZ r a b
 have el:(mX r l).length=(mX r (P++Q)).length:=by
  rw[e1,f1,←e2,f2,xiW,xiW];omega
 have ll:l.length=(P++Q).length:=by rw[e1,←e2,xiW,xiW];omega
 rw[el,ll]
 cases P with
 | nil =>
  rw[xjr,qe hQ];omega
 | cons p P =>
  cases Q with
  | nil=>rw[xiz,vS hP];simp
  | cons q Q =>
   rw[dU hP hQ]
   simp only[xiW,xiX]
   have:=oM r p (xo q Q)
   have:=oM r (xo p P) q
   omega
theorem xd2 {l:List R3}(h:Ccw l)(r:R3):(yK l r).length≤l.length+2:=by
 have:=pe r (cyc l) []
 have:=xbm h r
 unfold yK mX at *
 simp at *
 omega
theorem j1:∀(rows Ls l:List R3),Good Ls l→(∀s∈Ls,s.1≠0∨s.2.1≠0)→(∀s∈rows,s.1≠0∨s.2.1≠0)→(rows.foldl yK l).length≤l.length+2*rows.length
 | [],Ls,l,_,_,_=>by simp
 | r::rows,Ls,l,g,d,d'=>by
  rw[xiM]
  have h1:=xd2 g.ccw r
  have dr:=d' r xjh
  have h2:=j1 rows (Ls++[r]) (yK l r) (bC g d) (fun s hs=>by
   rcases xjc.mp hs with h | h
   ·exact d s h
   ·rw[xjq.mp h];exact dr) (fun s hs=>d' s (xjg _ hs))
  rw[xiX];omega
theorem dJ {rows:List R3}(d:∀s∈rows,s.1≠0∨s.2.1≠0):(pieces rows).length≤4+2*rows.length:=j1 rows ox box bD (by decide) d
theorem tz (p:R3):∀l:List R3,(chain p l).length=l.length
 | []=>rfl
 | x::l=>by show(chain x l).length+1=_;rw[tz x l];rfl
theorem xeh:∀l:List R3,(cyc l).length=l.length
 | []=>rfl
 | x::l=>tz _ _
theorem cP (p:R3):∀(l:List R3) (i:Nat) (v:R3),l[i]? = some v→∃u,(p::l)[i]? = some u∧(chain p l)[i]? = some (u,v)
 | [],i,v,h=>by simp at h
 | x::l,0,v,h=>by simp at h;subst h;exact⟨p,rfl,rfl⟩
 | x::l,i+1,v,h=>by
  have h':l[i]? = some v:=by simpa using h
  obtain⟨u,e1,e2⟩:=cP x l i v h'
  exact⟨u,by simpa using e1,by show(chain x l)[i]? = _;exact e2⟩
theorem xeQ {l:List R3}{i:Nat}{v:R3}(h:l[i]? = some v):∃u,u∈l∧(cyc l)[i]? = some (u,v)∧((i=0∧∃ys,l=ys++[u])∨(0<i∧l[i-1]? = some u)):=by
 cases l with
 | nil=>simp at h
 | cons x l =>
  obtain⟨u,e1,e2⟩:=cP (xo x l) (x::l) i v h
  cases i with
  | zero =>
   have:xo x l=u:=by simpa using e1
   subst this
   obtain⟨ys,e⟩:=fF x l
   exact⟨_,yr x l,e2,.inl ⟨rfl,ys,e⟩⟩
  | succ i =>
   have e1:(x::l)[i]? = some u:=by simpa using e1
   exact⟨u,xjn e1,e2,.inr ⟨by omega,by simpa using e1⟩⟩
theorem qH {α β:Type}(f:β→α→β)(b:β){l:List α}{i:Nat}{x:α}(h:l[i]? = some x):(l.take (i+1)).foldl f b=f ((l.take i).foldl f b) x:=by
 have hi:=(xiR.mp h).1
 rw[xjH,h,xiL];rfl
end Pol
namespace Pol
def Ah (p q:R3):Prop:=p.1*q.2.2<q.1*p.2.2∨p.1*q.2.2=q.1*p.2.2∧p.2.1*q.2.2<q.2.1*p.2.2
theorem aG {a x b y c z:Int}(hx:0<x)(hy:0<y)(hz:0<z)(h1:a*y<b*x)(h2:b*z≤c*y):a*z<c*x:=by
 have e1:a*y*z<b*x*z:=xil h1 hz
 have e2:b*z*x≤c*y*x:=xik h2 (by omega)
 have:a*z*y<c*x*y:=by
  have e3:a*z*y=a*y*z:=by grind
  have e4:c*x*y=c*y*x:=by grind
  have e5:b*x*z=b*z*x:=by grind
  omega
 exact xic this (by omega)
theorem xa1 {a x b y c z:Int}(hx:0<x)(hy:0<y)(hz:0<z)(h1:a*y≤b*x)(h2:b*z<c*y):a*z<c*x:=by
 have e1:a*y*z≤b*x*z:=xik h1 (by omega)
 have e2:b*z*x<c*y*x:=xil h2 hx
 have:a*z*y<c*x*y:=by
  have e3:a*z*y=a*y*z:=by grind
  have e4:c*x*y=c*y*x:=by grind
  have e5:b*x*z=b*z*x:=by grind
  omega
 exact xic this (by omega)
theorem xa2 {a x b y c z:Int}(hy:0<y)(h1:a*y=b*x)(h2:b*z=c*y):a*z=c*x:=by
 have:a*z*y=c*x*y:=by grind
 exact xh7 (by omega) this
theorem Ah.irrefl (p:R3):¬Ah p p:=by rintro(h | h)<;>omega
theorem Ah.trans {p q w:R3}(hp:0<p.2.2)(hq:0<q.2.2)(hw:0<w.2.2)(h1:Ah p q)(h2:Ah q w):Ah p w:=by
 rcases h1 with a | ⟨a,b⟩
 ·rcases h2 with c | ⟨c,d⟩
  ·exact .inl (aG hp hq hw a (by omega))
  ·exact .inl (aG hp hq hw a (by omega))
 ·rcases h2 with c | ⟨c,d⟩
  ·exact .inl (xa1 hp hq hw (by omega) c)
  ·exact .inr ⟨xa2 hq a c,aG hp hq hw b (by omega)⟩
theorem Ah.total {p q:R3}(h1:¬Ah p q)(h2:¬Ah q p):aC p q:=by
 unfold Ah at h1 h2
 unfold aC
 omega
def jj (l:List R3):Prop:=∀h t,l=h::t→∀v∈l,¬Ah v h
theorem dA {α:Type}:∀ {l k:List α},l.Nodup→k.Nodup→(∀x,x∈l↔x∈k)→l.length=k.length:=fun {l k} h1 h2 h=>((List.perm_ext_iff_of_nodup h1 h2).mpr h).length_eq
def yA (s t:R3):R3:=if turn s t<0 then(-(s.2.2*t.2.1-s.2.1*t.2.2),-(s.1*t.2.2-s.2.2*t.1),-turn s t) else(s.2.2*t.2.1-s.2.1*t.2.2,s.1*t.2.2-s.2.2*t.1,turn s t)
theorem u6 {s t:R3}(h:turn s t≠0):0<(yA s t).2.2∧val s (yA s t)=0∧val t (yA s t)=0:=by
 unfold yA
 split
 ·refine⟨by simp only;omega,?_,?_⟩<;>simp only[val,turn]<;>grind
 ·refine⟨by simp only;omega,?_,?_⟩<;>simp only[val,turn]<;>grind
theorem rM {s t v:R3}(h:turn s t≠0)(h1:val s v=0)(h2:val t v=0):aC (yA s t) v:=xeL h (u6 h).2.1 (u6 h).2.2 h1 h2
end Pol
namespace L2
open PySem PySem.Spec PyProof.Rows
def Bk (k:Nat)(i:Int):Prop:=i.natAbs<2 ^ k
theorem Bk.mono {k m:Nat}{i:Int}(h:Bk k i)(hk:k≤m):Bk m i:=xjP h (Nat.pow_le_pow_right (by decide) hk)
theorem Bk.mul {k m:Nat}{i j:Int}(h:Bk k i)(h':Bk m j):Bk (k+m) (i*j):=by
 unfold Bk at *
 rw[xiq,Nat.pow_add]
 exact Nat.mul_lt_mul'' h h'
theorem Bk.add {k:Nat}{i j:Int}(h:Bk k i)(h':Bk k j):Bk (k+1) (i+j):=by
 unfold Bk at *
 rw[Nat.pow_succ]
 have:=Int.natAbs_add_le i j
 omega
theorem Bk.neg {k:Nat}{i:Int}(h:Bk k i):Bk k (-i):=by unfold Bk at *;rw[Int.natAbs_neg];exact h
theorem Bk.sub {k:Nat}{i j:Int}(h:Bk k i)(h':Bk k j):Bk (k+1) (i-j):=by rw[Int.sub_eq_add_neg];exact h.add h'.neg
theorem Bk.bd {k:Nat}{i:Int}(h:Bk k i)(hk:k≤2000:=by decide):Bd i:=h.mono hk
theorem Bk.abs {k:Nat}{i:Int}(h:Bk k i):Bk k (if i<0 then -i else i):=by split;exact h.neg;exact h
theorem Bk.le {k:Nat}{i j:Int}(h:Bk k i)(hl:j.natAbs≤i.natAbs):Bk k j:=xjO hl h
def B3k (k:Nat)(r:Pol.R3):Prop:=(Bk k r.1∧Bk k r.2.1)∧Bk k r.2.2
theorem B3k.mono {k m:Nat}{r:Pol.R3}(h:B3k k r)(hk:k≤m):B3k m r:=⟨⟨h.1.1.mono hk,h.1.2.mono hk⟩,h.2.mono hk⟩
def B3 (r:Pol.R3):Prop:=(Bd r.1∧Bd r.2.1)∧Bd r.2.2
theorem B3k.b3 {k:Nat}{r:Pol.R3}(h:B3k k r)(hk:k≤2000:=by decide):B3 r:=h.mono hk
theorem B3k.val {k m:Nat}{r p:Pol.R3}(h:B3k k r)(h':B3k m p):Bk (k+m+2) (Pol.val r p) :=
 ((h.1.1.mul h'.1.1).add (h.1.2.mul h'.1.2)).sub ((h.2.mul h'.2).mono (xjL _))
def xaX:Tr→Bool
 | .int _=>true
 | _=>false
def frT (n d:Int):Tr:=.tup [.int n,.int d]
def ni (t b:Int):Int:=t / (Int.gcd t b:Int)
def rj (t b:Int):Int:=b / (Int.gcd t b:Int)
def trR (r:Pol.R3):Tr:=.tup [.int r.1,.int r.2.1,.int r.2.2]
def zf (v:Pol.R3):Tr:=.tup [frT (ni v.1 v.2.2) (rj v.1 v.2.2),frT (ni v.2.1 v.2.2) (rj v.2.1 v.2.2)]
theorem aW (p:Pol.R3):pln (trR p)=true:=rfl
theorem xau (p q:Pol.R3):teq (trR p) (trR q)=decide (p=q):=by
 have e:teq (trR p) (trR q)=(decide (p.1=q.1)&&(decide (p.2.1=q.2.1)&&(decide (p.2.2=q.2.2)&&true))):=rfl
 rw[e]
 by_cases h:p=q
 ·subst h;simp
 ·rw[xj2 h]
  by_cases h1:p.1=q.1
  ·by_cases h2:p.2.1=q.2.1
   ·by_cases h3:p.2.2=q.2.2
    ·exact absurd (Pol.ext3 h1 h2 h3) h
    ·simp[h3]
   ·simp[h2]
  ·simp[h1]
theorem uT {α:Type}(f:α→Tr)(h:∀x,pln (f x)=true):∀l:List α,PyData.canLayAll0 (uP (l.map f))=true
 | []=>rfl
 | x::l=>by
  show((j5 (f x)).canLay0&&PyData.canLayAll0 (uP (l.map f)))=true
  rw[uT f h l,show(j5 (f x)).canLay0=true from h x];rfl
theorem oA (l:List Pol.R3)(c:Pol.R3):((l.map trR).any fun u=>teq u (trR c))=decide (c∈l):=by
 rw[xhY,xix,xj4]
 constructor
 ·rintro⟨u,hu,h⟩
  obtain⟨x,hx,rfl⟩:=xjl.mp hu
  rw[xau,xj4] at h
  subst h;exact hx
 ·intro h
  exact⟨trR c,xjm h,by rw[xau];simp⟩
theorem xbU {x y:Int}(hx:0≤x)(hy:0≤y):Int.gcd y (x % y)=Int.gcd x y:=by
 obtain⟨n,rfl⟩:=Int.eq_ofNat_of_zero_le hy
 obtain⟨m,rfl⟩:=Int.eq_ofNat_of_zero_le hx
 show Nat.gcd n (((m % n:Nat):Int)).natAbs=Nat.gcd m n
 rw[Int.natAbs_natCast,Nat.gcd_comm m n,Nat.gcd_rec n m,Nat.gcd_comm]
theorem xaG {t b:Int}(hb:b≠0)(h:Bd b):Bd (Int.gcd t b:Int):=by
 unfold Bd
 refine xjO ?_ h
 have:=Int.gcd_le_natAbs_right (a:=t) hb
 omega
def tw:TSp:=fun ts KK=>∃t,ts=[t]∧KK (.bl (xaX t))
def mF:TSp:=fun ts KK=>∃t,ts=[t]∧∃us,(t=.tup us∨t=.lst us)∧us.length<sizeLine∧KK (.bl (us.all xaX))
def xfT:TSp:=fun ts KK=>∃a b:Int,ts=[.int a,.int b]∧KK (.int (Int.gcd a b))
def xf2:TSp:=fun ts KK=>∃t b:Int,ts=[.int t,.int b]∧b≠0∧Bd b∧KK (frT (ni t b) (rj t b))
def mZ:TSp:=fun ts KK=>∃r p:Pol.R3,ts=[trR r,trR p]∧B3 r∧B3 p∧KK (.int (Pol.val r p))
def cg:TSp:=fun ts KK=>∃r u v:Pol.R3,ts=[trR r,trR u,trR v]∧(B3k 100 r∧B3k 800 u∧B3k 800 v)∧(0<u.2.2∧0<v.2.2)∧Pol.val r u*Pol.val r v<0∧KK (trR (Pol.xq r u v))
def ahead (p q:Pol.R3):Bool:=decide (p.1*q.2.2<q.1*p.2.2∨p.1*q.2.2=q.1*p.2.2∧p.2.1*q.2.2<q.2.1*p.2.2)
def xco:TSp:=fun ts KK=>∃p q:Pol.R3,ts=[trR p,trR q]∧B3 p∧B3 q∧KK (.bl (ahead p q))
def gW:TSp:=fun ts KK=>∃(l:List Pol.R3) (r:Pol.R3),ts=[.lst (l.map trR),trR r]∧B3k 100 r∧(∀v∈l,B3k 800 v∧0<v.2.2)∧l.length≤100000∧KK (.lst ((Pol.yK l r).map trR))
def ye (l:List Pol.R3)(s i:Nat):Nat:=if ahead (l.getD i (0,0,0)) (l.getD s (0,0,0))=true then i else s
def vm (l:List Pol.R3):Nat:=(List.range l.length).foldl (ye l) 0
def yl (l:List Pol.R3):List Pol.R3:=l.drop (vm l)++l.take (vm l)
def dE:TSp:=fun ts KK=>∃l:List Pol.R3,ts=[.lst (l.map trR)]∧(∀v∈l,B3 v)∧l.length≤100000∧KK (.lst ((yl l).map trR))
structure qg (rows:List Pol.R3):Prop where
 dir:∀r∈rows,r.1≠0∨r.2.1≠0
 sm:∀r∈rows,B3k 100 r
 len:rows.length≤10000
def bK:TSp:=fun ts KK=>∃(t:Tr) (r0 rows:List Pol.R3),ts=[.lst ((Pol.pieces r0).map trR),t]∧(t=.tup (rows.map trR)∨t=.lst (rows.map trR))∧qg (r0++rows)∧KK (.lst ((Pol.pieces (r0++rows)).map trR))
def dw:TSp:=fun ts KK=>∃(t:Tr) (rows:List Pol.R3),ts=[t]∧(t=.tup (rows.map trR)∨t=.lst (rows.map trR))∧qg rows∧KK (.lst ((Pol.pieces rows).map trR))
def rH:TSp:=fun ts KK=>∃l:List Pol.R3,ts=[.lst (l.map trR)]∧(∀v∈l,B3k 800 v∧0<v.2.2)∧l.length≤100000∧KK (.lst ((yl l).map zf))
def qx:TSp:=fun ts KK=>∃(t:Tr) (rows:List Pol.R3),ts=[t]∧(t=.tup (rows.map trR)∨t=.lst (rows.map trR))∧qg rows∧KK (.lst ((yl (Pol.pieces rows)).map zf))
def hX:Tr→Option Pol.R3
 | .tup [.int a,.int b,.int c]=>some (a,b,c)
 | _=>none
def tU (t:Tr):Bool:=match hX t with | some r=>decide (r.1≠0∨r.2.1≠0) | none=>false
def xcq:TSp:=fun ts KK=>∃t,ts=[t]∧KK (.bl (tU t))
def xbc:TSp:=fun ts KK=>∃(a b c d:Int) (x y:List Tr),ts=[.tup (.int a::.int b::x),.tup (.int c::.int d::y)]∧((Bd a∧Bd b)∧Bd c∧Bd d)∧KK (.int (a*d-b*c))
def xgp:Option Pol.R3→Tr
 | some r=>trR r
 | none=>.non
def r6:TSp:=fun ts KK=>∃(r:Pol.R3) (rows:List Pol.R3) (s:Int),ts=[trR r,.tup (rows.map trR),.int s]∧(s=1∨s = -1)∧B3k 900 r∧(∀x∈rows,B3k 900 x)∧KK (xgp (Pol.far r s rows))
def xe3:TSp:=fun ts KK=>∃(r:Pol.R3) (rows:List Pol.R3),ts=[trR r,.tup (rows.map trR)]∧B3k 900 r∧(∀x∈rows,B3k 900 x)∧KK (.bl (Pol.back r rows))
def bF:TSp:=fun ts KK=>∃rows:List Pol.R3,ts=[.tup (rows.map trR)]∧(∀x∈rows,B3k 900 x)∧KK (.bl (Pol.wL rows))
instance (r:Pol.R3):Decidable (Pol.rk r):=by unfold Pol.rk;infer_instance
def zb (t:Tr):Bool:=match hX t with | some r=>decide ((r.1≠0∨r.2.1≠0)∧Pol.rk r) | none=>false
def fM:TSp:=fun ts KK=>∃t,ts=[t]∧KK (.bl (zb t))
def nearF (n d:Int):Bool:=decide (-(12*d)≤n∧n≤12*d)
def xaK:TSp:=fun ts KK=>∃fs:List (Int×Int),ts=[.tup (fs.map fun f=>frT f.1 f.2)]∧fs.length≤1000∧(∀f∈fs,Bd f.2)∧KK (.bl (fs.all fun f=>nearF f.1 f.2))
def sM (v:Pol.R3):Bool:=nearF (ni v.1 v.2.2) (rj v.1 v.2.2)&&nearF (ni v.2.1 v.2.2) (rj v.2.1 v.2.2)
def rowsOf:List Tr→Option (List Pol.R3)
 | []=>some []
 | t::ts=>match hX t,rowsOf ts with | some r,some rs=>some (r::rs) | _,_=>none
def xy (rows:List Pol.R3):Bool:=decide (3≤rows.length∧rows.length≤8)&&(rows.all fun r=>decide ((r.1≠0∨r.2.1≠0)∧Pol.rk r))&&Pol.wL rows&&(Pol.pieces rows).all sM
def isField:Tr→Bool
 | .tup us=>match rowsOf us with | some rows=>xy rows | none=>false
 | _=>false
def sG:TSp:=fun ts KK=>∃t,ts=[t]∧KK (.bl (isField t))
end L2
namespace L2
open PySem PySem.Spec PyProof.Rows
theorem n_ {α:Type}(ts:List α)(s:Nat):j_ ts (some (s:Int)) none=ts.drop s:=by
 unfold j_
 rw[HT.lE,HT.aU]
 by_cases h:s≤ts.length
 ·rw[Nat.min_eq_left h,xjG (by rw[xiY];omega)]
 ·rw[Nat.min_eq_right (by omega),List.drop_eq_nil_of_le (xjK _),List.drop_eq_nil_of_le (by omega)];simp
theorem xcr {α:Type}(ts:List α)(s:Nat):j_ ts none (some (s:Int))=ts.take s:=by
 unfold j_
 rw[HT.lE,HT.aU,xiF,xjU]
 by_cases h:s≤ts.length
 ·rw[Nat.min_eq_left h]
 ·rw[Nat.min_eq_right (by omega),xjG (xjK _),xjG (by omega)]
theorem bB {α:Type}{f:α→Tr}{l:List α}{i:Nat}{x:Tr}(h:(vK (l.map f))[i]? = some x):∃v,l[i]? = some v∧x=.tup [.int i,f v]:=by
 have hi:i<l.length:=by
  have:=(xiR.mp h).1
  unfold vK at this
  rw[wG,xi0] at this
  exact this
 have e:(l.map f)[i]? = some (f l[i]):=by rw[xiS,xiP hi];rfl
 unfold vK at h
 rw[vX e] at h
 refine⟨l[i],xiP hi,?_⟩
 have:=xjZ h
 rw[←this];simp
theorem bc {α:Type}(f:α→Tr)(l:List α):(vK (l.map f)).length=l.length:=by unfold vK;rw[wG,xi0]
theorem oa {l:List Pol.R3}{i:Nat}{v:Pol.R3}(h:l[i]? = some v):∃u,u∈l∧(Pol.cyc l)[i]? = some (u,v)∧atT (l.map trR) ((i:Int)-1)=some (trR u):=by
 obtain⟨u,hu,hc,hw⟩:=Pol.xeQ h
 refine⟨u,hu,hc,?_⟩
 rcases hw with ⟨rfl,ys,e⟩ | ⟨h0,e⟩
 ·rw[e,xi8]
  exact cK (ys.map trR) (trR u)
 ·rw[show((i:Int)-1)=((i-1:Nat):Int) by omega,fi,xiS,e];rfl
theorem pq {Ls l:List Pol.R3}(g:Pol.Good Ls l){k:Nat}(hs:∀s∈Ls,B3k k s):∀v∈l,B3k (2*k+1) v:=fun v hv=>by
 obtain⟨s,hs1,t,ht1,e1,e2,hn⟩:=g.two v hv
 have z:=g.bot v hv
 obtain⟨b1,b2,b3⟩:=Pol.j6 (g.prim v hv) z e1 e2 hn
 have S:=hs s hs1
 have T:=hs t ht1
 have m:∀ {x y z w:Int},Bk k x→Bk k y→Bk k z→Bk k w→Bk (2*k+1) (x*y-z*w):=fun h1 h2 h3 h4=>((h1.mul h2).sub (h3.mul h4)).mono (by omega)
 refine⟨⟨(m S.2 T.1.2 T.2 S.1.2).le b2,(m T.2 S.1.1 S.2 T.1.1).le b3⟩,?_⟩
 have:=m S.1.1 T.1.2 S.1.2 T.1.1
 refine this.le ?_
 unfold Pol.turn at b1
 omega
theorem oE:∀s∈Pol.ox,B3k 100 s:=fun s hs=>by
 have h:s∈Pol.ox:=hs
 simp only[Pol.ox,xjf,xjv,xj9] at h
 unfold B3k Bk
 rcases h with rfl | rfl | rfl | rfl<;>simp only[Pol.FAR]<;>decide
theorem qg.good {rows:List Pol.R3}(h:qg rows)(i:Nat):Pol.Good (Pol.ox++rows.take i) ((rows.take i).foldl Pol.yK Pol.box):=Pol.wm (rows:=rows.take i) fun s hs=>h.dir s (xjo hs)
theorem qg.small {rows:List Pol.R3}(h:qg rows)(i:Nat):∀v∈(rows.take i).foldl Pol.yK Pol.box,B3k 800 v∧0<v.2.2:=fun v hv=>by
 have g:=h.good i
 refine⟨(pq g (k:=100) (fun s hs=>?_) v hv).mono (by decide),g.bot v hv⟩
 rcases xjc.mp hs with z | z
 ·exact oE s z
 ·exact h.sm s (xjo z)
theorem qg.plen {rows:List Pol.R3}(h:qg rows)(i:Nat):((rows.take i).foldl Pol.yK Pol.box).length≤100000:=by
 have:=Pol.dJ (rows:=rows.take i) fun s hs=>h.dir s (xjo hs)
 unfold Pol.pieces at this
 have l:(rows.take i).length≤rows.length:=by rw[xi6];omega
 have:=h.len
 omega
theorem wQ {l:List Pol.R3}{v:Pol.R3}(h:v∈yl l):v∈l:=by
 unfold yl at h
 rcases xjc.mp h with h | h
 ·exact List.mem_of_mem_drop h
 ·exact xjo h
theorem sI (p:Pol.R3→Bool)(l:List Pol.R3):(yl l).all p=l.all p:=by
 unfold yl
 rw[List.all_append,Bool.and_comm,←List.all_append,xjF]
theorem vo (l:List Pol.R3):(yl l).length=l.length:=by
 unfold yl
 rw[xiW,xiY,xi6];omega
theorem xeZ (a b c d:Int):HT.lexLt [a,b] [c,d]=decide (a<c∨a=c∧b<d):=by
 simp only[HT.lexLt]
 by_cases h:a<c
 ·simp[h];omega
 ·by_cases h2:a=c
  ·subst h2;simp;omega
  ·simp[h,h2]
theorem xaO {α:Type}{l:List α}{n:Nat}(e:l.length=n)(h:n≤1000000:=by decide):l.length<sizeLine:=sqz (by omega)
theorem xd1 {i z:Int}(hz:0<z)(h:Bd z):Bd (rj i z):=by
 unfold rj
 have g:(0:Int)<(Int.gcd i z:Int):=by have:=xh9 i (show z≠0 by omega);omega
 have h1:=Int.ediv_le_self (Int.gcd i z:Int) (show 0≤z by omega)
 have h2:=Int.ediv_nonneg (show 0≤z by omega) (show 0≤(Int.gcd i z:Int) by omega)
 unfold Bd at *
 omega
theorem qR {t:Tr}{r:Pol.R3}(h:hX t=some r):t=trR r:=by
 unfold hX at h
 split at h
 ·cases h;rfl
 ·cases h
theorem jO (rows:List Pol.R3):rowsOf (rows.map trR)=some rows:=by
 induction rows with
 | nil=>rfl
 | cons r rows ih =>
  show(match hX (trR r),rowsOf (rows.map trR) with | some r,some rs=>some (r::rs) | _,_=>none)=_
  rw[ih];rfl
theorem vv:∀ {us:List Tr} {rows:List Pol.R3},rowsOf us=some rows→us=rows.map trR
 | [],rows,h=>by cases h;rfl
 | t::us,rows,h=>by
  unfold rowsOf at h
  cases e1:hX t with
  | none=>rw[e1] at h;cases h
  | some r =>
   cases e2:rowsOf us with
   | none=>rw[e1,e2] at h;cases h
   | some rs =>
    rw[e1,e2] at h
    cases h
    rw[qR e1,vv e2];rfl
theorem mS {us:List Tr}(h:us.all zb=true):∃rows:List Pol.R3,us=rows.map trR∧∀r∈rows,(r.1≠0∨r.2.1≠0)∧Pol.rk r:=by
 induction us with
 | nil=>exact⟨[],rfl,fun r hr=>by simp at hr⟩
 | cons t us ih =>
  rw[List.all_cons,xhX] at h
  obtain⟨rows,e,hr⟩:=ih h.2
  have ht:=h.1
  unfold zb at ht
  cases e1:hX t with
  | none=>rw[e1] at ht;cases ht
  | some r =>
   rw[e1] at ht
   have ht:=xj8 ht
   refine⟨r::rows,by rw[qR e1,e];rfl,fun x hx=>?_⟩
   rcases xjf.mp hx with z | z
   ·rw[z];exact ht
   ·exact hr x z
theorem d_ {r:Pol.R3}(h:Pol.rk r):B3k 100 r:=by
 obtain⟨⟨⟨a,b⟩,c,d⟩,e,f⟩:=h
 refine⟨⟨?_,?_⟩,?_⟩<;>unfold Bk<;>omega
theorem fR (rows:List Pol.R3):(rows.map trR).all zb=rows.all fun r=>decide ((r.1≠0∨r.2.1≠0)∧Pol.rk r):=by
 rw[List.all_map];rfl
theorem pR {us:List Tr}(h:us.all zb=false):isField (.tup us)=false:=by
 show(match rowsOf us with | some rows=>xy rows | none=>false)=false
 cases e:rowsOf us with
 | none=>rfl
 | some rows =>
  rw[vv e,fR] at h
  show xy rows=false
  unfold xy
  rw[h];simp
end L2
namespace Fra
def gd (a b:Int):Int:=(Int.gcd a b:Int)
def low (n d:Int):Int×Int:=(n / gd n d,d / gd n d)
theorem rn (a b:Int):0≤gd a b:=Int.natCast_nonneg _
theorem tR {a b:Int}(h:a≠0∨b≠0):0<gd a b:=by
 unfold gd
 have:0<Int.gcd a b:=by
  rcases h with h | h
  ·exact Int.gcd_pos_of_ne_zero_left _ h
  ·exact xh9 _ h
 omega
theorem fy (a b:Int):gd a b ∣ a:=Int.gcd_dvd_left ..
theorem k9 (a b:Int):gd a b ∣ b:=Int.gcd_dvd_right ..
theorem xdG (a:Int):gd a 0=if a<0 then -a else a:=by
 unfold gd
 rw[Int.gcd_zero_right]
 split<;>omega
theorem xb2 {a b c d:Int}(h:∀k:Int,(k ∣ a∧k ∣ b)↔(k ∣ c∧k ∣ d)):gd a b=gd c d:=by
 have e1:gd a b ∣ gd c d:=xh3 ((h _).mp ⟨fy a b,k9 a b⟩).1 ((h _).mp ⟨fy a b,k9 a b⟩).2
 have e2:gd c d ∣ gd a b:=xh3 ((h _).mpr ⟨fy c d,k9 c d⟩).1 ((h _).mpr ⟨fy c d,k9 c d⟩).2
 exact Int.dvd_antisymm (rn _ _) (rn _ _) e1 e2
theorem xdl (a b q:Int):gd b (a-b*q)=gd a b:=by
 refine xb2 fun k=>⟨fun⟨h1,h2⟩=>⟨?_,h1⟩,fun⟨h1,h2⟩=>⟨h2,?_⟩⟩
 ·have:=Int.dvd_add h2 (Int.dvd_mul_of_dvd_left (c:=q) h1)
  rwa [Int.sub_add_cancel] at this
 ·exact Int.dvd_sub h1 (Int.dvd_mul_of_dvd_left h2)
theorem xdt (a b:Int):gd b (a.fmod b)=gd a b:=by
 rw[Int.fmod_def];exact xdl a b _
theorem pO {a b:Int}(h:b≠0):(a.fmod b).natAbs<b.natAbs:=by
 by_cases hb:0<b
 ·have h1:=Int.fmod_nonneg_of_pos a hb
  have h2:=Int.fmod_lt_of_pos a hb
  omega
 ·have hn:0 < -b:=by omega
  have e:a.fmod b = - ((-a).fmod (-b)):=by rw[Int.neg_fmod_neg];omega
  have h1:=Int.fmod_nonneg_of_pos (-a) hn
  have h2:=Int.fmod_lt_of_pos (-a) hn
  omega
theorem xaU (n d:Int):(low n d).1*gd n d=n:=Int.ediv_mul_cancel (fy n d)
theorem nV (n d:Int):(low n d).2*gd n d=d:=Int.ediv_mul_cancel (k9 n d)
theorem u0 (n d:Int):(low n d).1*d=n*(low n d).2:=by
 have h1:=xaU n d
 have h2:=nV n d
 grind
theorem u_ {n d:Int}(h:0<d):0<(low n d).2:=by
 have h2:=nV n d
 have g:=tR (a:=n) (b:=d) (.inr (by omega))
 generalize gd n d=k at *
 generalize (low n d).2=m at *
 by_cases hm:0<m
 ·exact hm
 ·have:m*k≤0:=Int.mul_nonpos_of_nonpos_of_nonneg (by omega) (by omega)
  omega
theorem oB {n d:Int}(h:0<d):Int.gcd (low n d).1 (low n d).2=1:=by
 have g:=tR (a:=n) (b:=d) (.inr (by omega))
 unfold low gd at *
 exact Int.gcd_ediv_gcd_ediv_gcd (by omega)
theorem lW {b a d:Int}(h:b ∣ a*d)(g:Int.gcd b a=1):b ∣ d:=by
 have h':b.natAbs ∣ a.natAbs*d.natAbs:=by rw[←xiq];exact Int.natAbs_dvd_natAbs.mpr h
 exact Int.natAbs_dvd_natAbs.mp (Nat.Coprime.dvd_of_dvd_mul_left (show Nat.Coprime b.natAbs a.natAbs from g) h')
theorem p9 {a b c d:Int}(h1:Int.gcd a b=1)(h2:Int.gcd c d=1)(hb:0<b)(hd:0<d)(e:a*d=c*b):a=c∧b=d:=by
 have k1:b ∣ d:=by
  have:b ∣ a*d:=⟨c,by rw[e,xif]⟩
  exact lW this (by rw[Int.gcd_comm];exact h1)
 have k2:d ∣ b:=by
  have:d ∣ c*b:=⟨a,by rw[←e,xif]⟩
  exact lW this (by rw[Int.gcd_comm];exact h2)
 have ebd:b=d:=Int.dvd_antisymm (by omega) (by omega) k1 k2
 subst ebd
 exact⟨xh7 (by omega) e,rfl⟩
theorem qN {n d n' d':Int}(h:0<d)(h':0<d')(e:n*d'=n'*d):low n d=low n' d':=by
 have c1:=oB (n:=n) h
 have c2:=oB (n:=n') h'
 have p1:=u_ (n:=n) h
 have p2:=u_ (n:=n') h'
 have x1:=u0 n d
 have x2:=u0 n' d'
 have key:(low n d).1*(low n' d').2=(low n' d').1*(low n d).2:=by
  generalize (low n d).1=a at *
  generalize (low n d).2=b at *
  generalize (low n' d').1=c at *
  generalize (low n' d').2=f at *
  have:(a*f)*(d*d')=(c*b)*(d*d'):=by grind
  exact xh7 (by have:=xio h h';omega) this
 obtain⟨u,v⟩:=p9 c1 c2 p1 p2 key
 exact Prod.ext u v
theorem xc9 {a b x0 x1 y0 y1:Int}(hx:0<x1)(hy:0<y1) :
  low ((low (a*x0) x1).1*(low (b*y0) y1).2+(low (b*y0) y1).1*(low (a*x0) x1).2) ((low (a*x0) x1).2*(low (b*y0) y1).2)=low (a*x0*y1+b*y0*x1) (x1*y1):=by
 have p1:=u_ (n:=a*x0) hx
 have p2:=u_ (n:=b*y0) hy
 have e1:=u0 (a*x0) x1
 have e2:=u0 (b*y0) y1
 refine qN (xio p1 p2) (xio hx hy) ?_
 generalize (low (a*x0) x1).1=p at *
 generalize (low (a*x0) x1).2=q at *
 generalize (low (b*y0) y1).1=r at *
 generalize (low (b*y0) y1).2=t at *
 grind
end Fra
namespace L2
open PySem PySem.Spec PyProof.Rows
abbrev F2:=Int×Int
abbrev P2:=F2×F2
def fT (f:F2):Tr:=frT f.1 f.2
def pT (p:P2):Tr:=.tup [fT p.1,fT p.2]
def lfr (t b:Int):F2:=if b<0 then Fra.low (-t) (-b) else Fra.low t b
theorem jR {t b:Int}(h:0<b):lfr t b=Fra.low t b:=by unfold lfr;rw[if_neg (by omega)]
theorem xeb {t b:Int}(h:b<0):lfr t b=Fra.low (-t) (-b):=by unfold lfr;rw[if_pos h]
def plc (v:Pol.R3):P2:=(Fra.low v.1 v.2.2,Fra.low v.2.1 v.2.2)
theorem jM (v:Pol.R3):zf v=pT (plc v):=rfl
def mG (r:Pol.R3)(p:P2):F2:=lfr (r.1*p.1.1*p.2.2+r.2.1*p.2.1*p.1.2) (p.1.2*p.2.2)
def aH (f g:F2):Bool:=decide (f.1*g.2<g.1*f.2)
def fmin (f g:F2):F2:=lfr (f.1*g.2-g.1*f.2) (f.2*g.2)
def pE (f g:F2):F2:=lfr (f.1*g.1) (f.2*g.2)
def o7 (f g:F2):F2:=lfr (f.1*g.2+g.1*f.2) (f.2*g.2)
def bq (p q w:P2):Int:=(fmin (pE (fmin q.1 p.1) (fmin w.2 p.2)) (pE (fmin q.2 p.2) (fmin w.1 p.1))).1
def zC (r:Pol.R3)(p:P2):Bool:=decide ((mG r p).1≤r.2.2*(mG r p).2)
structure Fk (k:Nat)(f:F2):Prop where
 top:Bk k f.1
 bot:Bk k f.2
 pos:0<f.2
theorem Fk.mono {k m:Nat}{f:F2}(h:Fk k f)(hk:k≤m):Fk m f:=⟨h.top.mono hk,h.bot.mono hk,h.pos⟩
theorem tj {k:Nat}{t b:Int}(h:0<b)(ht:Bk k t)(hb:Bk k b):Fk k (Fra.low t b):=by
 have g:=Fra.tR (a:=t) (b:=b) (.inr (by omega))
 refine⟨ht.le ?_,hb.le ?_,Fra.u_ h⟩
 ·have e:=Fra.xaU t b
  generalize (Fra.low t b).1=x at *
  generalize Fra.gd t b=y at *
  rw[←e,xiq]
  exact Nat.le_mul_of_pos_right _ (by omega)
 ·have e:=Fra.nV t b
  generalize (Fra.low t b).2=x at *
  generalize Fra.gd t b=y at *
  have:b.natAbs=x.natAbs*y.natAbs:=by rw[←xiq,e]
  rw[this]
  exact Nat.le_mul_of_pos_right _ (by omega)
theorem rp {k:Nat}{t b:Int}(h:b≠0)(ht:Bk k t)(hb:Bk k b):Fk k (lfr t b):=by
 unfold lfr
 split
 ·exact tj (by omega) ht.neg hb.neg
 ·exact tj (by omega) ht hb
structure Sd (f:F2)(N D:Int):Prop where
 pf:0<f.2
 pd:0<D
 e:f.1*D=N*f.2
theorem xab {t b:Int}(h:0<b):Sd (Fra.low t b) t b:=⟨Fra.u_ h,h,Fra.u0 t b⟩
theorem Sd.lfr {f:F2}{t b N D:Int}(hb:0<b)(hD:0<D)(e:t*D=N*b)(hf:f=L2.lfr t b):Sd f N D:=by
 subst hf
 rw[jR hb]
 refine⟨Fra.u_ hb,hD,?_⟩
 have h:=Fra.u0 t b
 generalize (Fra.low t b).1=x at *
 generalize (Fra.low t b).2=y at *
 have:(x*D)*b=(N*y)*b:=by grind
 exact xh7 (by omega) this
theorem Sd.minus {f g:F2}{N D M E:Int}(h:Sd f N D)(h':Sd g M E):Sd (fmin f g) (N*E-M*D) (D*E):=by
 refine Sd.lfr (Pol.pp h.pf h'.pf) (Pol.pp h.pd h'.pd) ?_ rfl
 have:=h.e;have:=h'.e
 grind
theorem Sd.times {f g:F2}{N D M E:Int}(h:Sd f N D)(h':Sd g M E):Sd (pE f g) (N*M) (D*E):=by
 refine Sd.lfr (Pol.pp h.pf h'.pf) (Pol.pp h.pd h'.pd) ?_ rfl
 have:=h.e;have:=h'.e
 grind
theorem uX {a b k:Int}(hk:0<k):a*k≤b*k↔a≤b:=⟨fun h=>Int.le_of_mul_le_mul_right h hk,fun h=>xik h (by omega)⟩
theorem du {a b k:Int}(hk:0<k):a*k<b*k↔a<b:=⟨fun h=>xic h (by omega),fun h=>xil h hk⟩
theorem dY {a b k:Int}(hk:0<k):a*k=b*k↔a=b:=⟨fun h=>xh7 (by omega) h,fun h=>by rw[h]⟩
theorem Sd.le {f:F2}{N D:Int}(h:Sd f N D)(c:Int):f.1≤c*f.2↔N≤c*D:=by
 have e:=h.e
 rw[←uX h.pd,e,show c*f.2*D=(c*D)*f.2 by grind,uX h.pf]
theorem Sd.lt {f g:F2}{N D M E:Int}(h:Sd f N D)(h':Sd g M E):f.1*g.2<g.1*f.2↔N*E<M*D:=by
 have e:=h.e;have e':=h'.e
 rw[←du (Pol.pp h.pd h'.pd),show f.1*g.2*(D*E)=(N*E)*(f.2*g.2) by grind,show g.1*f.2*(D*E)=(M*D)*(f.2*g.2) by grind,du (Pol.pp h.pf h'.pf)]
theorem Sd.eq {f g:F2}{N D M E:Int}(h:Sd f N D)(h':Sd g M E):f.1*g.2=g.1*f.2↔N*E=M*D:=by
 have e:=h.e;have e':=h'.e
 rw[←dY (Pol.pp h.pd h'.pd),show f.1*g.2*(D*E)=(N*E)*(f.2*g.2) by grind,show g.1*f.2*(D*E)=(M*D)*(f.2*g.2) by grind,dY (Pol.pp h.pf h'.pf)]
section
variable {p q v w:Pol.R3}
theorem sdx (h:0<v.2.2):Sd (plc v).1 v.1 v.2.2:=xab h
theorem sdy (h:0<v.2.2):Sd (plc v).2 v.2.1 v.2.2:=xab h
theorem xdJ (r:Pol.R3)(h:0<v.2.2):Sd (mG r (plc v)) (r.1*v.1+r.2.1*v.2.1) v.2.2:=by
 have a:=sdx h;have b:=sdy h
 refine Sd.lfr (Pol.pp a.pf b.pf) h ?_ rfl
 have:=a.e;have:=b.e
 grind
theorem dH (r:Pol.R3)(h:0<v.2.2):zC r (plc v)=decide (Pol.val r v≤0):=by
 unfold zC
 rw[xj1,(xdJ r h).le]
 unfold Pol.val;omega
theorem xc1 (hp:0<p.2.2)(hq:0<q.2.2)(h:Pol.aC p q):plc p=plc q:=by
 unfold plc
 rw[Fra.qN hp hq h.1,Fra.qN hp hq h.2]
theorem xbb (hp:0<p.2.2)(hq:0<q.2.2)(h:plc p=plc q):Pol.aC p q:=by
 have a:=(sdx hp).eq (sdx hq)
 have b:=(sdy hp).eq (sdy hq)
 rw[h] at a b
 exact⟨a.mp rfl,b.mp rfl⟩
theorem nQ (hp:0<p.2.2)(hq:0<q.2.2)(gp:Pol.ud p=1)(gq:Pol.ud q=1)(h:Pol.aC p q):p=q:=by
 have key:∀ {p q:Pol.R3},0<p.2.2→0<q.2.2→Pol.ud p=1→Pol.aC p q→p.2.2 ∣ q.2.2:=fun {p q} hp hq gp h=>by
  have h1:p.2.2 ∣ q.2.2*p.1:=⟨q.1,by have:=h.1;grind⟩
  have h2:p.2.2 ∣ q.2.2*p.2.1:=⟨q.2.1,by have:=h.2;grind⟩
  have h3:p.2.2 ∣ q.2.2*p.2.2:=Int.dvd_mul_left ..
  have g12:p.2.2 ∣ q.2.2*(Int.gcd p.1 p.2.1:Int):=by
   have:=xh3 h1 h2
   rw[xh8] at this
   have h4:((q.2.2).natAbs*Int.gcd p.1 p.2.1:Nat)=((q.2.2*(Int.gcd p.1 p.2.1:Int)).natAbs:Nat):=by rw[xiq];rfl
   rw[h4] at this
   exact xh4.mp this
  have g3:=xh3 g12 h3
  rw[xh8] at g3
  have hg':Int.gcd (Int.gcd p.1 p.2.1:Int) p.2.2=1:=gp
  rw[hg',Nat.mul_one] at g3
  exact xh4.mp g3
 have ez:p.2.2=q.2.2:=Int.dvd_antisymm (by omega) (by omega) (key hp hq gp h) (key hq hp gq ⟨h.1.symm,h.2.symm⟩)
 have h1:=h.1;have h2:=h.2
 rw[ez] at h1 h2
 exact Pol.ext3 (xh7 (by omega) h1) (xh7 (by omega) h2) ez
theorem dm {k:Nat}(h:0<v.2.2)(hb:B3k k v):Fk k (plc v).1∧Fk k (plc v).2:=⟨tj h hb.1.1 hb.2,tj h hb.1.2 hb.2⟩
end
theorem xe1 (p:P2):pln (pT p)=true:=rfl
theorem rz (f g:F2):teq (fT f) (fT g)=decide (f=g):=by
 have e:teq (fT f) (fT g)=(decide (f.1=g.1)&&(decide (f.2=g.2)&&true)):=rfl
 rw[e]
 by_cases h1:f.1=g.1
 ·by_cases h2:f.2=g.2
  ·simp[h1,h2,Prod.ext_iff]
  ·simp[h1,h2,Prod.ext_iff]
 ·simp[h1,Prod.ext_iff]
theorem xcB (p q:P2):teq (pT p) (pT q)=decide (p=q):=by
 have e:teq (pT p) (pT q)=(teq (fT p.1) (fT q.1)&&(teq (fT p.2) (fT q.2)&&true)):=rfl
 rw[e,rz,rz]
 by_cases h1:p.1=q.1
 ·by_cases h2:p.2=q.2
  ·simp[h1,h2,Prod.ext_iff]
  ·simp[h1,h2,Prod.ext_iff]
 ·simp[h1,Prod.ext_iff]
theorem xe2 (l:List P2)(c:P2):((l.map pT).any fun u=>teq u (pT c))=decide (c∈l):=by
 rw[xhY,xix,xj4]
 constructor
 ·rintro⟨u,hu,h⟩
  obtain⟨x,hx,rfl⟩:=xjl.mp hu
  rw[xcB,xj4] at h
  subst h;exact hx
 ·intro h
  exact⟨pT c,xjm h,by rw[xcB];simp⟩
end L2
namespace L2
open PySem PySem.Spec PyProof.Rows
theorem uz {α:Type}{dg:DG}{dc:DT}{de:DE}{τi:TSt}{KK:List Tr→Prop}{f:α→Tr}{l:List α}(p:α→Bool)(g:α→Tr)
  (h1:∀a∈l,∀(N:Tr→Prop) (M:Prop),(p a=true→N (g a))→(p a=false→M)→dg (f a) τi fun τ2=>dc τ2 fun b=>if b=true then de τ2 N else M) (h0:KK ((l.filter p).map g)):nI dg dc de τi KK (l.map f) []:=by
 refine gD (fun ys acc=>∃zs us,l=zs++us∧ys=us.map f∧acc=(zs.filter p).map g) (fun acc ⟨zs,us,e,ey,e2⟩=>?_) (fun x ys acc N ⟨zs,us,e,ey,e2⟩ hN=>?_) _ [] ⟨[],l,rfl,rfl,rfl⟩
 ·cases us with
  | nil=>rw[xiz] at e;subst e e2;exact h0
  | cons u us=>cases ey
 ·cases us with
  | nil=>cases ey
  | cons u us =>
   injection ey with ex ey
   subst ex ey e2
   have hu:u∈l:=by rw[e];simp
   refine h1 u hu (fun y=>N ((zs.filter p).map g++[y])) (N ((zs.filter p).map g)) (fun hp=>hN _ ⟨zs++[u],us,by rw[e];simp,rfl,?_⟩) (fun hp=>hN _ ⟨zs++[u],us,by rw[e];simp,rfl,?_⟩)
   ·rw[List.filter_append,xiI hp];simp
   ·rw[List.filter_append,List.filter_cons_of_neg (by rw[hp];exact xhZ)];simp
theorem tQ {α:Type}{dg:DG}{de:DE}{τi:TSt}{KK:List Tr→Prop}{f:α→Tr}{l:List α}(g:α→Tr)(h1:∀a∈l,∀N:Tr→Prop,N (g a)→dg (f a) τi fun τ2=>de τ2 N)(h0:KK (l.map g)):nI dg xaM de τi KK (l.map f) []:=by
 refine gD (fun ys acc=>∃zs us,l=zs++us∧ys=us.map f∧acc=zs.map g) (fun acc ⟨zs,us,e,ey,e2⟩=>?_) (fun x ys acc N ⟨zs,us,e,ey,e2⟩ hN=>?_) _ [] ⟨[],l,rfl,rfl,rfl⟩
 ·cases us with
  | nil=>rw[xiz] at e;subst e e2;exact h0
  | cons u us=>cases ey
 ·cases us with
  | nil=>cases ey
  | cons u us =>
   injection ey with ex ey
   subst ex ey e2
   exact h1 u (by rw[e];simp) (fun y=>N (zs.map g++[y])) (hN _ ⟨zs++[u],us,by rw[e];simp,rfl,by simp⟩)
theorem xdq (xs:List Tr):teq (.lst xs) (.lst [])=xs.isEmpty:=by cases xs<;>rfl
theorem xbi {xs:List Tr}(h:PyData.canLayAll0 (uP xs)=true):xdr (.lst xs) (.lst []):=⟨h,rfl,xjM (Nat.min_le_right _ _) (by decide)⟩
theorem nU {neg:Bool}{xs:List Tr}{KK:Tr→Prop}(h:PyData.canLayAll0 (uP xs)=true)(k:KK (.bl (if neg then !xs.isEmpty else xs.isEmpty))):xfW neg (.lst xs) (.lst []) KK:=⟨xbi h,by rw[xdq];exact k⟩
theorem filter_empty {α:Type}(p:α→Bool)(l:List α):(l.filter p).isEmpty=l.all fun x=>!p x:=by
 induction l with
 | nil=>rfl
 | cons x l ih =>
  by_cases h:p x=true
  ·rw[xiI h,List.all_cons,h];rfl
  ·rw[List.filter_cons_of_neg h,ih,List.all_cons]
   have:p x=false:=by simpa using h
   rw[this];rfl
def l6:TSp:=fun ts KK=>∃t b:Int,ts=[.int t,.int b]∧b≠0∧Bd b∧KK (fT (lfr t b))
def xaF (s t:Pol.R3):Tr:=if Pol.turn s t=0 then .non else zf (Pol.yA s t)
def dR:TSp:=fun ts KK=>∃s t:Pol.R3,ts=[trR s,trR t]∧B3k 900 s∧B3k 900 t∧KK (xaF s t)
def xaw:TSp:=fun ts KK=>∃(r:Pol.R3) (p:P2),ts=[trR r,pT p]∧B3k 200 r∧Fk 600 p.1∧Fk 600 p.2∧KK (fT (mG r p))
def xaj:TSp:=fun ts KK=>∃f g:F2,ts=[fT f,fT g]∧Fk 1000 f∧Fk 1000 g∧KK (.bl (aH f g))
def xaJ:TSp:=fun ts KK=>∃f g:F2,ts=[fT f,fT g]∧Fk 900 f∧Fk 900 g∧KK (fT (fmin f g))
def xcC:TSp:=fun ts KK=>∃f g:F2,ts=[fT f,fT g]∧Fk 900 f∧Fk 900 g∧KK (fT (o7 f g))
def nO:TSp:=fun ts KK=>∃f g:F2,ts=[fT f,fT g]∧Fk 900 f∧Fk 900 g∧KK (fT (pE f g))
def Pk (k:Nat)(p:P2):Prop:=Fk k p.1∧Fk k p.2
def xak:TSp:=fun ts KK=>∃p q w:P2,ts=[pT p,pT q,pT w]∧Pk 200 p∧Pk 200 q∧Pk 200 w∧KK (.int (bq p q w))
structure tF (l:List Pol.R3):Prop where
 ccw:Pol.Ccw l
 pos:∀v∈l,0<v.2.2
 prim:∀v∈l,Pol.ud v=1
 sm:∀v∈l,B3k 190 v
 least:Pol.jj l
 len:l.length≤900
def xcL:TSp:=fun ts KK=>∃ps l:List Pol.R3,ts=[.lst (ps.map zf)]∧(∀v,v∈ps↔v∈l)∧ps.length≤1000∧tF l∧KK (.lst (l.map zf))
structure uW (rows:List Pol.R3):Prop where
 fine:Pol.xcp rows rows
 len:rows.length≤8
def kY (rows:List Pol.R3):List Pol.R3:=yl (Pol.pieces rows)
def ma:TSp:=fun ts KK=>∃rows:List Pol.R3,ts=[.tup (rows.map trR)]∧uW rows∧KK (.lst ((kY rows).map zf))
theorem Fk.min {k:Nat}{f g:F2}(h:Fk k f)(h':Fk k g):Fk (2*k+1) (fmin f g):=by
 unfold fmin
 refine rp (by have:=Pol.pp h.pos h'.pos;omega) ?_ ?_
 ·exact((h.top.mul h'.bot).sub (h'.top.mul h.bot)).mono (by omega)
 ·exact(h.bot.mul h'.bot).mono (by omega)
theorem Fk.tim {k:Nat}{f g:F2}(h:Fk k f)(h':Fk k g):Fk (2*k) (pE f g):=by
 unfold pE
 refine rp (by have:=Pol.pp h.pos h'.pos;omega) ?_ ?_
 ·exact(h.top.mul h'.top).mono (by omega)
 ·exact(h.bot.mul h'.bot).mono (by omega)
theorem tI (p q:Pol.R3):ahead p q=true↔Pol.Ah p q:=by unfold ahead Pol.Ah;exact xj5
theorem ak (l:List Pol.R3)(hl:l≠[]):∀n,n≤l.length→(List.range n).foldl (ye l) 0<l.length
 | 0,_=>by simp;exact List.length_pos_iff.mpr hl
 | n+1,h=>by
  rw[List.range_succ,xiL]
  have ih:=ak l hl n (by omega)
  generalize (List.range n).foldl (ye l) 0=m at ih ⊢
  show ye l m n<_
  unfold ye
  split<;>omega
theorem bU (l:List Pol.R3)(hp:∀v∈l,0<v.2.2)(hl:l≠[]):∀n,n≤l.length→∀j,j<n→¬Pol.Ah (l.getD j (0,0,0)) (l.getD ((List.range n).foldl (ye l) 0) (0,0,0))
 | 0,_=>fun j hj=>by omega
 | n+1,h=>fun j hj=>by
  rw[List.range_succ,xiL]
  have ih:=bU l hp hl n (by omega)
  have s:=ak l hl n (by omega)
  have g:∀i,i<l.length→0<(l.getD i (0,0,0)).2.2:=fun i hi=>by
   rw[xiN,xiP hi];exact hp _ (xiV hi)
  generalize (List.range n).foldl (ye l) 0=m at ih s ⊢
  show ¬Pol.Ah _ (l.getD (ye l m n) (0,0,0))
  by_cases c:ahead (l.getD n (0,0,0)) (l.getD m (0,0,0))=true
  ·have e:ye l m n=n:=by unfold ye;rw[if_pos c]
   rw[e]
   have c:=(tI _ _).mp c
   by_cases hjn:j=n
   ·rw[hjn];exact Pol.Ah.irrefl _
   ·intro z
    exact ih j (by omega) (z.trans (g j (by omega)) (g n (by omega)) (g m s) c)
  ·have e:ye l m n=m:=by unfold ye;rw[if_neg c]
   rw[e]
   by_cases hjn:j=n
   ·rw[hjn];exact fun z=>c ((tI _ _).mpr z)
   ·exact ih j (by omega)
theorem fU {l:List Pol.R3}(hp:∀v∈l,0<v.2.2):Pol.jj (yl l):=by
 intro h t e v hv
 have hl:l≠[]:=fun z=>by rw[z] at e;unfold yl at e;simp at e
 have s:=ak l hl l.length (xjK _)
 have ok:=bU l hp hl l.length (xjK _)
 have hh:h=l.getD (vm l) (0,0,0):=by
  unfold yl at e
  rw[xiD (show vm l<l.length from s),xiC] at e
  injection e with e1 e2
  rw[←e1,xiN,xiP (show vm l<l.length from s)];rfl
 have hv:=wQ hv
 obtain⟨j,hj,rfl⟩:=xjk.mp hv
 have:=ok j hj
 rw[hh]
 rw[xiN,xiP hj] at this
 exact this
theorem jN {l:List Pol.R3}{v:Pol.R3}:v∈yl l↔v∈l:=by
 unfold yl
 rw[xjc,Or.comm,←xjc,xjF]
theorem aK {l:List Pol.R3}(h:Pol.Ccw l):Pol.Ccw (yl l):=by
 unfold yl
 apply Pol.Ccw.rot
 rw[xjF];exact h
theorem uW.rows {rows:List Pol.R3}(h:uW rows):qg rows:=⟨h.fine.dir,fun r hr=>d_ (h.fine.fr r hr),by have:=h.len;omega⟩
theorem wH {r:Pol.R3}(h:Pol.rk r):B3k 10 r:=by
 obtain⟨⟨⟨a,b⟩,c,d⟩,e,f⟩:=h
 refine⟨⟨?_,?_⟩,?_⟩<;>unfold Bk<;>omega
theorem uW.corner {rows:List Pol.R3}(h:uW rows){v:Pol.R3}(hv:v∈kY rows):(0<v.2.2∧Pol.ud v=1∧Pol.IsC rows v)∧B3k 21 v:=by
 have hv:v∈Pol.pieces rows:=wQ hv
 have c:=h.fine.corner hv
 refine⟨c,?_⟩
 obtain⟨hz,g,⟨_,s,hs,t,ht,e1,e2,hn⟩⟩:=c
 obtain⟨b1,b2,b3⟩:=Pol.j6 g hz e1 e2 hn
 have S:=wH (h.fine.fr s hs)
 have T:=wH (h.fine.fr t ht)
 have m:∀ {x y z w:Int},Bk 10 x→Bk 10 y→Bk 10 z→Bk 10 w→Bk 21 (x*y-z*w):=fun h1 h2 h3 h4=>(h1.mul h2).sub (h3.mul h4)
 refine⟨⟨(m S.2 T.1.2 T.2 S.1.2).le b2,(m T.2 S.1.1 S.2 T.1.1).le b3⟩,?_⟩
 refine(m S.1.1 T.1.2 S.1.2 T.1.1).le ?_
 unfold Pol.turn at b1
 omega
theorem uW.ring {rows:List Pol.R3}(h:uW rows):tF (kY rows) where
 ccw:=aK (Pol.wm h.fine.dir).ccw
 pos:=fun v hv=>(h.corner hv).1.1
 prim:=fun v hv=>(h.corner hv).1.2.1
 sm:=fun v hv=>(h.corner hv).2.mono (by decide)
 least:=fU (Pol.wm h.fine.dir).bot
 len:=by
  unfold kY
  rw[vo]
  have:=Pol.dJ h.fine.dir
  have:=h.len
  omega
theorem uW.crossing {rows:List Pol.R3}(h:uW rows){s t:Pol.R3}(hs:s∈rows)(ht:t∈rows)(hn:Pol.turn s t≠0)(hk:∀r∈rows,Pol.val r (Pol.yA s t)≤0):∃v∈kY rows,zf (Pol.yA s t)=zf v:=by
 obtain⟨z,e1,e2⟩:=Pol.u6 hn
 obtain⟨v,hv,sm⟩:=h.fine.found z ⟨hk,s,hs,t,ht,e1,e2,hn⟩
 refine⟨v,jN.mpr hv,?_⟩
 rw[jM,jM,xc1 z (h.fine.corner hv).1 ⟨sm.1.symm,sm.2.symm⟩]
theorem uW.tightPt {rows:List Pol.R3}(h:uW rows){s t v:Pol.R3}(hv:v∈kY rows)(hn:Pol.turn s t≠0)(h1:Pol.val s v=0)(h2:Pol.val t v=0):zf (Pol.yA s t)=zf v∧∀r∈rows,Pol.val r (Pol.yA s t)≤0:=by
 obtain⟨⟨hz,_,hc⟩,_⟩:=h.corner hv
 obtain⟨z,e1,e2⟩:=Pol.u6 hn
 have sm:=Pol.rM hn h1 h2
 refine⟨by rw[jM,jM,xc1 z hz sm],fun r hr=>?_⟩
 have k:=hc.kept r hr
 have e:Pol.val r (Pol.yA s t)*v.2.2=Pol.val r v*(Pol.yA s t).2.2:=by
  have a:=sm.1;have b:=sm.2
  unfold Pol.val
  grind
 have:Pol.val r (Pol.yA s t)*v.2.2≤0:=by rw[e];exact Pol.np k (by omega)
 rcases xid 0 (Pol.val r (Pol.yA s t)) with q | q
 ·have:=Pol.pp q hz;omega
 ·exact q
theorem c7 {p q:Pol.R3}(hp:0<p.2.2)(hq:0<q.2.2)(gp:Pol.ud p=1)(gq:Pol.ud q=1)(h:plc p=plc q):p=q:=nQ hp hq gp gq (xbb hp hq h)
end L2
namespace L2
open PySem PySem.Spec PyProof.Rows
theorem mW {s t:Pol.R3}(h:Pol.turn s t≠0):zf (Pol.yA s t)=pT (lfr (s.2.2*t.2.1-s.2.1*t.2.2) (Pol.turn s t),lfr (s.1*t.2.2-s.2.2*t.1) (Pol.turn s t)):=by
 rw[jM]
 congr 1
 unfold Pol.yA lfr plc
 split<;>rfl
theorem tG {s t:Pol.R3}(h:Pol.turn s t=0):xaF s t=.non:=if_pos h
theorem dW {s t:Pol.R3}(h:Pol.turn s t≠0):xaF s t=zf (Pol.yA s t):=if_neg h
theorem lM {p q:Pol.R3}(hp:0<p.2.2)(hq:0<q.2.2):aH (plc p).1 (plc q).1=true↔p.1*q.2.2<q.1*p.2.2:=by
 unfold aH;rw[xj5];exact(sdx hp).lt (sdx hq)
theorem lb {p q:Pol.R3}(hp:0<p.2.2)(hq:0<q.2.2):aH (plc p).2 (plc q).2=true↔p.2.1*q.2.2<q.2.1*p.2.2:=by
 unfold aH;rw[xj5];exact(sdy hp).lt (sdy hq)
theorem xde {p q:Pol.R3}(hp:0<p.2.2)(hq:0<q.2.2):(plc p).1=(plc q).1↔p.1*q.2.2=q.1*p.2.2 :=
 ⟨fun e=>((sdx hp).eq (sdx hq)).mp (by rw[e]),fun e=>Fra.qN hp hq e⟩
theorem l5 {l ss:List Pol.R3}(hr:tF l)(hm:∀v,v∈ss↔v∈l)(hl:Pol.jj ss):ss.head? = l.head?:=by
 cases ss with
 | nil =>
  cases l with
  | nil=>rfl
  | cons a t=>exact absurd ((hm a).mpr xjh) (by simp)
 | cons b u =>
  cases l with
  | nil=>exact absurd ((hm b).mp xjh) (by simp)
  | cons a t =>
   have hb:=(hm b).mp xjh
   have ha:=(hm a).mpr xjh
   have h1:=hr.least a t rfl b hb
   have h2:=hl b u rfl a ha
   have:=nQ (hr.pos b hb) (hr.pos a xjh) (hr.prim b hb) (hr.prim a xjh) (Pol.Ah.total h1 h2)
   rw[this];rfl
theorem pJ {l ss:List Pol.R3}(hr:tF l)(nd:ss.Nodup)(hm:∀v,v∈ss↔v∈l)(hl:Pol.jj ss)(h3:ss.length<3):ss=l:=by
 have hh:=l5 hr hm hl
 have len:=Pol.dA nd hr.ccw.nd hm
 rcases ss with _ | ⟨a,_ | ⟨b,_ | ⟨e,t⟩⟩⟩
 ·rcases l with _ | ⟨c,u⟩
  ·rfl
  ·cases len
 ·rcases l with _ | ⟨c,_ | ⟨d,u⟩⟩
  ·cases len
  ·simpa using hh
  ·cases len
 ·rcases l with _ | ⟨c,_ | ⟨d,_ | ⟨g,u⟩⟩⟩
  ·cases len
  ·cases len
  ·have e:a=c:=by simpa using hh
   subst e
   have hb:=(hm b).mp (by simp)
   have:b≠a:=fun z=>by subst z;simp at nd
   simp[this] at hb
   rw[hb]
  ·cases len
 ·exact absurd h3 (by simp)
theorem xcn {f g:F2}(h:fT f=fT g):f=g:=by
 have e:=rz f g
 unfold fT frT at h
 injection h with h
 injection h with h1 h
 injection h with h2 h
 injection h1 with h1;injection h2 with h2
 exact Prod.ext h1 h2
theorem xfv {p q:P2}(h:pT p=pT q):p=q:=by
 unfold pT at h
 injection h with h
 injection h with h1 h
 injection h with h2 h
 exact Prod.ext (xcn h1) (xcn h2)
theorem xbv (l:List Pol.R3):l.map zf=(l.map plc).map pT:=by rw[xi_];rfl
theorem bV {l:List Pol.R3}(hp:∀v∈l,0<v.2.2)(hg:∀v∈l,Pol.ud v=1){ss:List Pol.R3}(hs:∀v∈ss,v∈l){p:Pol.R3}(h:p∈l):((ss.map zf).any fun u=>teq u (zf p))=decide (p∈ss):=by
 rw[xbv,jM,xe2,xj1]
 constructor
 ·intro z
  obtain⟨y,hy,e⟩:=xjl.mp z
  rw[←c7 (hp y (hs y hy)) (hp p h) (hg y (hs y hy)) (hg p h) e];exact hy
 ·intro z;exact xjm z
theorem gG (l:List Pol.R3):PyData.canLayAll0 (uP (l.map zf))=true:=uT zf (fun v=>xe1 (plc v)) l
end L2
namespace L2
open PySem PySem.Spec PyProof.Rows
theorem xW {A B:DS}{G:fe}{τ:TSt}(P:TSt→Prop)(hB:∀ τ',P τ'→B G τ')(hA:∀N:TSt→Prop,(∀ τ',P τ'→N τ')→A { G with nx:=N } τ):xdP A B G τ:=hA (B G) hB
theorem qV {di:DI}{dg:DG}{body:DS}{G:fe}{τ:TSt}(all:List Tr)(W:Nat→TSt→Prop)(hd:∀KK:List Tr→Prop,KK all→di τ KK)(w0:W 0 τ)
  (h1:∀i x τ (N:TSt→Prop),all[i]? = some x→W i τ→(∀ τ',W (i+1) τ'→N τ')→dg x τ fun τ'=>body { G with nx:=N,ct:=N,bk:=G.nx } τ')
  (h0:∀ τ,W all.length τ→G.nx τ):xg0 di dg body G τ:=hd _ (wx W w0 h1 h0)
theorem gz {i:Int}(h:-1000000≤i∧i≤1000000):Bd i:=xef (by omega) (by omega)
theorem zM {i j:Int}(h:-1000000≤i∧i≤1000000)(h':-1000000≤j∧j≤1000000):CM i j:=⟨gz h,gz h'⟩
theorem tk {m:Int}(h:0<m∧m<1000000):0<m∧m<2 ^ 128:=⟨h.1,by omega⟩
structure LF0 (rows:List Pol.R3):Prop where
 l3:3≤rows.length
 l8:rows.length≤8
 sm:∀r∈rows,((-14≤r.1∧r.1≤14)∧(-14≤r.2.1∧r.2.1≤14))∧(-100≤r.2.2∧r.2.2≤100)
 dir:∀r∈rows,r.1≠0∨r.2.1≠0
 gr:Pol.GR rows
 near:∀p:Pol.R3,0<p.2.2→(∀r∈rows,Pol.val r p≤0)→(-(9*p.2.2)≤p.1∧p.1≤9*p.2.2)∧(-(9*p.2.2)≤p.2.1∧p.2.1≤9*p.2.2)
structure LF (rows:List Pol.R3):Prop where
 l3:3≤rows.length
 l8:rows.length≤8
 sm:∀r∈rows,((-14≤r.1∧r.1≤14)∧(-14≤r.2.1∧r.2.1≤14))∧(-200≤r.2.2∧r.2.2≤200)
 dir:∀r∈rows,r.1≠0∨r.2.1≠0
 gr:Pol.GR rows
 near:∀p:Pol.R3,0<p.2.2→(∀r∈rows,Pol.val r p≤0)→(-(12*p.2.2)≤p.1∧p.1≤12*p.2.2)∧(-(12*p.2.2)≤p.2.1∧p.2.1≤12*p.2.2)
def hJ (u v:Int)(r:Pol.R3):Pol.R3:=(r.1,r.2.1,r.2.2+r.1*u+r.2.1*v)
theorem dQ {a b m n:Int}(h1:-m≤a)(h2:a≤m)(h3:-n≤b)(h4:b≤n)(hm:0≤m)(hn:0≤n):-(m*n)≤a*b∧a*b≤m*n:=by
 have key:(a*b).natAbs≤(m*n).natAbs:=by
  rw[xiq,xiq]
  exact Nat.mul_le_mul (by omega) (by omega)
 have:=Pol.pz hm hn
 omega
theorem LF0.moved {rows:List Pol.R3}(h:LF0 rows){u v:Int}(hu:-3≤u∧u≤3)(hv:-3≤v∧v≤3):LF (rows.map (hJ u v)) where
 l3:=by rw[xi0];exact h.l3
 l8:=by rw[xi0];exact h.l8
 sm:=fun r hr=>by
  obtain⟨s,hs,rfl⟩:=xjl.mp hr
  obtain⟨⟨⟨a1,a2⟩,b1,b2⟩,c1,c2⟩:=h.sm s hs
  have x:=dQ a1 a2 hu.1 hu.2 (by decide) (by decide)
  have y:=dQ b1 b2 hv.1 hv.2 (by decide) (by decide)
  simp only[hJ]
  omega
 dir:=fun r hr=>by
  obtain⟨s,hs,rfl⟩:=xjl.mp hr
  exact h.dir s hs
 gr:=fun x y hn=>by
  obtain⟨r,hr,p⟩:=h.gr x y hn
  exact⟨hJ u v r,xjm hr,p⟩
 near:=fun p hz hk=>by
  have:=h.near (p.1-u*p.2.2,p.2.1-v*p.2.2,p.2.2) hz fun r hr=>by
   have:=hk _ (xjm hr)
   have e:Pol.val r (p.1-u*p.2.2,p.2.1-v*p.2.2,p.2.2)=Pol.val (hJ u v r) p:=by simp only[Pol.val,hJ];grind
   rw[e];exact this
  simp only at this
  have x:=xik hu.1 (show 0≤p.2.2 by omega)
  have x':=xik hu.2 (show 0≤p.2.2 by omega)
  have y:=xik hv.1 (show 0≤p.2.2 by omega)
  have y':=xik hv.2 (show 0≤p.2.2 by omega)
  omega
theorem LF.frow {rows:List Pol.R3}(h:LF rows):∀r∈rows,Pol.rk r:=fun r hr=>by have:=h.sm r hr;unfold Pol.rk;omega
theorem LF.fine {rows:List Pol.R3}(h:LF rows):uW rows:=⟨⟨fun {p} hz hp s hs=>by
 have:=h.near p hz hp
 simp only[Pol.ox,xjf,xjv,xj9] at hs
 rcases hs with rfl | rfl | rfl | rfl<;>simp only[Pol.val,Pol.FAR]<;>omega,h.frow,fun _ h=>h,h.dir⟩,h.l8⟩
theorem tW {n d:Int}(hd:0<d):nearF (ni n d) (rj n d)=true↔-(12*d)≤n∧n≤12*d:=by
 have s:=xab (t:=n) (b:=d) hd
 unfold nearF
 rw[xj5]
 have h1:=s.le 12
 have h2:-(12*rj n d)≤ni n d↔-(12*d)≤n:=by
  have e:=s.e
  have p:=s.pf
  show -(12*(Fra.low n d).2)≤(Fra.low n d).1↔_
  rw[←uX hd,e,show -(12*(Fra.low n d).2)*d=(-(12*d))*(Fra.low n d).2 by grind,uX p]
 have h3:ni n d≤12*rj n d↔n≤12*d:=h1
 rw[h2,h3]
theorem lG {v:Pol.R3}(hz:0<v.2.2):sM v=true↔(-(12*v.2.2)≤v.1∧v.1≤12*v.2.2)∧(-(12*v.2.2)≤v.2.1∧v.2.1≤12*v.2.2):=by
 unfold sM
 rw[xhX,tW hz,tW hz]
theorem LF.field {rows:List Pol.R3}(h:LF rows):isField (.tup (rows.map trR))=true:=by
 show(match rowsOf (rows.map trR) with | some rows=>xy rows | none=>false)=true
 rw[jO]
 show xy rows=true
 unfold xy
 rw[xj3 ⟨h.l3,h.l8⟩,Pol.xbL h.dir (Pol.xgt h.gr) (Pol.xgj h.dir h.gr)]
 have e1:(rows.all fun r=>decide ((r.1≠0∨r.2.1≠0)∧Pol.rk r))=true:=by
  rw[xiw];intro r hr;exact xj3 ⟨h.dir r hr,h.frow r hr⟩
 have e2:(Pol.pieces rows).all sM=true:=by
  rw[xiw]
  intro v hv
  obtain⟨hz,_,hc⟩:=h.fine.fine.corner hv
  exact(lG hz).mpr (h.near v hz hc.kept)
 rw[e1,e2];rfl
theorem xf0 {b c x z:Int}(hb:1≤b)(hc:c≤5*b)(hz:0<z)(h:b*x≤c*z):x≤5*z:=by
 have h1:c*z≤5*b*z:=xik hc (by omega)
 have h2:b*x≤b*(5*z):=by
  have:b*(5*z)=5*b*z:=by grind
  omega
 exact xia h2 (by omega)
def Extra (r:Pol.R3):Prop:=(((-6≤r.1∧r.1≤6)∧(-6≤r.2.1∧r.2.1≤6))∧(-40≤r.2.2∧r.2.2≤40))∧(r.1≠0∨r.2.1≠0)
def dT (d:Int×Int):Tr:=.tup [.int d.1,.int d.2]
def Drawn (d:Int×Int)(y:Tr):Prop:=∃c:Int,(0≤c∧c<8)∧y=.tup [.int d.1,.int d.2,.int c]
theorem xbu {k:Int}(h1:1≤k)(h7:k≤7):LF0 [(-1,0,0),(1,-2*k,0),(1,2*k,2*k)]:=by
 refine⟨by simp,by simp,fun r hr=>?_,fun r hr=>?_,fun u v hn=>?_,fun p hz hk=>?_⟩
 ·simp only[xjf,xjv,xj9] at hr
  rcases hr with rfl | rfl | rfl<;>simp only<;>omega
 ·simp only[xjf,xjv,xj9] at hr
  rcases hr with rfl | rfl | rfl<;>simp only<;>omega
 ·rcases xid u 0 with c | c
  ·exact⟨_,xjh,by simp only;omega⟩
  ·rcases xie v 0 with d | d | d
   ·refine⟨(1,-2*k,0),by simp,?_⟩
    simp only
    have:=xio (show 0<k by omega) (show 0 < -v by omega)
    grind
   ·refine⟨(1,2*k,2*k),by simp,?_⟩
    simp only
    subst d
    omega
   ·refine⟨(1,2*k,2*k),by simp,?_⟩
    simp only
    have:=xio (show 0<k by omega) d
    grind
 ·have k1:=hk (-1,0,0) (by simp)
  have k2:=hk (1,-2*k,0) (by simp)
  have k3:=hk (1,2*k,2*k) (by simp)
  simp only[Pol.val] at k1 k2 k3
  have e2:p.1≤2*(k*p.2.1):=by grind
  have e3:p.1+2*(k*p.2.1)≤2*(k*p.2.2):=by grind
  have kz:k*p.2.2≤7*p.2.2:=xik h7 (by omega)
  have y0:0≤p.2.1:=Pol.zz (show 0<k by omega) (by omega)
  have y1:p.2.1≤p.2.2:=by
   have:k*p.2.1≤k*p.2.2:=by omega
   exact xia this (by omega)
  omega
end L2
namespace L2
open PySem PySem.Spec PyProof.Rows
theorem qi {rows:List Pol.R3}:isField (.tup (rows.map trR))=xy rows:=by
 show(match rowsOf (rows.map trR) with | some rows=>xy rows | none=>false)=_
 rw[jO]
end L2
namespace L2
open PySem PySem.Spec PyProof.Rows
def DD (K:PySem.W.Frag)(x:Str)(st:Stmt):Prop:=∃f fd,PySem.W.nsIn K mainGlobals x=some (some (.ref f))∧Fun K x x st f fd
theorem dd {K:PySem.W.Frag}{x:Str}{st:Stmt}{f:Addr}{oc:Value}{od an:Option Addr}{sl:Array (Option Value)}{kV dc pm cd ct:Value}(a:PySem.W.nsIn K mainGlobals x=some (some (.ref f)))
  (l:K.lookup f=some ⟨oc,od,.func (PySem.W.fnOf x x (wu st) (yQ st) (xh st) .none kV dc pm an cd ct),sl⟩) (c:PySem.W.codeIn K cd x=true) (k:PySem.W.keepIn K (.ref f)=true):DD K x st:=⟨f,_,a,oZ l c k⟩
theorem zI {K:PySem.W.Frag}{x qual p1:Str}{st:Stmt}{f:Addr}{fd:FuncData}(F:Fun K x qual st f fd)(h:∀(kV doc pm:Value) (an:Option Addr) (cdv ct u1:Value),bindArgs (PySem.W.fnOf x qual (wu st) (yQ st) (xh st) .none kV doc pm an cdv ct) ⟨[u1],[]⟩=pure [(p1,u1)]):Binds K fd [p1] [] :=
 F.binds fun a b c d e g us hl=>match us,hl with | [u1],_=>h a b c d e g u1
theorem yL {K:PySem.W.Frag}{x qual p1 p2:Str}{st:Stmt}{f:Addr}{fd:FuncData}(F:Fun K x qual st f fd)(h:∀(kV doc pm:Value) (an:Option Addr) (cdv ct u1 u2:Value),bindArgs (PySem.W.fnOf x qual (wu st) (yQ st) (xh st) .none kV doc pm an cdv ct) ⟨[u1,u2],[]⟩=pure [(p1,u1),(p2,u2)]):Binds K fd [p1,p2] [] :=
 F.binds fun a b c d e g us hl=>match us,hl with | [u1,u2],_=>h a b c d e g u1 u2
theorem oD {K:PySem.W.Frag}{x qual p1 p2 p3:Str}{st:Stmt}{f:Addr}{fd:FuncData}(F:Fun K x qual st f fd)(h:∀(kV doc pm:Value) (an:Option Addr) (cdv ct u1 u2 u3:Value),bindArgs (PySem.W.fnOf x qual (wu st) (yQ st) (xh st) .none kV doc pm an cdv ct) ⟨[u1,u2,u3],[]⟩=pure [(p1,u1),(p2,u2),(p3,u3)]):Binds K fd [p1,p2,p3] [] :=
 F.binds fun a b c d e g us hl=>match us,hl with | [u1,u2,u3],_=>h a b c d e g u1 u2 u3
def mK (w:Int)(f:F2):F2:=Fra.low (w*f.1) f.2
def xfE:TSp:=fun ts KK=>∃f g:F2,ts=[fT f,fT g]∧Fk 900 f∧Fk 900 g∧KK (fT (o7 f g))
def xci:TSp:=fun ts KK=>∃(w:Int) (f:F2),ts=[.int w,fT f]∧Bk 900 w∧Fk 900 f∧KK (fT (mK w f))
def xcS:TSp:=fun ts KK=>∃(a b:Int) (x:List Tr) (p:P2),ts=[.tup (.int a::.int b::x),pT p]∧Bk 200 a∧Bk 200 b∧Pk 600 p∧KK (fT (mG (a,b,0) p))
def xfP (r:Pol.R3)(p:P2):Bool:=decide ((mG r p).1=r.2.2*(mG r p).2)
def wt:TSp:=fun ts KK=>∃t,ts=[t]∧isField t=true∧KK .non
def be:TSp:=fun ts KK=>∃rows:List Pol.R3,ts=[.tup (rows.map trR)]∧xy rows=true∧uW rows∧KK (.lst ((kY rows).map zf))
def brk (v:Pol.R3):Bool := !decide ((plc v).1.2=1) || !decide ((plc v).2.2=1)
theorem xb3 {rows:List Pol.R3}(h:xy rows=true):(3≤rows.length∧rows.length≤8)∧(∀r∈rows,(r.1≠0∨r.2.1≠0)∧Pol.rk r)∧Pol.wL rows=true∧∀v∈Pol.pieces rows,sM v=true:=by
 unfold xy at h
 simp only[xhX,xj4,xiw] at h
 exact⟨h.1.1.1,h.1.1.2,h.1.2,h.2⟩
theorem xb3.fr {rows:List Pol.R3}(h:xy rows=true):uW rows:=by
 obtain⟨l,d,g,n⟩:=xb3 h
 have dir:∀r∈rows,r.1≠0∨r.2.1≠0:=fun r hr=>(d r hr).1
 exact⟨Pol.xdI (Pol.xb4 dir g) (fun r hr=>(d r hr).2) (fun _ h=>h) dir,l.2⟩
theorem wo {rows:List Pol.R3}(h:xy rows=true):isField (.tup (rows.map trR))=true:=by rw[qi];exact h
theorem LF.isf {rows:List Pol.R3}(h:LF rows):xy rows=true:=by rw[←qi];exact h.field
theorem xca {t b:Int}(h:0<b):frT (ni t b) (rj t b)=fT (lfr t b):=by rw[jR h];rfl
theorem Fk.timW {k m:Nat}{w:Int}{f:F2}(hw:Bk k w)(h:Fk m f):Fk (k+m) (mK w f):=tj h.pos (hw.mul h.top) (h.bot.mono (by omega))
theorem cI {a b:Int}{p:P2}(hx:0<p.1.2)(hy:0<p.2.2):o7 (mK a p.1) (mK b p.2)=mG (a,b,0) p:=by
 unfold o7 mK mG
 rw[jR (Pol.pp (Fra.u_ hx) (Fra.u_ hy)),jR (Pol.pp hx hy)]
 exact Fra.xc9 hx hy
theorem xdx {r:Pol.R3}{p:P2}(hr:B3k 200 r)(hp:Pk 600 p):Fk 1500 (mG r p):=by
 unfold mG
 exact rp (k:=1500) (by have:=Pol.pp hp.1.pos hp.2.pos;omega) (((hr.1.1.mul hp.1.top |>.mul hp.2.bot).add (hr.1.2.mul hp.2.top |>.mul hp.1.bot)).mono (by decide)) ((hp.1.bot.mul hp.2.bot).mono (by decide))
def xdY:Tr→Bool
 | .non | .bl _ | .int _=>true
 | _=>false
def Sm:Nat→Tr→Prop
 | 0,t=>xdY t=true
 | d+1,t=>xdY t=true∨∃us,(t=.tup us∨t=.lst us)∧us.length≤100000∧∀u∈us,Sm d u
def xeI (d:Nat):TSp:=fun ts KK=>∃t,ts=[t,t]∧Sm d t∧KK (.bl true)
def xeP:TSp:=fun _ _=>False
def xcQ:Nat→TSp
 | 0=>xeP
 | d+1=>xeI d
def xcm:TSp:=xeI 4
theorem Sm.up {t:Tr}:∀ {d:Nat},Sm d t→Sm (d+1) t
 | 0,h=>.inl h
 | d+1,h=>h.imp id fun⟨us,e,l,k⟩=>⟨us,e,l,fun u hu=>Sm.up (k u hu)⟩
theorem xfH (d:Nat)(i:Int):Sm d (.int i):=by cases d;exact rfl;exact .inl rfl
theorem xcy {d:Nat}{us:List Tr}(l:us.length≤100000)(h:∀u∈us,Sm d u):Sm (d+1) (.tup us):=.inr ⟨us,.inl rfl,l,h⟩
theorem bJ {rows:List Pol.R3}(h:uW rows):(kY rows).length≤900:=h.ring.len
theorem tm (us:List Tr):pj us us=us.map fun u=>.tup [u,u]:=by
 induction us with
 | nil=>rfl
 | cons u us ih=>show Tr.tup [u,u]::pj us us=_;rw[ih];rfl
theorem xb8 {P:Program}{w:World}{K:PySem.W.Frag}{mg:Str→Option Value}{base:Heap}{x qual:Str}{st:Stmt}{f:Addr}{fd:FuncData}{N ps:List Str}{n:Nat}{s fr:Bool}(F:Fun K x qual st f fd)(S:xA N ps (xh st))(mgx:mg x=some (.ref f))(b:Binds K fd ps []) :
  Own P w K mg base 1 x ps (spT n s fr xeP) :=
 fc F S mgx b (fun vs H Q E h=>by obtain⟨_,_,_,_,_,_,_,_,_,_,_,z,_⟩:=h;exact z.elim) (fun cdv A outer s H vs Q E hr h=>by obtain⟨_,_,_,_,_,_,_,_,_,_,_,z,_⟩:=h;exact z.elim)
end L2
namespace L2
open PySem PySem.Spec PyProof.Rows
def xcz:TSp:=fun ts KK=>∃(r:Pol.R3) (p:P2),ts=[trR r,pT p]∧B3k 200 r∧Pk 600 p∧KK (.bl (zC r p))
theorem uW.pk2 {rows:List Pol.R3}(h:uW rows){v:Pol.R3}(hv:v∈kY rows):Pk 100 (plc v):=by
 have:=h.corner hv
 have:=dm this.1.1 this.2
 exact⟨this.1.mono (by decide),this.2.mono (by decide)⟩
theorem uW.pk {rows:List Pol.R3}(h:uW rows){v:Pol.R3}(hv:v∈kY rows):Pk 600 (plc v):=⟨(h.pk2 hv).1.mono (by decide),(h.pk2 hv).2.mono (by decide)⟩
theorem xb0 {k m n:Nat}{a b c:Int}{p:P2}(ha:Bk k a)(hb:Bk k b)(hp:Pk m p)(h:k+m+m+1≤n):Fk n (mG (a,b,c) p):=by
 unfold mG
 exact rp (k:=n) (by have:=Pol.pp hp.1.pos hp.2.pos;omega) (((ha.mul hp.1.top |>.mul hp.2.bot).add (hb.mul hp.2.top |>.mul hp.1.bot)).mono h) ((hp.1.bot.mul hp.2.bot).mono (by omega))
end L2
namespace L2
open PySem PySem.Spec PyProof.Rows
theorem ai (its:List Value):slicePick its.toArray none none (some (-1))=its.reverse.toArray:=by
 unfold slicePick sliceBounds
 simp only[xjX,show ¬((-1:Int)>0) by decide,xj6,xjC]
 unfold sliceRange
 simp only[show ¬((-1:Int)>0) by decide,xj6]
 congr 1
 have key:∀l:List Value,(List.map (fun k:Nat=>((l.length:Int)-1+-1*(k:Int)).toNat) (List.range l.length)).filterMap (fun k=>l[k]?)=l.reverse:=fun l=>by
  have e:(List.map (fun k:Nat=>((l.length:Int)-1+-1*(k:Int)).toNat) (List.range l.length)).filterMap (fun k=>l[k]?)=(List.range l.length).filterMap (fun k=>l.reverse[k]?):=by
   rw[List.filterMap_map]
   have g:∀ks:List Nat,(∀k∈ks,k<l.length)→ks.filterMap ((fun k=>l[k]?) ∘ fun k:Nat=>((l.length:Int)-1+-1*(k:Int)).toNat)=ks.filterMap (fun k=>l.reverse[k]?):=fun ks=>by
    induction ks with
    | nil=>exact fun _=>rfl
    | cons k ks ih =>
     intro h
     have hk:=h k xjh
     have e:((fun k=>l[k]?) ∘ fun k:Nat=>((l.length:Int)-1+-1*(k:Int)).toNat) k=l.reverse[k]?:=by
      simp only[Function.comp]
      rw[List.getElem?_reverse hk]
      congr 1
      omega
     rw[xiH,xiH,e,ih fun q hq=>h q (xjg _ hq)]
   exact g _ fun k hk=>xjp.mp hk
  rw[e]
  have:∀m:List Value,(List.range m.length).filterMap (fun k=>m[k]?)=m:=fun m=>by
   have:=pick_run m.toArray 0 m.length
   simp at this
   exact this
  have t:=this l.reverse
  rw[xi3] at t
  exact t
 by_cases h:(its.length:Int)-1 > -1
 ·rw[if_pos h]
  have e:(((its.length:Int)-1 - -1 - -1-1) / - -1).toNat=its.length:=by
   have:((its.length:Int)-1 - -1 - -1-1) / - -1=(its.length:Int):=by
    rw[show(- -1:Int)=1 by decide,Int.ediv_one];omega
   rw[this,xir]
  rw[e]
  have:=key its
  simpa using this
 ·have:its=[]:=by cases its with | nil=>rfl | cons a l=>simp at h;omega
  subst this
  simp
theorem bg:∀ {xs:List V} {us:List Value},yS xs us→yS xs.reverse us.reverse
 | _,_,.nil=>.nil
 | _,_,.cons r rs=>by rw[xjA,xjA];exact(bg rs).append (.cons r .nil)
section
variable {X:Cx} {e:Expr} {te:TE}
def xf9 (K:PySem.W.Frag):V→Hp→VK→Prop:=fun x H Q=>∃a xs,x=.ref a∧SqL K H a xs∧∀p,H p=none→Q (.ref p) (upd H p (.lst xs.reverse))
def xhq (K:PySem.W.Frag)(te:TE)(ts:TO):TE:=fun σ H Q=>te σ H fun x H1=>ts σ H1 fun o H2=>o=some (-1)∧xf9 K x H2 Q
theorem xfq (K:PySem.W.Frag){st:Expr}{ts:TO}{p2 pos:Pos}(he:PE X e te)(hs:PO X (some st) ts)(eK:X.K=K:=by rfl):PE X (.Subscript e (.Slice none none (some st) p2) pos) (xhq K te ts):=by
 subst eK
 intro pins s σ H Q I h
 refine Subscript_ (thn (@he pins s σ H _ I h) fun v s1 ⟨x,H1,I1,r1,q1⟩=>?_)
 refine wpAny_Slice ?_
 rw[evalPart_none]
 refine wpAny_pure (wpAny_pure (thn (@hs pins s1 σ H1 _ I1 q1) fun vs s2 ⟨o,H2,I2,ps,eo,q2⟩=>?_))
 obtain⟨a,xs,rfl,hx,q⟩:=q2
 cases r1
 subst eo
 have I4:Inv X pins σ H2 { s2 with heap:=s2.heap.push { cls:=.type "slice", data:=.fields #[.none,.none,vs] } }:=I2.kept (t':=s2.toks) fun b ob q=>Heap.get?_push_of_some _ q
 obtain⟨its,r,ht,hz⟩:=I4.list hx
 have hlen:=r.length
 show wpAny (model X.prog X.w) X.A (subscriptTail e (.Slice none none (some st) p2) (.ref a) (.ref s2.heap.objs.size)) (EP X pins σ Q) X.xe { s2 with heap:=s2.heap.push { cls:=.type "slice", data:=.fields #[.none,.none,vs] } }
 refine tail_any (ops:=[.ref a,.ref s2.heap.objs.size]) ht.isList.typeIs slot_list_getitem.lookup ?_ (by with_unfolding_all rfl)
 refine wpAny_getItem_list_slice ht.isList (Heap.IsSliceOf.new ..) .none .none ps (by decide) ?_ (by rw[xjC]<;>omega)
 rw[ai]
 refine⟨.ref _,_,I4.laid (t':=s2.toks) (o:=.lst xs.reverse) (fun b ob q=>Heap.get?_push_of_some _ q) (xjK _) ?_,rfl,q _ (I4.hok.fresh (xjK _))⟩
 exact⟨by rw[xi3];exact hz,_,0,bg r,Heap.get?_push_size _ rfl⟩
end
end L2
namespace L2
open PySem PySem.Spec PyProof.Rows
abbrev two (elt t1 i1:Expr)(f1:List Expr)(t2 i2:Expr)(f2:List Expr)(sc:Scope)(pos:Pos):Expr:=.ListComp elt [⟨t1,i1,f1,0⟩,⟨t2,i2,f2,0⟩] sc pos
theorem rh (elt t1 i1:Expr)(f1:List Expr)(t2 i2:Expr)(f2:List Expr)(sc:Scope)(pos:Pos)(it acc:Value)(env:Env) :
  compTurn (two elt t1 i1 f1 t2 i2 f2 sc pos) 0 it acc env=(do
   standAt i1.pos
   match ←pyNext it with
   | none=>pure (.done .next)
   | some v =>
    letOwnedTupleGo t1 it v
    assign t1 env v
    let mut ok:=true
    for c in f1 do
     if ok then ok ←isTrue c env (eval c env)
    if ok then
     let x ←eval i2 env
     standAt i2.pos
     let x ←foldedSetIterable i2 env x
     let _ ←runOwn (.compStart (two elt t1 i1 f1 t2 i2 f2 sc pos) 1 (←holding [x] (pyIter x)) acc env) env
    again (.compLoop (two elt t1 i1 f1 t2 i2 f2 sc pos) 0 it acc env)):=by rfl
theorem sN (elt t1 i1:Expr)(f1:List Expr)(t2 i2:Expr)(f2:List Expr)(sc:Scope)(pos:Pos)(it acc:Value)(env:Env) :
  compTurn (two elt t1 i1 f1 t2 i2 f2 sc pos) 1 it acc env=(do
   standAt i2.pos
   match ←pyNext it with
   | none=>pure (.done .next)
   | some v =>
    letOwnedTupleGo t2 it v
    assign t2 env v
    let mut ok:=true
    for c in f2 do
     if ok then ok ←isTrue c env (eval c env)
    if ok then
     (do let _ ←call (.builtin "list.append") [acc,←eval elt env])
    again (.compLoop (two elt t1 i1 f1 t2 i2 f2 sc pos) 1 it acc env)):=by rfl
section
variable {prog:Program} {w:World} {A:Around} {R:Result→Shared→Prop} {s:Shared} {elt t1 i1 t2 i2:Expr} {f1 f2:List Expr} {sc:Scope} {pos:Pos} {it acc:Value} {env:Env}
theorem lI (I:Nat→Shared→Prop)
  (turn:∀n s,I n s→wpAny (model prog w) A (pyNext it) (fun r s₁=>match r with
   | none=>R (.ok .next) s₁
   | some v=>wpAny (model prog w) A (letOwnedTupleGo t2 it v) (fun _ s₀=>wpAny (model prog w) A (assign t2 env v) (fun _ s₂ =>
     wpAny (model prog w) A (forIn f2 true fun c r=>if r=true then do let ok ←isTrue c env (eval c env);pure (ForInStep.yield ok) else pure (ForInStep.yield r)) (fun ok s₃ =>
      if ok=true then wpAny (model prog w) A (eval elt env) (fun x s₄ =>
       wpAny (model prog w) A (call (.builtin "list.append") [acc,x]) (fun _ s₅=>∃m,m<n∧I m s₅) (fun _ _=>False) s₄) (fun _ _=>False) s₃
      else ∃m,m<n∧I m s₃) (fun _ _=>False) s₂) (fun _ _=>False) s₀) (fun _ _=>False) s₁) (fun _ _=>False) s)
  (n:Nat) (h:I n s) :
  codeAny (model prog w) A (.compLoop (two elt t1 i1 f1 t2 i2 f2 sc pos) 1 it acc env) R s:=by
 refine codeAny_loop rfl I (fun n s hI=>?_) n h
 show wpAny _ A ((compTurn (two elt t1 i1 f1 t2 i2 f2 sc pos) 1 it acc env).onRaise (fun x=>do noteFrame x env;theTreesLotGoes x)) _ _ s
 refine wpAny_noted ?_
 rw[sN]
 refine wpAny_bind (wpAny_standAt (wpAny_bind (wpAny_mono (turn n s hI) (fun r s₁ h₁=>?_) fun _ _ h'=>h'.elim)))
 cases r with
 | none=>exact wpAny_pure h₁
 | some v =>
  refine wpAny_bind (wpAny_mono h₁ (fun _ s₀ h₀=>?_) fun _ _ h'=>h'.elim)
  refine wpAny_bind (wpAny_mono h₀ (fun _ s₂ h₂=>wpAny_bind (wpAny_mono h₂ (fun ok s₃ h₃=>?_) fun _ _ h'=>h'.elim)) fun _ _ h'=>h'.elim)
  cases ok with
  | false=>exact wpAny_pure ⟨rfl,h₃⟩
  | true =>
   exact wpAny_bind (wpAny_bind (wpAny_mono h₃ (fun x s₄ h₄=>wpAny_bind (wpAny_mono h₄ (fun _ s₅ h₅=>wpAny_pure (wpAny_pure ⟨rfl,h₅⟩)) fun _ _ h'=>h'.elim)) fun _ _ h'=>h'.elim))
theorem lY (hs:∀x,foldedSetIterable i2 env x=pure x)(I:Nat→Shared→Prop)
  (turn:∀n s,I n s→wpAny (model prog w) A (pyNext it) (fun r s₁=>match r with
   | none=>R (.ok .next) s₁
   | some v=>wpAny (model prog w) A (letOwnedTupleGo t1 it v) (fun _ s₀=>wpAny (model prog w) A (assign t1 env v) (fun _ s₂ =>
     wpAny (model prog w) A (forIn f1 true fun c r=>if r=true then do let ok ←isTrue c env (eval c env);pure (ForInStep.yield ok) else pure (ForInStep.yield r)) (fun ok s₃ =>
      if ok=true then wpAny (model prog w) A (eval i2 env) (fun x s₄=>wpAny (model prog w) A (pyIter x) (fun it2 s₅ =>
       codeAny (model prog w) A (.compStart (two elt t1 i1 f1 t2 i2 f2 sc pos) 1 it2 acc env) (fun r s'=>match r with | .ok _=>∃m,m<n∧I m s' | .error _=>False) s₅) (fun _ _=>False) s₄) (fun _ _=>False) s₃
      else ∃m,m<n∧I m s₃) (fun _ _=>False) s₂) (fun _ _=>False) s₀) (fun _ _=>False) s₁) (fun _ _=>False) s)
  (n:Nat) (h:I n s) :
  codeAny (model prog w) A (.compLoop (two elt t1 i1 f1 t2 i2 f2 sc pos) 0 it acc env) R s:=by
 refine codeAny_loop rfl I (fun n s hI=>?_) n h
 show wpAny _ A ((compTurn (two elt t1 i1 f1 t2 i2 f2 sc pos) 0 it acc env).onRaise (fun x=>do noteFrame x env;theTreesLotGoes x)) _ _ s
 refine wpAny_noted ?_
 rw[rh]
 refine wpAny_bind (wpAny_standAt (wpAny_bind (wpAny_mono (turn n s hI) (fun r s₁ h₁=>?_) fun _ _ h'=>h'.elim)))
 cases r with
 | none=>exact wpAny_pure h₁
 | some v =>
  refine wpAny_bind (wpAny_mono h₁ (fun _ s₀ h₀=>?_) fun _ _ h'=>h'.elim)
  refine wpAny_bind (wpAny_mono h₀ (fun _ s₂ h₂=>wpAny_bind (wpAny_mono h₂ (fun ok s₃ h₃=>?_) fun _ _ h'=>h'.elim)) fun _ _ h'=>h'.elim)
  cases ok with
  | false=>exact wpAny_pure ⟨rfl,h₃⟩
  | true =>
   refine wpAny_bind (wpAny_mono h₃ (fun x s₄ h₄=>wpAny_bind (wpAny_standAt (wpAny_bind (wpAny_of_eq (hs x) (wpAny_bind (wpAny_holding (wpAny_mono h₄ (fun it2 s₅ h₅=>?_) fun _ _ h'=>h'.elim))))))) fun _ _ h'=>h'.elim)
   refine wpAny_bind (wpAny_runOwn (codeAny_mono h₅ fun r s' hr=>?_))
   cases r with
   | ok f=>exact wpAny_pure ⟨rfl,hr⟩
   | error e=>exact hr.elim
theorem pN (h0:codeAny (model prog w) A (.compLoop (two elt t1 i1 f1 t2 i2 f2 sc pos) 1 it acc env) R s)
  (h:wpAny (model prog w) A (pyIter it) (fun it' s'=>codeAny (model prog w) A (.compLoop (two elt t1 i1 f1 t2 i2 f2 sc pos) 1 it' acc env) R s')
   (notedBy (model prog w) A env fun x s'=>R (.error x) s') s) :
  codeAny (model prog w) A (.compStart (two elt t1 i1 f1 t2 i2 f2 sc pos) 1 it acc env) R s:=by
 refine codeAny_of_tree ?_
 show wpAny _ _ ((compStart (two elt t1 i1 f1 t2 i2 f2 sc pos) 1 it acc env).onRaise (fun x=>do noteFrame x env;standAt theWindowsPlace)) _ _ s
 refine wpAny_notedAt ?_
 unfold compStart
 show wpAny _ _ (ask >>= _) _ _ s
 refine wpAny_bind (wpAny_askSetting (wpAny_ite ?_))
 split
 ·first
   | exact wpAny_bind (wpAny_pure (wpAny_pure (And.intro rfl h0)))
   | exact wpAny_pure (And.intro rfl h0)
 ·first
   | exact wpAny_bind (wpAny_rule (wpAny_bind (wpAny_standAt (wpAny_bind (wpAny_mono h (fun it' s' h'=>wpAny_pure (And.intro rfl h')) fun _ _ x=>x)))))
   | (refine wpAny_bind (wpAny_rule ?_);show wpAny _ _ (standAt i2.pos >>= _) _ _ s;exact wpAny_bind (wpAny_standAt (wpAny_bind (wpAny_mono h (fun it' s' h'=>wpAny_pure (And.intro rfl h')) fun _ _ x=>x))))
end
abbrev lo (its:List Value)(n:Nat):Obj:={ cls:=.type "list", data:=.seq its.toArray n }
theorem xaf {Y:Cx}{D:Addr}{its:List Value}{n:Nat}{pl:List (Addr×Obj)}{σ:St}{H:Hp}{s:Shared}{y:Value}{E:Value→Shared→Prop}(I:Inv Y ((D,lo its n)::pl) σ H s)(h1:D∈Y.ex∨Y.s₀.heap.objs.size≤D)(h2:∀p∈Y.pn++pl,p.1≠D)(hz:its.length≤sizeLine)
  {Q:Shared→Prop} (q:∀s' n',Inv Y ((D,lo (its++[y]) n')::pl) σ H s'→(∀b o,b≠D→s.heap.get? b=some o→s'.heap.get? b=some o)→Q s'):wpAny (model Y.prog Y.w) Y.A (call (.builtin "list.append") [.ref D,y]) (fun _ s'=>Q s') E s:=by
 obtain⟨pD,nD,dL,dF,dC⟩:=I.pin (D,lo its n) (by simp)
 refine call_meets F.slot_list_append ⟨_,pD,rfl⟩ F.entry_list_append (F.args_list_append_2 _ _) (PySem.list_append D its.toArray n y (by rw[xjC];exact hz)) ⟨pD,?_⟩
 have q0:=PySem.IsL.update pD (fun x=>x.push y)
 obtain⟨n',q'⟩:∃n',(s.heap.update D (Obj.mapSeq fun x=>x.push y)).get? D=some (lo (its++[y]) n'):=⟨_,by
  rw[show(lo (its++[y]) _)=({ cls:=.type "list", data:=.seq (its.toArray.push y) _ }:Obj) by simp[lo];rfl];exact q0⟩
 have kp:∀b o,b≠D→s.heap.get? b=some o→(s.heap.update D (Obj.mapSeq fun x=>x.push y)).get? b=some o:=fun b o hb e=>(Heap.get?_update_other s.heap _ (Ne.symm hb)).trans e
 have I10:Inv Y pl σ H s:=I.pins_of fun p hp=>I.pin p (by simp only[xjc,xjf];exact .inr (.inr hp))
 have I11:Inv Y pl σ H { s with heap:=s.heap.update D (Obj.mapSeq fun x=>x.push y),toks:=s.toks } :=
  I10.turned (it:=D) (t':=s.toks) kp nD dL h1 (fun x c e z=>by
   obtain⟨v,o,ho,hd⟩:=I10.cell x c e
   rw[z,pD] at ho
   cases ho
   cases hd) h2
 refine q _ n' (I11.pins_of fun p hp=>?_) kp
 rcases xjf.mp hp with rfl | hp
 ·exact⟨q',nD,dL,dF,fun v=>by simp⟩
 ·exact I11.pin p (xje _ hp)
def tIn (wi:TI)(tid:List (Option Nat))(g:TG)(tc:TT)(te:TE)(Z:List V→Hp→Prop)(ys:List V)(σ:St)(H:Hp):Prop:=wi σ H fun J H1 =>
 ∃W:Nat→Nat→List V→Hp→Prop,(∃m,W 0 m ys H1)∧∀i m ys' H',W i m ys' H' →
  (J.stop i H'∧Z ys' H') ∨
  (J.go i H'∧ys'.length<sizeLine∧∀x H2,J.yld i H' x H2→g x (qo tid σ) H2 fun σ3 H3=>tc σ3 H3 fun b H4=>if b=true then te σ3 H4 fun y H5=>∃m',m' < m∧W (i+1) m' (ys'++[y]) H5 else ∃m',m' < m∧W (i+1) m' ys' H4)
def xcT (tau tid:List (Option Nat)):Bool:=decide (tid.length=tau.length)&&((List.range tid.length).all fun j=>match tid.getD j none with | some j'=>decide (j'=j) | none=>true)&&((List.range tau.length).all fun j=>match tau.getD j none with | some _=>decide (tid.getD j none=some j) | none=>true)
structure p_ (tau tid:List (Option Nat)):Prop where
 len:tid.length=tau.length
 id:∀j j':Nat,tid[j]? = some (some j')→j'=j
 out:∀j j':Nat,tau[j]? = some (some j')→tid[j]? = some (some j)
theorem xeM {tau tid:List (Option Nat)}(h:xcT tau tid=true):p_ tau tid:=by
 unfold xcT at h
 simp only[xhX,xj4,xiw,xjp] at h
 obtain⟨⟨a,b⟩,c⟩:=h
 refine⟨a,fun j j' e=>?_,fun j j' e=>?_⟩
 ·have:=b j (xiR.mp e).1
  rw[xiN,e] at this
  exact xj8 this
 ·have l:=(xiR.mp e).1
  have:=c j l
  rw[xiN,e] at this
  have:=xj8 this
  rw[xiN,xiP (by omega)] at this
  rw[xiP (by omega)]
  exact xj0 some this
theorem p_.agree {tau tid:List (Option Nat)}(h:p_ tau tid){σ:St}(l:σ.length=tau.length):Agree tau σ (qo tid σ):=fun i j e=>by
 have a:=h.out i j e
 unfold qo
 rw[xiS,a]
 have:=(xiR.mp e).1
 rw[xjY,xiP (show i<σ.length by omega)]
 simp only[xiP (show i<σ.length by omega),xjX]
theorem Agree.trans {tau:List (Option Nat)}{a b c:St}(h:Agree tau a b)(h':Agree tau b c):Agree tau a c:=fun i j e=>(h' i j e).trans (h i j e)
theorem pA {Y:Cx}{elt t1 i1 t2 i2:Expr}{f1 f2:List Expr}{sc:Scope}{pos:Pos}{wi:TI}{g:TG}{tc:TT}{te:TE}{tau tid:List (Option Nat)}(hid:p_ tau tid)(hl:Y.N.length=tau.length)(hc:Y.calm=true)(hx:Y.xe=fun _ _=>False){D:Addr}{pl:List (Addr×Obj)}(hi:PI Y t2 i2 wi)(hg:PG Y t2 g)(ht:PIf Y f2 tc)(he:PE Y elt te)(hga:GA tid g)
  {its:List Value} {n:Nat} {ys:List V} {σ:St} {H:Hp} {s:Shared} (I:Inv Y ((D,lo its n)::pl) σ H s) (rv:yS ys its) (hz:ys.length≤sizeLine) (h1:D∈Y.ex∨Y.s₀.heap.objs.size≤D) (h2:∀p∈Y.pn++pl,p.1≠D) {Z:List V→Hp→Prop} (h:tIn wi tid g tc te Z ys σ H) {R:Shared→Prop}
  (fin:∀ σ' H' s' ys' its' n',Inv Y ((D,lo its' n')::pl) σ' H' s'→yS ys' its'→ys'.length≤sizeLine→Agree tau σ σ'→Z ys' H'→R s') :
  wpAny (model Y.prog Y.w) Y.A (eval i2 Y.env) (fun x s₄=>wpAny (model Y.prog Y.w) Y.A (pyIter x) (fun it2 s₅ =>
   codeAny (model Y.prog Y.w) Y.A (.compStart (two elt t1 i1 f1 t2 i2 f2 sc pos) 1 it2 (.ref D) Y.env) (fun r s'=>match r with | .ok _=>R s' | .error _=>False) s₅) (fun _ _=>False) s₄) (fun _ _=>False) s:=by
 have il:(qo tid σ).length=σ.length:=by unfold qo;rw[xi0,hid.len,I.len,hl]
 have go:=@hi ((D,lo its n)::pl) s σ H _ I h
 rw[hx] at go
 refine thn go fun v s1 h1'=>thn h1' fun itv s2 h2'=>?_
 obtain⟨it,fp,tn,J,H2,e,I2,T,st2,fo,W,⟨m0,w0⟩,turn⟩:=h2'
 subst e
 have fD:∀b∈fp,b≠D:=fun b hb=>Ne.symm ((fo b hb).2.2.2.2.2 (D,lo its n) (by simp))
 have stat:∀ {H':Hp} {its':List Value} {n':Nat},(∀b∈fp,H' b=none)→∀b∈fp,fW Y ((D,lo its' n')::pl) H' b:=fun {H' its' n'} hn b hb=>by
  obtain⟨_,a1,a2,a3,a4,a5⟩:=fo b hb
  refine⟨hn b hb,a1,a2,a3,a4,fun p hp=>?_⟩
  rcases xjc.mp hp with hp | hp
  ·exact a5 p (xjd _ hp)
  ·rcases xjf.mp hp with rfl | hp
   ·exact Ne.symm (fD b hb)
   ·exact a5 p (xje _ (xjg _ hp))
 have loop:codeAny (model Y.prog Y.w) Y.A (.compLoop (two elt t1 i1 f1 t2 i2 f2 sc pos) 1 (.ref it) (.ref D) Y.env) (fun r s'=>match r with | .ok _=>R s' | .error _=>False) s2:=by
  refine lI (fun m s'=>∃i ys' H' its' n',Inv Y ((D,lo its' n')::pl) (qo tid σ) H' s'∧yS ys' its'∧ys'.length≤sizeLine∧tn i s'.heap∧(∀b∈fp,H' b=none)∧W i m ys' H') ?_ m0
   ⟨0,ys,H2,its,n,I2.weak il fun j v e=>?_,rv,hz,st2,fun b hb=>(fo b hb).1,w0⟩
  rotate_left
  ·obtain⟨j',t1,e'⟩:=u7 e
   rw[hid.id j j' t1] at e';exact e'
  rintro m s3 ⟨i,ys3,H3,its3,n3,I3,rv3,hz3,st3,fr3,w3⟩
  rcases turn i m ys3 H3 w3 with ⟨stop,z⟩ | ⟨go,hlt,step⟩
  ·refine wpAny_mono (T.done Y rfl rfl rfl hc i _ s3 _ H3 (fun _ _=>False) I3 (stat fr3) st3 stop) (fun r s4 ⟨hr,I4⟩=>?_) fun _ _ f=>f.elim
   subst hr
   exact fin _ _ _ _ _ _ I4 rv3 hz3 (hid.agree (I.len.trans hl)) z
  ·refine wpAny_mono (T.item Y rfl rfl rfl hc i _ s3 _ H3 (fun _ _=>False) I3 (stat fr3) st3 go) (fun r s4 ⟨u,hr,h4⟩=>?_) fun _ _ f=>f.elim
   subst hr
   refine wpAny_mono h4 (fun _ s5 ⟨x,H5,I5,r5,y5,st5,fr5⟩=>?_) fun _ _ f=>f.elim
   have I5':=I5.pinned (stat fr5) (T.obj _ _ st5)
   have g5:=hg _ s5 _ H5 x u _ I5' r5 (hga _ _ _ _ (step x H5 y5))
   rw[hx] at g5
   refine wpAny_mono g5 (fun _ s6 ⟨σ6,H6,I6,q6,ag⟩=>?_) fun _ _ f=>f.elim
   have t6:=ht _ s6 σ6 H6 _ I6 q6
   rw[hx] at t6
   refine wpAny_mono t6 (fun b s7 ⟨H7,I7,q7⟩=>?_) fun _ _ f=>f.elim
   have back:∀ {H8:Hp} {s8:Shared} {its8:List Value} {n8:Nat},Inv Y ((D,lo its8 n8)::(pl++uq fp s5.heap)) σ6 H8 s8→Inv Y ((D,lo its8 n8)::pl) (qo tid σ) H8 s8∧tn (i+1) s8.heap∧∀b∈fp,H8 b=none:=fun {H8 s8 its8 n8} I8=>by
    have I8':Inv Y (((D,lo its8 n8)::pl)++uq fp s5.heap) σ6 H8 s8:=I8
    refine⟨I8'.unpinned.weak (il.trans (I.len.trans I8.len.symm)) fun j v e=>by obtain⟨j',t1,_⟩:=u7 e;rw[ag j j' t1];exact e,T.keep _ _ _ st5 fun b hb o e=>(I8'.pin (b,o) (xje _ (xje _ (zd hb e)))).1,fun b hb=>?_⟩
    obtain⟨o,e,d⟩:=T.obj _ _ st5 b hb
    exact(I8'.pin (b,o) (xje _ (xje _ (zd hb e)))).2.1
   cases b with
   | false =>
    obtain⟨m',hm,w7⟩:=q7
    obtain⟨I8,st8,fr8⟩:=back I7
    rw[if_neg xhZ]
    exact⟨m',hm,i+1,ys3,H7,its3,n3,I8,rv3,hz3,st8,fr8,w7⟩
   | true =>
    rw[if_pos rfl]
    have e7:=@he _ s7 σ6 H7 _ I7 q7
    rw[hx] at e7
    refine wpAny_mono e7 (fun y s8 ⟨yv,H8,I8,r8,m',hm,w8⟩=>?_) fun _ _ f=>f.elim
    refine xaf (pl:=pl++uq fp s5.heap) I8 h1 (fun p hp=>?_) (by rw[←rv3.length];exact hz3) fun s9 n9 I9 _=>?_
    ·rw[←xiy] at hp
     rcases xjc.mp hp with hp | hp
     ·exact h2 p hp
     ·exact fD _ (jr hp).1
    ·obtain⟨I10,st10,fr10⟩:=back I9
     exact⟨m',hm,i+1,ys3++[yv],H8,its3++[y],n9,I10,rv3.append (.cons r8 .nil),by rw[xiW,xi5];exact hlt,st10,fr10,w8⟩
 exact pN loop (T.self _ 0 _ _ _ st2 loop)
def xc0 (wi:TI)(tau:List (Option Nat))(g:TG)(tc:TT)(wi2:TI)(tid:List (Option Nat))(g2:TG)(tc2:TT)(te:TE):TE:=fun σ H Q=>wi σ H fun J H1 =>
 ∃W:Nat→Nat→List V→Hp→Prop,(∃m,W 0 m [] H1)∧∀i m ys H,W i m ys H →
  (J.stop i H∧∀p,H p=none→Q (.ref p) (upd H p (.lst ys))) ∨
  (J.go i H∧∀x H',J.yld i H x H'→g x (qo tau σ) H' fun σ2 H2=>tc σ2 H2 fun b H3=>if b=true then tIn wi2 tid g2 tc2 te (fun ys' H4=>∃m',m' < m∧W (i+1) m' ys' H4) ys σ2 H3 else ∃m',m' < m∧W (i+1) m' ys H3)
section
variable {X:Cx} {sc:Scope} {N:List Str} {tau tid:List (Option Nat)} {pins:List (Addr×Obj)} {σ:St} {H:Hp} {s:Shared}
theorem mJ {elt tg iter tg2 iter2:Expr}{ifs ifs2:List Expr}{g g2:TG}{tc tc2:TT}{wi2:TI}{te:TE}{pos:Pos}(k:vE X sc N tau)(hc:X.calm=true)(I:Inv X pins σ H s){it:Addr}{fp:List Addr}{tn:Nat→Heap→Prop}{J:It}
  (T:Turn X.prog X.w X.K tg J fp it tn) (st0:tn 0 s.heap) (hf:∀b∈fp,fW X pins H b) (hga:GA tau g) (hid:p_ tau tid) (hga2:GA tid g2)
  (hg:∀C s H ex,PG (x_ X sc N C s H ex) tg g) (ht:∀C s H ex,PIf (x_ X sc N C s H ex) ifs tc) (hi2:∀C s H ex,PI (x_ X sc N C s H ex) tg2 iter2 wi2) (hg2:∀C s H ex,PG (x_ X sc N C s H ex) tg2 g2) (ht2:∀C s H ex,PIf (x_ X sc N C s H ex) ifs2 tc2) (he:∀C s H ex,PE (x_ X sc N C s H ex) elt te)
  (hs2:∀C x,foldedSetIterable iter2 (compEnvC sc (jV X.env sc.names []) C X.env) x=pure x)
  {W:Nat→Nat→List V→Hp→Prop} {Z:List V→Hp→Prop} (w0:∃m,W 0 m [] H) (turn:∀i m ys H,W i m ys H →
   (J.stop i H∧Z ys H) ∨
   (J.go i H∧∀x H',J.yld i H x H'→g x (qo tau σ) H' fun σ2 H2=>tc σ2 H2 fun b H3=>if b=true then tIn wi2 tid g2 tc2 te (fun ys' H4=>∃m',m' < m∧W (i+1) m' ys' H4) ys σ2 H3 else ∃m',m' < m∧W (i+1) m' ys H3))
  {E:Value→Shared→Prop} {RR:Value→Addr→Result→Shared→Prop}
  (fin:∀ σ' H' s' ys its n,Inv (x_ X sc N (s.heap.objs.size+1) s H fp) [(s.heap.objs.size,{ cls:=.type "list", data:=.seq its.toArray n })] σ' H' s'→yS ys its→ys.length≤sizeLine→Z ys H'→RR (.ref s.heap.objs.size) (s.heap.objs.size+1) (.ok .next) s') :
  wpAny (model X.prog X.w) X.A (newList []) (fun acc s₃=>wpAny (model X.prog X.w) X.A (newFunctionEnv sc X.env.globals (jV X.env sc.names []) [] X.env.qual none .none (some X.env)) (fun cenv s₄ =>
   codeAny (model X.prog X.w) X.A (.compStart (two elt tg iter ifs tg2 iter2 ifs2 sc pos) 0 (.ref it) acc { cenv with scope:=relabel sc X.env }) (RR acc cenv.locals) s₄) E s₃) E s:=by
 have hob:∀b∈fp,∃o,s.heap.get? b=some o:=fun b hb=>let ⟨o,e,_⟩:=T.obj _ _ st0 b hb;⟨o,e⟩
 refine wpAny_newObj_type (wpAny_newFunctionEnv k.nocell (by intro y hy;simp at hy) (fun h₁ hns₁ hsb₁=>?_) k.kind)
 dsimp only at hns₁ hsb₁ ⊢
 generalize hH2:s.heap.push { cls:=.type "list", dict:=none,data:=.seq ([]:List Value).toArray }=H2 at hns₁ hsb₁ ⊢
 have hC:H2.objs.size=s.heap.objs.size+1:=by rw[←hH2,Heap.size_push]
 have old:∀b o,s.heap.get? b=some o→h₁.get? b=some o:=fun b o e=>hsb₁.extBut b o (by rw[hC];exact xjT (xjQ (Heap.lt_size e))) (Heap.get?_push_of_some _ (hH2▸Heap.get?_push_of_some _ e))
 have hacc:h₁.get? s.heap.objs.size=some { cls:=.type "list", data:=.seq #[] 0 }:=hsb₁.extBut _ _ (by rw[hC];exact xjT (xjR _)) (Heap.get?_push_of_some _ (hH2▸Heap.get?_push_size _ rfl))
 rw[hC] at hns₁ ⊢
 have I1:Inv (x_ X sc N (s.heap.objs.size+1) s H fp) [(s.heap.objs.size,{ cls:=.type "list", data:=.seq #[] 0 })] (qo tau σ) H { s with heap:=h₁,toks:=s.toks+([]:List (Str×Value)).length } :=
  bM k I hf hob old hns₁ hacc
 have st1:tn 0 h₁:=T.keep _ _ _ st0 fun b _ o e=>old b o e
 have ltD:∀b∈fp,b≠s.heap.objs.size:=fun b hb=>by
  obtain⟨o,e⟩:=hob b hb
  exact xjT (Heap.lt_size e)
 have ltC:∀b∈fp,b≠s.heap.objs.size+1:=fun b hb=>by
  obtain⟨o,e⟩:=hob b hb
  exact xjT (xjQ (Heap.lt_size e))
 have stat:∀ {H':Hp} {its:List Value} {n:Nat},(∀b∈fp,H' b=none)→∀b∈fp,fW (x_ X sc N (s.heap.objs.size+1) s H fp) [(s.heap.objs.size,lo its n)] H' b:=fun {H' its n} hn b hb=>by
  have cx:=m7 (N:=N) k I hf hob
  refine⟨hn b hb,ltC b hb,cx.exfs b hb,.inl hb,(cx.exf b hb).2,fun p hp=>?_⟩
  have e:p=(s.heap.objs.size,lo its n):=by simpa [x_] using hp
  subst e
  exact Ne.symm (ltD b hb)
 obtain⟨m0,w0⟩:=w0
 have loop:codeAny (model X.prog X.w) X.A (.compLoop (two elt tg iter ifs tg2 iter2 ifs2 sc pos) 0 (.ref it) (.ref s.heap.objs.size) (compEnvC sc (jV X.env sc.names []) (s.heap.objs.size+1) X.env)) (RR (.ref s.heap.objs.size) (s.heap.objs.size+1)) { s with heap:=h₁,toks:=s.toks+([]:List (Str×Value)).length }:=by
  refine lY (hs2 _) (fun m s'=>∃i ys H' its n,Inv (x_ X sc N (s.heap.objs.size+1) s H fp) [(s.heap.objs.size,lo its n)] (qo tau σ) H' s'∧yS ys its∧ys.length≤sizeLine∧tn i s'.heap∧(∀b∈fp,H' b=none)∧W i m ys H') ?_ m0
   ⟨0,[],H,[],0,I1,.nil,xjW _,st1,fun b hb=>(hf b hb).1,w0⟩
  rintro m s3 ⟨i,ys,H3,its,n,I3,rv,hz,st3,fr3,w3⟩
  rcases turn i m ys H3 w3 with ⟨stop,z⟩ | ⟨go,step⟩
  ·refine wpAny_mono (T.done (x_ X sc N (s.heap.objs.size+1) s H fp) rfl rfl rfl hc i _ s3 _ H3 (fun _ _=>False) I3 (stat fr3) st3 stop) (fun r s4 ⟨hr,I4⟩=>?_) fun _ _ f=>f.elim
   subst hr
   exact fin _ _ _ _ _ _ I4 rv hz z
  ·refine wpAny_mono (T.item (x_ X sc N (s.heap.objs.size+1) s H fp) rfl rfl rfl hc i _ s3 _ H3 (fun _ _=>False) I3 (stat fr3) st3 go) (fun r s4 ⟨u,hr,h4⟩=>?_) fun _ _ f=>f.elim
   subst hr
   refine wpAny_mono h4 (fun _ s5 ⟨x,H5,I5,r5,y5,st5,fr5⟩=>?_) fun _ _ f=>f.elim
   have I5':=I5.pinned (stat fr5) (T.obj _ _ st5)
   refine wpAny_mono (hg _ _ _ _ _ s5 _ H5 x u _ I5' r5 (hga _ _ _ _ (step x H5 y5))) (fun _ s6 ⟨σ6,H6,I6,q6,ag⟩=>?_) fun _ _ f=>f.elim
   refine wpAny_mono (ht _ _ _ _ _ s6 σ6 H6 _ I6 q6) (fun b s7 ⟨H7,I7,q7⟩=>?_) fun _ _ f=>f.elim
   have back:∀ {σ8:St} {H8:Hp} {s8:Shared} {its8:List Value} {n8:Nat},Agree tau (qo tau σ) σ8→Inv (x_ X sc N (s.heap.objs.size+1) s H fp) ([(s.heap.objs.size,lo its8 n8)]++uq fp s5.heap) σ8 H8 s8 →
     Inv (x_ X sc N (s.heap.objs.size+1) s H fp) [(s.heap.objs.size,lo its8 n8)] (qo tau σ) H8 s8∧tn (i+1) s8.heap∧∀b∈fp,H8 b=none:=fun {σ8 H8 s8 its8 n8} ag I8=>by
    refine⟨I8.unpinned.weak (I1.len.trans I8.len.symm) fun j v e=>?_,T.keep _ _ _ st5 fun b hb o e=>(I8.pin (b,o) (xje _ (xje _ (zd hb e)))).1,fun b hb=>?_⟩
    ·obtain⟨j',t1,_⟩:=u7 e
     rw[ag j j' t1];exact e
    ·obtain⟨o,e,d⟩:=T.obj _ _ st5 b hb
     exact(I8.pin (b,o) (xje _ (xje _ (zd hb e)))).2.1
   cases b with
   | false =>
    obtain⟨m',hm,w7⟩:=q7
    obtain⟨I8,st8,fr8⟩:=back ag I7
    rw[if_neg xhZ]
    exact⟨m',hm,i+1,ys,H7,its,n,I8,rv,hz,st8,fr8,w7⟩
   | true =>
    rw[if_pos rfl]
    refine pA (Y:=x_ X sc N (s.heap.objs.size+1) s H fp) (D:=s.heap.objs.size) (pl:=uq fp s5.heap) hid k.len.symm hc rfl (hi2 _ _ _ _) (hg2 _ _ _ _) (ht2 _ _ _ _) (he _ _ _ _) hga2 I7 rv hz (.inr (xjK _)) (fun p hp=>?_) q7 fun σ8 H8 s8 ys8 its8 n8 I8 rv8 hz8 ag8 z=>?_
    ·have hp:p∈uq fp s5.heap:=by simpa [x_] using hp
     exact ltD _ (jr hp).1
    ·obtain⟨m',hm,w8⟩:=z
     obtain⟨I9,st9,fr9⟩:=back (ag.trans ag8) I8
     exact⟨m',hm,i+1,ys8,H8,its8,n8,I9,rv8,hz8,st9,fr9,w8⟩
 exact codeAny_compStart_list loop (T.self _ 0 _ _ _ st1 loop)
theorem xbC {elt tg iter tg2 iter2:Expr}{ifs ifs2:List Expr}{wi wi2:TI}{g g2:TG}{tc tc2:TT}{te:TE}{pos:Pos}(k:vE X sc N tau)(hc:X.calm=true)(hga:GA tau g)(hid:p_ tau tid)(hga2:GA tid g2)(hi:PI X tg iter wi)
  (hg:∀C s H ex,PG (x_ X sc N C s H ex) tg g) (ht:∀C s H ex,PIf (x_ X sc N C s H ex) ifs tc) (hi2:∀C s H ex,PI (x_ X sc N C s H ex) tg2 iter2 wi2) (hg2:∀C s H ex,PG (x_ X sc N C s H ex) tg2 g2) (ht2:∀C s H ex,PIf (x_ X sc N C s H ex) ifs2 tc2) (he:∀C s H ex,PE (x_ X sc N C s H ex) elt te)
  (hs:∀x,foldedSetIterable iter X.env x=pure x:=by intro _;rfl) (hs2:∀C x,foldedSetIterable iter2 (compEnvC sc (jV X.env sc.names []) C X.env) x=pure x:=by intro _ _;rfl):PE X (two elt tg iter ifs tg2 iter2 ifs2 sc pos) (xc0 wi tau g tc wi2 tid g2 tc2 te):=by
 intro pins s σ H Q I h
 rw[eval_ListComp]
 refine wpAny_comprehension_free (use:=none) rfl hs (mY (k.cells I.ok)) k.kind k.loc ?_
 refine thn (@hi pins s σ H _ I h) fun v s1 h1=>thn h1 fun itv s2 h2=>?_
 obtain⟨it,fp,tn,J,H2,e,I2,T,st2,f2,W,w0,turn⟩:=h2
 subst e
 refine mJ (RR:=fun acc C=>compPost (model X.prog X.w) X.A X.xe none (EP X pins σ Q) acc C) (W:=W) (Z:=fun ys H'=>∀p,H' p=none→Q (.ref p) (upd H' p (.lst ys))) k hc I2 T st2 f2 hga hid hga2 hg ht hi2 hg2 ht2 he hs2 w0 turn ?_
 intro σ' H' s' ys its n J' rv hz z
 obtain⟨I',hD,hC⟩:=bW k I2 f2 J' rv hz
 obtain⟨m,hn,_⟩:=J'.loc
 exact⟨m,hn,fun h' hs'=>⟨.ref _,_,gY I2 I' hC hs',rfl,z _ hD⟩⟩
end
end L2
namespace L2
open PySem PySem.Spec PyProof.Rows
def xaR (dg:DG)(dc:DT)(di:DI)(tid:List (Option Nat))(dg2:DG)(dc2:DT)(de:DE)(τi:TSt)(KK:List Tr→Prop):List Tr→List Tr→Prop
 | [],acc=>KK acc
 | x::xs,acc=>dg x τi fun τ2=>dc τ2 fun b=>if b=true then di τ2 fun ys=>acc.length+ys.length<sizeLine∧nI dg2 dc2 de (qr tid τ2) (fun acc'=>xaR dg dc di tid dg2 dc2 de τi KK xs acc') ys acc else xaR dg dc di tid dg2 dc2 de τi KK xs acc
def xfN (tau:List (Option Nat))(di:DI)(dg:DG)(dc:DT)(di2:DI)(tid:List (Option Nat))(dg2:DG)(dc2:DT)(de:DE):DE:=fun τ KK=>di τ fun xs=>xaR dg dc di2 tid dg2 dc2 de (qr tau τ) (fun ys=>KK (.lst ys)) xs []
section
variable {K:PySem.W.Frag} {B:FB} {φ:Phi} {σ:St} {τ:TSt} {H H' H'':Hp} {fr:Bool}
theorem bH {tau:List (Option Nat)}{i:Nat}{a:Addr}(z:sr tau φ τ i=some a):Av B φ a:=by
 unfold sr at z
 split at z
 ·split at z
  ·exact .inr ⟨_,z⟩
  ·cases z
 ·cases z
theorem c9 {φ3:Phi}{σ3:St}{τ3:TSt}{H2:Hp}(R3:RS K (B.inner φ τ H2) φ3 σ3 τ3 H2):∀a,SA (B.inner φ τ H2) φ3 τ3 a→SA B φ τ a:=fun a z=>by
 rcases z with z | ⟨j,z,hj⟩
 ·exact z
 ·have en:=R3.ent j
  rw[hj] at en
  obtain⟨p,e1,e2,e3⟩:=en
  rw[z] at e2;cases e2
  rcases e3 with e3 | e3
  ·exact e3
  ·exact absurd e3 (R3.sst a (.inr ⟨j,z,hj⟩)).ne_none
theorem gy {φ3:Phi}{τ3:TSt}{H2 H3 H4:Hp}(hsa:∀a,SA (B.inner φ τ H2) φ3 τ3 a→SA B φ τ a)(h:HX (B.inner φ τ H2) φ3 τ3 H3 H4):HX B φ τ H3 H4:=⟨fun a o e n=>h.keep a o e fun z=>n (hsa a z),fun a z=>h.st a (.inl z)⟩
theorem n6 {ts:List Tr}{i:Nat}{t:Tr}(hlt:i<ts.length)(ht:ts[i]? = some t):ts.drop i=t::ts.drop (i+1):=by
 rw[xiD hlt]
 rw[xiP hlt] at ht
 cases ht;rfl
theorem xgP {wi:TI}{tid:List (Option Nat)}{g:TG}{tc:TT}{te:TE}{di:DI}{dg:DG}{dc:DT}{de:DE}{b:Bool}(hi:OkI K true wi di)(hg:OkN K g dg)(hc:OkT K tc dc)(he:OkE K b te de){F:Addr→Prop}(R:RS K B φ σ τ H)(hF:∀a,F a→B.F0 a)(hS:∀a,SA B φ τ a→F a){Z:List V→Hp→Prop}{KZ:List Tr→Prop}{acc:List Tr}{ys:List V}(ra:zo F H acc ys)(hd:di τ fun xs=>acc.length+xs.length<sizeLine∧nI dg dc de (qr tid τ) KZ xs acc)
  (fin:∀acc' ys' H',HX B φ τ H H'→zo F H' acc' ys'→KZ acc'→Z ys' H'):tIn wi tid g tc te Z ys σ H :=
 hi.c B φ σ τ H _ _ R hd fun J ts Src H1 x1 k1 it s1=>by
  refine⟨fun i m ys' H'=>m=ts.length-i∧i≤ts.length∧ys'.length≤acc.length+i∧HX B φ τ H H'∧Src H'∧∃acc',zo F H' acc' ys'∧nI dg dc de (qr tid τ) KZ (ts.drop i) acc',⟨_,rfl,xjW _,by rw[←ra.len];omega,x1,s1,acc,x1.repL hS ra,k1.2⟩,?_⟩
  rintro i m ys' H' ⟨rfl,hle,hys,x,s,acc',ra',f⟩
  have R':=R.hx x
  by_cases hlt:i<ts.length
  ·refine .inr ⟨it.go i H' s hlt,by have:=k1.1;omega,fun v H2 y=>?_⟩
   obtain⟨gr,t,ht,rt⟩:=it.yld i H' v H2 s (fun a z=>R'.dom z) hlt y
   have hx:=gr.hx R'
   have R2:=R'.hx hx
   rw[n6 hlt ht] at f
   refine hg (B.inner φ τ H2) _ _ _ H2 (Av B φ) t v _ _ R2.inner (fun a z=>z.elim id fun⟨j,z⟩=>bH z) rt f fun φ3 σ3 τ3 R3 ha k3=>?_
   have hsa:=c9 R3
   refine hc _ φ3 σ3 τ3 H2 _ _ R3 k3 fun c H3 x3 k4=>?_
   have x23:=gy hsa x3
   have s3:=it.stab _ _ (it.stab _ _ s fun a o e n=>hx.keep a o e n) fun a o e n=>x23.keep a o e n
   cases c with
   | false =>
    refine nJ ⟨_,by omega,rfl,hlt,by omega,(x.trans hx).trans x23,s3,acc',(hx.trans x23).repL hS ra',?_⟩
    simpa using k4
   | true =>
    refine om (he _ φ3 σ3 τ3 H3 _ _ (R3.hx x3) k4 fun u w H4 x4 k5 r5=>?_)
    have x34:=gy hsa x4
    refine⟨_,by omega,rfl,hlt,by rw[xiW,xi5];omega,((x.trans hx).trans x23).trans x34,it.stab _ _ s3 fun a o e n=>x34.keep a o e n,acc'++[u],(((hx.trans x23).trans x34).repL hS ra').app (show zo _ _ [u] [w] from⟨w,[],rfl,?_,rfl⟩),k5⟩
    refine yy (fun a o e n=>⟨e,fun z=>n ?_⟩) _ _ r5
    cases b with
    | true=>exact .inl (.inl (hF a z))
    | false=>exact .inl (.inl (hF a z))
  ·have ei:i=ts.length:=by omega
   subst ei
   rw[xiE] at f
   exact .inl ⟨it.stop H' s,fin acc' ys' H' x ra' f⟩
theorem xaz {wi wi2:TI}{tau tid:List (Option Nat)}{g g2:TG}{tc tc2:TT}{te:TE}{di di2:DI}{dg dg2:DG}{dc dc2:DT}{de:DE}{b:Bool}(hi:xfa K wi di)(hg:OkN K g dg)(hc:OkT K tc dc)(hi2:OkI K true wi2 di2)(hg2:OkN K g2 dg2)(hc2:OkT K tc2 dc2)(he:OkE K b te de) :
  OkF K (xc0 wi tau g tc wi2 tid g2 tc2 te) (xfN tau di dg dc di2 tid dg2 dc2 de):=fun B φ σ τ H Q KK R hd q =>
 hi B φ σ τ H _ _ R hd fun J ts Src H1 x1 k1 it s1=>by
  refine⟨fun i m ys H'=>m=ts.length-i∧i≤ts.length∧HX B φ τ H H'∧Src H'∧∃acc,zo (Av B φ) H' acc ys∧xaR dg dc di2 tid dg2 dc2 de (qr tau τ) (fun ys=>KK (.lst ys)) (ts.drop i) acc,⟨_,rfl,xjW _,x1,s1,[],rfl,k1⟩,?_⟩
  rintro i m ys H' ⟨rfl,hle,x,s,acc,ra,f⟩
  have R':=R.hx x
  by_cases hlt:i<ts.length
  ·refine .inr ⟨it.go i H' s hlt,fun v H2 y=>?_⟩
   obtain⟨gr,t,ht,rt⟩:=it.yld i H' v H2 s (fun a z=>R'.dom z) hlt y
   have hx:=gr.hx R'
   have R2:=R'.hx hx
   rw[n6 hlt ht] at f
   refine hg (B.inner φ τ H2) _ _ _ H2 (Av B φ) t v _ _ R2.inner (fun a z=>z.elim id fun⟨j,z⟩=>bH z) rt f fun φ3 σ3 τ3 R3 ha k3=>?_
   have hsa:=c9 R3
   refine hc _ φ3 σ3 τ3 H2 _ _ R3 k3 fun c H3 x3 k4=>?_
   have x23:=gy hsa x3
   have s3:=it.stab _ _ (it.stab _ _ s fun a o e n=>hx.keep a o e n) fun a o e n=>x23.keep a o e n
   cases c with
   | false =>
    refine nJ ⟨_,by omega,rfl,hlt,(x.trans hx).trans x23,s3,acc,(hx.trans x23).repL (fun a z=>R.sAv z) ra,?_⟩
    simpa using k4
   | true =>
    refine om (xgP hi2 hg2 hc2 he (R3.hx x3) (F:=Av B φ) (fun a z=>z) (fun a z=>R.sAv (hsa a z)) ((hx.trans x23).repL (fun a z=>R.sAv z) ra) k4 fun acc' ys' H4 x4 ra4 k5=>?_)
    have x34:=gy hsa x4
    exact⟨_,by omega,rfl,hlt,((x.trans hx).trans x23).trans x34,it.stab _ _ s3 fun a o e n=>x34.keep a o e n,acc',ra4,k5⟩
  ·have ei:i=ts.length:=by omega
   subst ei
   rw[xiE] at f
   refine .inl ⟨it.stop H' s,fun p hp=>q acc p ys _ (x.trans (HX.new R' hp _)) f (x.none hp) xQ (uB hp ra)⟩
end
theorem me {dg dg2:DG}{dc dc2:DT}{di:DI}{tid:List (Option Nat)}{de:DE}{τi:TSt}{KK:List Tr→Prop}(G:Nat→List Tr→Prop):∀(xs:List Tr) (i:Nat) (acc:List Tr),(∀j x acc,xs[j]? = some x→G (i+j) acc→∀N:List Tr→Prop,(∀acc',G (i+j+1) acc'→N acc')→dg x τi fun τ2=>dc τ2 fun b=>if b=true then di τ2 fun ys=>acc.length+ys.length<sizeLine∧nI dg2 dc2 de (qr tid τ2) N ys acc else N acc)→G i acc→(∀acc,G (i+xs.length) acc→KK acc)→xaR dg dc di tid dg2 dc2 de τi KK xs acc
 | [],i,acc,_,g,k=>k acc g
 | x::xs,i,acc,h,g,k=>h 0 x acc rfl g _ fun acc' g'=>me G xs (i+1) acc' (fun j y a e g N hN=>h (j+1) y a (by simpa using e) (by rw[show i+(j+1)=i+1+j by omega];exact g) N fun a' g'=>hN a' (by rw[show i+1+j+1=i+(j+1)+1 by omega];exact g')) g' fun a g=>k a (by rw[xiX,show i+(xs.length+1)=i+1+xs.length by omega];exact g)
theorem rR {dg:DG}{de:DE}{τi:TSt}{KK:List Tr→Prop}(g:Tr→Tr):∀(xs acc:List Tr),(∀x∈xs,∀N:Tr→Prop,N (g x)→dg x τi fun τ2=>de τ2 N)→KK (acc++xs.map g)→nI dg xaM de τi KK xs acc
 | [],acc,_,k=>by rw[xja,xiz] at k;exact k
 | x::xs,acc,h,k=>h x xjh (fun y=>nI dg xaM de τi KK xs (acc++[y])) (rR g xs (acc++[g x]) (fun y hy=>h y (xjg _ hy)) (by rw[xiy];exact k))
end L2
namespace L2
open PySem PySem.Spec PyProof.Rows
theorem yF:∀(names:List (Str×NameKind)) (n:Nat) (acc:List (Str×Addr)),cellsFrom n names acc=cellsFrom n names []++acc
 | [],n,acc=>rfl
 | (x,k)::r,n,acc=>by
  unfold cellsFrom
  split
  ·rw[yF r (n+1) ((x,n)::acc),yF r (n+1) [(x,n)],xiy];rfl
  ·exact yF r n acc
theorem w5 {α:Type}:∀(l k:List (Str×α)) (x:Str),(l++k).lookup x=(l.lookup x).or (k.lookup x)
 | [],k,x=>rfl
 | (y,v)::l,k,x=>by
  rw[xiC,xi7,xi7]
  cases h:x == y with
  | true=>rfl
  | false=>exact w5 l k x
theorem wV:∀(names:List (Str×NameKind)) (n:Nat) {x:Str} {c:Addr},(x,c)∈cellsFrom n names []→(x,NameKind.cell)∈names∧n≤c
 | [],n,x,c,h=>by simp[cellsFrom] at h
 | (y,k)::r,n,x,c,h=>by
  unfold cellsFrom at h
  split at h
  ·rename_i hk
   have hk:k=.cell:=by simpa using hk
   rw[yF] at h
   rcases xjc.mp h with h | h
   ·obtain⟨a,b⟩:=wV r (n+1) h
    exact⟨xjg _ a,by omega⟩
   ·have e:=xjq.mp h
    cases e
    exact⟨by rw[hk];exact xjh,xjK _⟩
  ·obtain⟨a,b⟩:=wV r n h
   exact⟨xjg _ a,b⟩
theorem wZ:∀(names:List (Str×NameKind)) (n:Nat) {x:Str},(x,NameKind.cell)∈names→∃c,(cellsFrom n names []).lookup x=some c
 | [],n,x,h=>by simp at h
 | (y,k)::r,n,x,h=>by
  unfold cellsFrom
  rcases xjf.mp h with e | h
  ·injection e with e1 e2
   subst e1 e2
   rw[if_pos (show(NameKind.cell == NameKind.cell)=true from rfl),yF,w5]
   cases q:(cellsFrom (n+1) r []).lookup x with
   | some c=>exact⟨c,rfl⟩
   | none=>exact⟨n,by simp⟩
  ·split
   ·rw[yF,w5]
    obtain⟨c,hc⟩:=wZ r (n+1) h
    exact⟨c,by rw[hc];rfl⟩
   ·exact wZ r n h
theorem fA (g:Str→NameKind→NameKind):∀(l:List (Str×NameKind)) (x:Str),(l.map fun y=>(y.1,g y.1 y.2)).lookup x=(l.lookup x).map (g x)
 | [],x=>rfl
 | (n,k)::l,x=>by
  rw[xi9,xi7,xi7]
  cases h:x == n with
  | true =>
   have e:x=n:=by simpa using h
   rw[e]
   rfl
  | false=>exact fA g l x
theorem kg (sc:Scope)(env:Env)(x:Str):(relabel sc env).names.lookup x=(sc.names.lookup x).map fun k=>if (k == NameKind.free&&env.scope.kind == .function&&env.kindOf x == some .cell)=true then NameKind.cell else k:=by
 have e:(relabel sc env).names=sc.names.map fun y=>(y.1,if (y.2 == NameKind.free&&env.scope.kind == .function&&env.kindOf y.1 == some .cell)=true then NameKind.cell else y.2):=by
  unfold relabel
  apply List.map_congr_left
  rintro⟨n,k⟩ _
  dsimp only
  split<;>rfl
 rw[e,fA (fun n k=>if (k == NameKind.free&&env.scope.kind == .function&&env.kindOf n == some .cell)=true then NameKind.cell else k)]
def xc_ (X:Cx)(sc:Scope)(C:Addr):List (Str×Addr):=cellsFrom (C+1) sc.names (jV X.env sc.names [])
def uf (X:Cx)(sc:Scope)(N:List Str)(C:Addr)(s:Shared)(H:Hp)(ex:List Addr):Cx :=
 { X with N:=N,s₀:=s,H₀:=H,env:=compEnvC sc (xc_ X sc C) C X.env,outer:=X.stack,stack:=X.stack,ex:=ex,fn:=fun x=>decide (sc.names.lookup x=some .cell),pn:=[],xe:=fun _ _=>False }
def xad (XN:List Str)(xs sc:Scope)(N:List Str)(tau:List (Option Nat)):Bool :=
 decide (sc.kind=.function)&&decide ((sc.names.map (·.1)).Nodup)&&decide N.Nodup&&decide (tau.length=N.length) &&
 (tau.zip N).all (fun p=>match p.1 with | none=>true | some j=>decide (XN[j]? = some p.2)&&decide (sc.names.lookup p.2=some .free)) &&
 sc.names.all (fun y=>decide (y.2≠.free) || decide (xs.names.lookup y.1=some .cell) || decide (xs.names.lookup y.1=some .free))&&decide (xs.kind=.function)
structure wM (X:Cx)(sc:Scope)(N:List Str)(tau:List (Option Nat)):Prop where
 kind:sc.kind=.function
 uniq:(sc.names.map (·.1)).Nodup
 nd:N.Nodup
 len:tau.length=N.length
 out:∀(i j:Nat) (x:Str),tau[i]? = some (some j)→N[i]? = some x→X.N[j]? = some x∧sc.names.lookup x=some .free
 fr:∀y∈sc.names,y.2=.free→X.env.scope.names.lookup y.1=some .cell∨X.env.scope.names.lookup y.1=some .free
 okind:X.env.scope.kind=.function
theorem l_ {X:Cx}{sc:Scope}{N XN:List Str}{xs:Scope}{tau:List (Option Nat)}(h:xad XN xs sc N tau=true)(h1:X.N=XN)(h2:X.env.scope=xs):wM X sc N tau:=by
 subst h1 h2
 unfold xad at h
 simp only[xhX,xiw,xj4,xh0] at h
 obtain⟨⟨⟨⟨⟨⟨k,u⟩,nd⟩,len⟩,out⟩,fr⟩,ok⟩:=h
 refine⟨k,u,nd,len,fun i j x e1 e2=>?_,fun y hy e=>?_,ok⟩
 ·have:=out _ (zip_get e1 e2)
  simpa using this
 ·rcases fr y hy with (z | z) | z
  ·exact absurd e z
  ·exact .inl z
  ·exact .inr z
theorem gF {l:List (Str×NameKind)}(h:(l.map (·.1)).Nodup){x:Str}{k:NameKind}(hm:(x,k)∈l):l.lookup x=some k:=by
 induction l with
 | nil=>simp at hm
 | cons y r ih =>
  obtain⟨n,k'⟩:=y
  rw[xi9,xju] at h
  rw[xi7]
  rcases xjf.mp hm with e | hm
  ·cases e;simp
  ·have:x≠n:=fun e=>h.1 (by rw[←e];exact xjl.mpr ⟨_,hm,rfl⟩)
   rw[show(x == n)=false by simpa using this]
   exact ih h.2 hm
section
variable {X:Cx} {sc:Scope} {N:List Str} {tau:List (Option Nat)} {pins:List (Addr×Obj)} {σ:St} {H:Hp} {s:Shared}
theorem wM.loc (k:wM X sc N tau):∀y∈sc.names,y.2=.local→sc.names.lookup y.1=some .local:=fun y hy e=>gF k.uniq (by rw[←e];exact hy)
theorem wM.cells (k:wM X sc N tau)(ok:X.Ok):∀y∈sc.names,y.2=NameKind.free→∃c,X.env.cells.lookup y.1=some c:=fun y hy e=>ok.has y.1 (k.fr y hy e)
theorem wM.cs (k:wM X sc N tau){C:Addr}{x:Str}{c:Addr}(h:(xc_ X sc C).lookup x=some c):(sc.names.lookup x=some .cell∧(x,c)∈cellsFrom (C+1) sc.names []∧C+1≤c)∨(sc.names.lookup x≠some .cell∧X.env.cells.lookup x=some c):=by
 unfold xc_ at h
 rw[yF,w5] at h
 cases q:(cellsFrom (C+1) sc.names []).lookup x with
 | some c' =>
  rw[q] at h
  cases (show some c'=some c from h)
  have m:=PySem.mem_of_lookup q
  obtain⟨a,b⟩:=wV _ _ m
  exact .inl ⟨gF k.uniq a,m,b⟩
 | none =>
  rw[q] at h
  refine .inr ⟨fun z=>?_,wU _ _ (show(jV X.env sc.names []).lookup x=some c from h) fun _ z=>by simp at z⟩
  obtain⟨c',hc⟩:=wZ sc.names (C+1) (PySem.mem_of_lookup z)
  rw[hc] at q;cases q
theorem wM.own (k:wM X sc N tau){C:Addr}{x:Str}(h:sc.names.lookup x=some .cell):∃c,(xc_ X sc C).lookup x=some c:=by
 obtain⟨c,hc⟩:=wZ sc.names (C+1) (PySem.mem_of_lookup h)
 exact⟨c,by unfold xc_;rw[yF,w5,hc];rfl⟩
theorem wM.seen (k:wM X sc N tau){C:Addr}{x:Str}{c:Addr}(h:sc.names.lookup x=some .free)(hc:X.env.cells.lookup x=some c):(xc_ X sc C).lookup x=some c:=by
 unfold xc_
 rw[yF,w5]
 cases q:(cellsFrom (C+1) sc.names []).lookup x with
 | some c' =>
  obtain⟨a,_⟩:=wV _ _ (PySem.mem_of_lookup q)
  rw[gF k.uniq a] at h;cases h
 | none=>exact qG hc _ _ (PySem.mem_of_lookup h)
theorem xaA (k:wM X sc N tau)(I:Inv X pins σ H s){fp:List Addr}(hf:∀b∈fp,fW X pins H b)(hob:∀b∈fp,∃o,s.heap.get? b=some o)(ap:(cellsFrom (s.heap.objs.size+1+1) sc.names []).Pairwise fun x y=>x.2≠y.2) :
  (uf X sc N (s.heap.objs.size+1) s H fp).Ok where
 mod:=I.ok.mod
 kind:=k.kind
 glob:=I.ok.glob
 blt:=I.ok.blt
 above:=xjL _
 inj:=fun x y c h1 h2=>by
  have old:∀ {x:Str} {c:Addr},X.env.cells.lookup x=some c→c<s.heap.objs.size:=fun {x c} e=>let ⟨v,q⟩:=I.cell x c e;q.lt
  rcases k.cs h1 with ⟨_,a1,b1⟩ | ⟨_,a1⟩<;>rcases k.cs h2 with ⟨_,a2,b2⟩ | ⟨_,a2⟩
  ·exact name_of_addr ap a1 a2
  ·exact absurd (xjP (old a2) (xjM (xjI _ 2) b1)) (xjN _)
  ·exact absurd (xjP (old a1) (xjM (xjI _ 2) b2)) (xjN _)
  ·exact I.ok.inj x y c a1 a2
 has:=fun x h=>by
  have e:=kg sc X.env x
  have h:(relabel sc X.env).names.lookup x=some .cell∨(relabel sc X.env).names.lookup x=some .free:=h
  cases q:sc.names.lookup x with
  | none=>rw[e,q] at h;simp at h
  | some kd =>
   cases kd with
   | cell=>exact k.own q
   | free =>
    obtain⟨c,hc⟩:=k.cells I.ok _ (PySem.mem_of_lookup q) rfl
    exact⟨c,k.seen q hc⟩
   | _=>rw[e,q] at h;simp at h
 cab:=fun x c h hc=>by
  have h:=xj8 h
  rcases k.cs hc with ⟨_,_,b⟩ | ⟨n,_⟩
  ·exact xjM (xjI _ 2) b
  ·exact absurd h n
 hd:=I.ok.hd
 frames:=I.ok.frames
 stk:=.inl rfl
 exf:=fun b hb=>by
  obtain⟨o,e⟩:=hob b hb
  have l:=Heap.lt_size e
  refine⟨fun z=>?_,fun x c h z=>?_⟩
  ·have z':b=s.heap.objs.size+1:=z
   rw[z'] at l
   exact xjN _ (Nat.lt_of_succ_lt l)
  ·rcases k.cs h with ⟨_,_,q⟩ | ⟨_,q⟩
   ·rw[z] at q
    exact absurd (xjP l (xjM (xjI _ 2) q)) (xjN _)
   ·exact(hf b hb).2.2.2.2.1 x c q z
 bs:=I.bs
 bsz:=xjM I.ok.bsz I.sz
 noex:=fun b o e hb=>by
  rcases(hf b hb).2.2.2.1 with z | z
  ·exact I.ok.noex b o e z
  ·exact absurd (xjP (Heap.lt_size (I.ok.bs b o e).1) z) (xjN _)
 exfs:=fun b hb z=>by
  rcases xjf.mp (I.stkSub b z) with e | e
  ·exact(hf b hb).2.1 e
  ·exact(hf b hb).2.2.1 e
 funs:=I.stack
 frf:=I.stkFree
theorem xbN (k:wM X sc N tau)(I:Inv X pins σ H s){fp:List Addr}(hf:∀b∈fp,fW X pins H b)(hob:∀b∈fp,∃o,s.heap.get? b=some o){h1:Heap}{t':Nat}
  (kp:∀b o,s.heap.get? b=some o→h1.get? b=some o) (hn:h1.Ns (s.heap.objs.size+1) (fun _=>none)) (hD:h1.get? s.heap.objs.size=some { cls:=.type "list", data:=.seq #[] 0 })
  (ck:CellsOk h1 (s.heap.objs.size+1+1) (cellsFrom (s.heap.objs.size+1+1) sc.names [])) :
  Inv (uf X sc N (s.heap.objs.size+1) s H fp) [(s.heap.objs.size,lo [] 0)] (qo tau σ) H { s with heap:=h1,toks:=t' } where
 ok:=xaA k I hf hob ck.apart
 os:=rfl
 bare:=I.bare
 base:=Un.kept kp
 loc:=⟨_,hn,fun i x v e1 e2 e3=>by
  obtain⟨j,t1,t2⟩:=u7 e2
  obtain⟨o1,o2⟩:=k.out i j x t1 e1
  have m:(x,NameKind.free)∈sc.names:=PySem.mem_of_lookup o2
  have hk:=k.fr _ m rfl
  obtain⟨mm,hn',hl⟩:=I.loc
  obtain⟨u,r,l⟩:=hl j x v o1 t2 (hk.elim (fun z=>.inr (.inl z)) fun z=>.inr (.inr z))
  have e:=kg sc X.env x
  rw[o2] at e
  refine⟨u,r,.inr ⟨?_,?_⟩⟩
  ·show(relabel sc X.env).names.lookup x=some .cell∨(relabel sc X.env).names.lookup x=some .free
   rw[e]
   simp only[xjY]
   split
   ·exact .inl rfl
   ·exact .inr rfl
  ·rcases l with ⟨z,_⟩ | ⟨_,c,ec,hc⟩
   ·exfalso
    have z:X.env.scope.names.lookup x=some .local:=z
    rcases hk with q | q<;>rw[z] at q<;>cases q
   ·obtain⟨o,ho,hd⟩:=hc
    exact⟨c,k.seen o2 ec,o,kp c o ho,hd⟩⟩
 cell:=fun x c h=>by
  rcases k.cs h with ⟨_,a,_⟩ | ⟨_,a⟩
  ·exact⟨_,(ck.empty x c a).1⟩
  ·obtain⟨v,o,ho,hd⟩:=I.cell x c a
   exact⟨v,o,kp c o ho,hd⟩
 free:=I.hok.fresh (xjL _)
 freeC:=fun x c h=>by
  rcases k.cs h with ⟨_,_,b⟩ | ⟨_,a⟩
  ·exact I.hok.fresh (xjM (xjI _ 2) b)
  ·exact I.freeC x c a
 pin:=fun p hp=>by
  have e:p=(s.heap.objs.size,lo [] 0):=by simpa [uf] using hp
  subst e
  refine⟨hD,I.hok.fresh (xjK _),xjT (xjR _),fun z=>?_,fun v=>by simp⟩
  rcases xjf.mp (I.stkSub _ z) with e | e
  ·exact absurd (e▸I.lt) (xjN _)
  ·exact I.nofs (xjK _) e
 hok:=I.hok.kept kp
 len:=by
  show(qo tau σ).length=N.length
  unfold qo
  rw[xi0]
  exact k.len
end
theorem xbh {Y:Cx}{elt tg iter:Expr}{ifs:List Expr}{sc:Scope}{pos:Pos}{g:TG}{tc:TT}{te:TE}{tau:List (Option Nat)}(hc:Y.calm=true)(hx:Y.xe=fun _ _=>False){D:Addr}{pl:List (Addr×Obj)}(hg:PG Y tg g)(ht:PIf Y ifs tc)(he:PE Y elt te)(hga:GA tau g)
  {it:Addr} {fp:List Addr} {tn:Nat→Heap→Prop} {J:It} (T:Turn Y.prog Y.w Y.K tg J fp it tn) {its:List Value} {n:Nat} {ys:List V} {σ0:St} {H:Hp} {s:Shared} (I:Inv Y ((D,lo its n)::pl) σ0 H s) (hτ:∀(i:Nat) (v:V),σ0[i]? = some (some v)→∃j,tau[i]? = some (some j)) (rv:yS ys its) (hz:ys.length≤sizeLine) (h1:D∈Y.ex∨Y.s₀.heap.objs.size≤D) (h2:∀p∈Y.pn++pl,p.1≠D)
  (st0:tn 0 s.heap) (fo:∀b∈fp,fW Y ((D,lo its n)::pl) H b) {W:Nat→Nat→List V→Hp→Prop} {Z:List V→Hp→Prop} (w0:∃m,W 0 m ys H) (turn:∀i m ys H,W i m ys H →
   (J.stop i H∧Z ys H) ∨
   (J.go i H∧ys.length<sizeLine∧∀x H',J.yld i H x H'→g x σ0 H' fun σ2 H2=>tc σ2 H2 fun b H3=>if b=true then te σ2 H3 fun y H4=>∃m',m' < m∧W (i+1) m' (ys++[y]) H4 else ∃m',m' < m∧W (i+1) m' ys H3))
  {R:Result→Shared→Prop} (fin:∀H' s' ys' its' n',Inv Y ((D,lo its' n')::pl) σ0 H' s'→yS ys' its'→ys'.length≤sizeLine→Z ys' H'→R (.ok .next) s') :
  codeAny (model Y.prog Y.w) Y.A (.compStart (.ListComp elt [⟨tg,iter,ifs,0⟩] sc pos) 0 (.ref it) (.ref D) Y.env) R s:=by
 obtain⟨m0,w0⟩:=w0
 have fD:∀b∈fp,b≠D:=fun b hb=>Ne.symm ((fo b hb).2.2.2.2.2 (D,lo its n) (by simp))
 have stat:∀ {H':Hp} {its':List Value} {n':Nat},(∀b∈fp,H' b=none)→∀b∈fp,fW Y ((D,lo its' n')::pl) H' b:=fun {H' its' n'} hn b hb=>by
  obtain⟨_,a1,a2,a3,a4,a5⟩:=fo b hb
  refine⟨hn b hb,a1,a2,a3,a4,fun p hp=>?_⟩
  rcases xjc.mp hp with hp | hp
  ·exact a5 p (xjd _ hp)
  ·rcases xjf.mp hp with rfl | hp
   ·exact Ne.symm (fD b hb)
   ·exact a5 p (xje _ (xjg _ hp))
 have loop:codeAny (model Y.prog Y.w) Y.A (.compLoop (.ListComp elt [⟨tg,iter,ifs,0⟩] sc pos) 0 (.ref it) (.ref D) Y.env) R s:=by
  refine j9 (fun m s'=>∃i ys' H' its' n',Inv Y ((D,lo its' n')::pl) σ0 H' s'∧yS ys' its'∧ys'.length≤sizeLine∧tn i s'.heap∧(∀b∈fp,H' b=none)∧W i m ys' H') ?_ m0
   ⟨0,ys,H,its,n,I,rv,hz,st0,fun b hb=>(fo b hb).1,w0⟩
  rintro m s3 ⟨i,ys3,H3,its3,n3,I3,rv3,hz3,st3,fr3,w3⟩
  rcases turn i m ys3 H3 w3 with ⟨stop,z⟩ | ⟨go,hlt,step⟩
  ·refine wpAny_mono (T.done Y rfl rfl rfl hc i _ s3 _ H3 (fun _ _=>False) I3 (stat fr3) st3 stop) (fun r s4 ⟨hr,I4⟩=>?_) fun _ _ f=>f.elim
   subst hr
   exact fin _ _ _ _ _ I4 rv3 hz3 z
  ·refine wpAny_mono (T.item Y rfl rfl rfl hc i _ s3 _ H3 (fun _ _=>False) I3 (stat fr3) st3 go) (fun r s4 ⟨u,hr,h4⟩=>?_) fun _ _ f=>f.elim
   subst hr
   refine wpAny_mono h4 (fun _ s5 ⟨x,H5,I5,r5,y5,st5,fr5⟩=>?_) fun _ _ f=>f.elim
   have I5':=I5.pinned (stat fr5) (T.obj _ _ st5)
   have g5:=hg _ s5 _ H5 x u _ I5' r5 (hga _ _ _ _ (step x H5 y5))
   rw[hx] at g5
   refine wpAny_mono g5 (fun _ s6 ⟨σ6,H6,I6,q6,ag⟩=>?_) fun _ _ f=>f.elim
   have t6:=ht _ s6 σ6 H6 _ I6 q6
   rw[hx] at t6
   refine wpAny_mono t6 (fun b s7 ⟨H7,I7,q7⟩=>?_) fun _ _ f=>f.elim
   have back:∀ {H8:Hp} {s8:Shared} {its8:List Value} {n8:Nat},Inv Y ((D,lo its8 n8)::(pl++uq fp s5.heap)) σ6 H8 s8→Inv Y ((D,lo its8 n8)::pl) σ0 H8 s8∧tn (i+1) s8.heap∧∀b∈fp,H8 b=none:=fun {H8 s8 its8 n8} I8=>by
    have I8':Inv Y (((D,lo its8 n8)::pl)++uq fp s5.heap) σ6 H8 s8:=I8
    refine⟨I8'.unpinned.weak (I.len.trans I8.len.symm) fun j v e=>?_,T.keep _ _ _ st5 fun b hb o e=>(I8'.pin (b,o) (xje _ (xje _ (zd hb e)))).1,fun b hb=>?_⟩
    ·obtain⟨j',t1⟩:=hτ j v e
     rw[ag j j' t1];exact e
    ·obtain⟨o,e,d⟩:=T.obj _ _ st5 b hb
     exact(I8'.pin (b,o) (xje _ (xje _ (zd hb e)))).2.1
   cases b with
   | false =>
    obtain⟨m',hm,w7⟩:=q7
    obtain⟨I8,st8,fr8⟩:=back I7
    rw[if_neg xhZ]
    exact⟨m',hm,i+1,ys3,H7,its3,n3,I8,rv3,hz3,st8,fr8,w7⟩
   | true =>
    rw[if_pos rfl]
    have e7:=@he _ s7 σ6 H7 _ I7 q7
    rw[hx] at e7
    refine wpAny_mono e7 (fun y s8 ⟨yv,H8,I8,r8,m',hm,w8⟩=>?_) fun _ _ f=>f.elim
    refine xaf (pl:=pl++uq fp s5.heap) I8 h1 (fun p hp=>?_) (by rw[←rv3.length];exact hz3) fun s9 n9 I9 _=>?_
    ·rw[←xiy] at hp
     rcases xjc.mp hp with hp | hp
     ·exact h2 p hp
     ·exact fD _ (jr hp).1
    ·obtain⟨I10,st10,fr10⟩:=back I9
     exact⟨m',hm,i+1,ys3++[yv],H8,its3++[y],n9,I10,rv3.append (.cons r8 .nil),by rw[xiW,xi5];exact hlt,st10,fr10,w8⟩
 exact codeAny_compStart_list loop (T.self _ 0 _ _ _ st0 loop)
section
variable {X:Cx} {sc:Scope} {N:List Str} {tau:List (Option Nat)} {pins:List (Addr×Obj)} {σ:St} {H:Hp} {s:Shared}
theorem xbl (k:wM X sc N tau)(I:Inv X pins σ H s){fp:List Addr}(hf:∀b∈fp,fW X pins H b){σ':St}{H':Hp}{s':Shared}{its:List Value}{n:Nat}{ys:List V}
  (J:Inv (uf X sc N (s.heap.objs.size+1) s H fp) [(s.heap.objs.size,lo its n)] σ' H' s') (rv:yS ys its) (hz:ys.length≤sizeLine) :
  Inv X pins σ (upd H' s.heap.objs.size (.lst ys)) s'∧H' s.heap.objs.size=none∧(upd H' s.heap.objs.size (.lst ys)) (s.heap.objs.size+1)=none:=by
 obtain⟨pD,nD,_,_,_⟩:=J.pin (s.heap.objs.size,lo its n) (by simp[uf])
 have nC:H' (s.heap.objs.size+1)=none:=J.free
 have B:Un (frs X.stack) fp H H' s.heap s'.heap:=J.base
 have ltD:∀b o,s.heap.get? b=some o→b≠s.heap.objs.size:=fun b o e=>xjT (Heap.lt_size e)
 refine⟨I.call' (ch:=fp) J.os ⟨B.keep,B.slot,fun b o e n hx=>?_,B.there,fun b xs e=>?_,fun b o u e=>?_,fun b ps e=>?_⟩ (fun b u e=>?_) J.bare (fun b hb=>?_),nD,?_⟩
 ·rw[xN (ltD b o e)];exact B.free b o e n hx
 ·have q:=B.tups b xs e
  rw[xN (xw q nD)];exact q
 ·have q:=B.frzs b o u e
  rw[xN (xw q nD)];exact q
 ·obtain⟨more,q⟩:=B.tbls b ps e
  exact⟨more,by rw[xN (xw q nD)];exact q⟩
 ·by_cases hb:b=s.heap.objs.size
  ·subst hb
   rw[xQ] at e
   cases e
   exact⟨hz,its,n,rv,pD⟩
  ·rw[xN hb] at e
   exact(J.hok b u e).stay (fun c v _ q=>q) (fun c q=>by rw[xN (xw q nD)];exact q) (fun c xs q=>by rw[xN (xw q nD)];exact q) fun c o u q=>by rw[xN (xw q nD)];exact q
 ·obtain⟨_,f1,_,f3,f4,f5⟩:=hf b hb
  exact⟨f3,f1,f4,f5⟩
 ·rw[xN (xjS (xjR _))];exact nC
theorem pU {elt tg iter:Expr}{ifs:List Expr}{g:TG}{tc:TT}{te:TE}{pos:Pos}(k:wM X sc N tau)(hc:X.calm=true)(I:Inv X pins σ H s){it:Addr}{fp:List Addr}{tn:Nat→Heap→Prop}{J:It}
  (T:Turn X.prog X.w X.K tg J fp it tn) (st0:tn 0 s.heap) (hf:∀b∈fp,fW X pins H b) (hga:GA tau g)
  (hg:∀C s H ex,PG (uf X sc N C s H ex) tg g) (ht:∀C s H ex,PIf (uf X sc N C s H ex) ifs tc) (he:∀C s H ex,PE (uf X sc N C s H ex) elt te)
  {W:Nat→Nat→List V→Hp→Prop} {Z:List V→Hp→Prop} (w0:∃m,W 0 m [] H) (turn:∀i m ys H,W i m ys H →
   (J.stop i H∧Z ys H) ∨
   (J.go i H∧ys.length<sizeLine∧∀x H',J.yld i H x H'→g x (qo tau σ) H' fun σ2 H2=>tc σ2 H2 fun b H3=>if b=true then te σ2 H3 fun y H4=>∃m',m' < m∧W (i+1) m' (ys++[y]) H4 else ∃m',m' < m∧W (i+1) m' ys H3))
  {E:Value→Shared→Prop} {RR:Value→Addr→Result→Shared→Prop}
  (fin:∀ σ' H' s' ys its n,Inv (uf X sc N (s.heap.objs.size+1) s H fp) [(s.heap.objs.size,lo its n)] σ' H' s'→yS ys its→ys.length≤sizeLine→Z ys H'→RR (.ref s.heap.objs.size) (s.heap.objs.size+1) (.ok .next) s') :
  wpAny (model X.prog X.w) X.A (newList []) (fun acc s₃=>wpAny (model X.prog X.w) X.A (newFunctionEnv sc X.env.globals (jV X.env sc.names []) [] X.env.qual none .none (some X.env)) (fun cenv s₄ =>
   codeAny (model X.prog X.w) X.A (.compStart (.ListComp elt [⟨tg,iter,ifs,0⟩] sc pos) 0 (.ref it) acc { cenv with scope:=relabel sc X.env }) (RR acc cenv.locals) s₄) E s₃) E s:=by
 have hob:∀b∈fp,∃o,s.heap.get? b=some o:=fun b hb=>let ⟨o,e,_⟩:=T.obj _ _ st0 b hb;⟨o,e⟩
 refine wpAny_newObj_type ?_
 simp only[newFunctionEnv,Option.isSome_some,if_true]
 refine wpAny_bind (wpAny_alloc ?_)
 refine wpAny_bind (wpAny_layCells _ (fun name kind cells=>by cases hkc:kind == NameKind.cell<;>simp[hkc]) _ _ _ _ ?_)
 rw[List.forIn_nil]
 refine wpAny_bind (wpAny_pure (wpAny_pure ?_))
 have e1:(s.heap.push { cls:=.type "list", dict:=none,data:=.seq ([]:List Value).toArray }).objs.size=s.heap.objs.size+1:=Heap.size_push ..
 have e2:((s.heap.push { cls:=.type "list", dict:=none,data:=.seq ([]:List Value).toArray }).push { cls:=.type "dict", data:=.dict #[] }).objs.size=s.heap.objs.size+1+1:=by rw[Heap.size_push,e1]
 dsimp only
 rw[e1,e2]
 generalize hh:(s.heap.push { cls:=.type "list", dict:=none,data:=.seq ([]:List Value).toArray })=hA at e1 e2 ⊢
 have oldA:∀b o,s.heap.get? b=some o→hA.get? b=some o:=fun b o e=>hh▸Heap.get?_push_of_some _ e
 have ck:=cellsFrom_ok sc.names (hA.push { cls:=.type "dict", data:=.dict #[] }) (s.heap.objs.size+1+1) [] ⟨fun _ _ hm=>(nomatch hm),List.Pairwise.nil⟩ (by rw[e2];exact xjK _)
 rw[e2] at ck
 have old:∀b o,s.heap.get? b=some o→(pushCells (hA.push { cls:=.type "dict", data:=.dict #[] }) sc.names).get? b=some o:=fun b o e=>pushCells_keeps _ _ b o (Heap.get?_push_of_some _ (oldA b o e))
 have hns:(pushCells (hA.push { cls:=.type "dict", data:=.dict #[] }) sc.names).Ns (s.heap.objs.size+1) (fun _=>none):=by
  have:=(Heap.Ns.new hA (.type "dict")).keeps (pushCells_keeps sc.names _)
  rw[e1] at this;exact this
 have hacc:(pushCells (hA.push { cls:=.type "dict", data:=.dict #[] }) sc.names).get? s.heap.objs.size=some (lo [] 0):=pushCells_keeps _ _ _ _ (Heap.get?_push_of_some _ (hh▸Heap.get?_push_size _ rfl))
 have I1:=xbN (t':=s.toks) k I hf hob old hns hacc ck
 have ltD:∀b∈fp,b≠s.heap.objs.size:=fun b hb=>by
  obtain⟨o,e⟩:=hob b hb
  exact xjT (Heap.lt_size e)
 have cx:=xaA (N:=N) k I hf hob ck.apart
 refine xbh (Y:=uf X sc N (s.heap.objs.size+1) s H fp) (D:=s.heap.objs.size) (pl:=[]) (tau:=tau) hc rfl (hg _ _ _ _) (ht _ _ _ _) (he _ _ _ _) hga T I1 (fun i v e=>let ⟨j,a,_⟩:=u7 e;⟨j,a⟩) .nil (xjW _) (.inr (xjK _)) (fun p hp=>by simp[uf] at hp) (T.keep _ _ _ st0 fun b _ o e=>old b o e) (fun b hb=>?_) w0 turn fun H' s' ys' its' n' J' rv' hz' z=>fin _ _ _ _ _ _ J' rv' hz' z
 refine⟨(hf b hb).1,(cx.exf b hb).1,cx.exfs b hb,.inl hb,(cx.exf b hb).2,fun p hp=>?_⟩
 have e:p=(s.heap.objs.size,lo [] 0):=by simpa [uf] using hp
 subst e
 exact Ne.symm (ltD b hb)
theorem xa0 {elt tg iter:Expr}{ifs:List Expr}{wi:TI}{g:TG}{tc:TT}{te:TE}{pos:Pos}(k:wM X sc N tau)(hc:X.calm=true)(hga:GA tau g)(hi:PI X tg iter wi)
  (hg:∀C s H ex,PG (uf X sc N C s H ex) tg g) (ht:∀C s H ex,PIf (uf X sc N C s H ex) ifs tc) (he:∀C s H ex,PE (uf X sc N C s H ex) elt te)
  (hs:∀x,foldedSetIterable iter X.env x=pure x:=by intro _;rfl):PE X (.ListComp elt [⟨tg,iter,ifs,0⟩] sc pos) (xd7 wi tau g tc te):=by
 intro pins s σ H Q I h
 rw[eval_ListComp]
 refine wpAny_comprehension_free (use:=none) rfl hs (mY (k.cells I.ok)) k.kind k.loc ?_
 refine thn (@hi pins s σ H _ I h) fun v s1 h1=>thn h1 fun itv s2 h2=>?_
 obtain⟨it,fp,tn,J,H2,e,I2,T,st2,f2,W,w0,turn⟩:=h2
 subst e
 refine pU (RR:=fun acc C=>compPost (model X.prog X.w) X.A X.xe none (EP X pins σ Q) acc C) (W:=W) (Z:=fun ys H'=>∀p,H' p=none→Q (.ref p) (upd H' p (.lst ys))) k hc I2 T st2 f2 hga hg ht he w0 turn ?_
 intro σ' H' s' ys its n J' rv hz z
 obtain⟨I',hD,hC⟩:=xbl k I2 f2 J' rv hz
 obtain⟨m,hn,_⟩:=J'.loc
 exact⟨m,hn,fun h' hs'=>⟨.ref _,_,gY I2 I' hC hs',rfl,z _ hD⟩⟩
end
end L2
namespace L2
open PySem PySem.Spec PyProof.Rows
section
variable {K:PySem.W.Frag} {fr:Bool} {H:Hp}
theorem dG {α β:Type}{R:α→β→Prop}:∀ {xs:List α} {ys:List β},Paired R xs ys→Paired R xs.reverse ys.reverse
 | _,_,.nil=>.nil
 | _,_,.cons r rs=>by rw[xjA,xjA];exact nG (dG rs) r
theorem zo.rev {F:Addr→Prop}{ts:List Tr}{ws:List V}(r:zo F H ts ws):zo F H ts.reverse ws.reverse:=yN.mpr (dG (yN.mp r))
theorem zo.take {F:Addr→Prop}{ts:List Tr}{ws:List V}(r:zo F H ts ws)(n:Nat):zo F H (ts.take n) (ws.take n):=yN.mpr (vd _ (yN.mp r))
def xhH (d ds:DE):DE:=fun τ KK=>d τ fun x=>ds τ fun y=>y=.int (-1)∧match x with | .lst ts=>KK (.lst ts.reverse) | _=>False
theorem xdz {c:Bool}{te ts:TE}{d ds:DE}(h:OkE K true te d)(hs:OkE K c ts ds):OkF K (xhq K te (xc8 ts)) (xhH d ds):=fun B φ σ τ H Q KK R hd q =>
 h B φ σ τ H _ _ R hd fun t v H1 x1 k1 r1=>hs B φ σ τ H1 _ _ (R.hx x1) k1 fun u w H2 x2 k2 r2=>by
  obtain⟨rfl,k2⟩:=k2
  have r3:=x2.rep (F:=Av B φ) (fun a s=>R.sAv s) r1
  have x:=x1.trans x2
  cases t with
  | lst us =>
   obtain⟨a,ws,e,n,ha,rl⟩:=r3
   exact⟨-1,r2,rfl,a,ws,e,SqL.of ha,fun p hp=>q _ _ _ _ (x.trans (HX.new (R.hx x) hp _)) k2 (x.none hp) xQ (uB hp rl.rev)⟩
  | _=>exact k2.elim
def xhl (i:Nat):DS:=fun G τ=>match nth τ i with | .ow ts=>ts≠[]∧G.nx (τ.set i (.ow ts.dropLast)) | _=>False
theorem xei {i:Nat}:OkS K fr (pG (xhj K "list" xgT (dD i))) (xhl i):=fun B φ σ τ H E G R hd e=>by
 have en:=R.ent i
 unfold xhl at hd
 revert en hd
 cases hi:nth τ i with
 | ow ts =>
  intro hd ⟨a,ws,e1,e2,e3,e4,r⟩
  refine⟨_,e1,.inl ⟨rfl,_,SqL.of e4⟩,?_⟩
  have l:=r.len
  have ne:ws≠[]:=fun z=>hd.1 (by rw[z] at l;exact xiZ.mp l)
  have lt:ws.length-1<ws.length:=by have:=List.length_pos_iff.mpr ne;omega
  refine⟨a,ws,ws[ws.length-1],rfl,rfl,e4,xiP lt,e.nx φ σ _ _ (R.wrOw hi e1 ?_) hd.2⟩
  rw[List.dropLast_eq_take,List.dropLast_eq_take,l]
  exact r.take _
 | _=>exact fun z _=>z.elim
end
end L2
namespace L2
open PySem PySem.Spec PyProof.Rows
theorem zV.get {P:Program}{w:World}{H:Hp}{h:Heap}{a:Addr}{o:HO}(x:zV P w H h a o):∃ob,h.get? a=some ob:=by
 cases o with
 | lst xs=>obtain⟨_,_,_,_,e⟩:=x;exact⟨_,e⟩
 | tup xs=>obtain⟨_,_,_,_,e,_⟩:=x;exact⟨_,e⟩
 | dK kvs=>obtain⟨_,_,_,_,o,_,_,e,_⟩:=x;exact⟨_,e⟩
 | dT kvs=>obtain⟨_,_,_,_,o,_,_,e,_⟩:=x;exact⟨_,e⟩
 | set S n=>obtain⟨o,_,_,_,e,_⟩:=x;exact⟨_,e⟩
 | ins C dx fs=>obtain⟨_,_,_,e,_⟩:=x;exact⟨_,e⟩
 | own y=>exact x
 | xd fs=>obtain⟨_,⟨_,_,_,e,_⟩,_⟩:=x;exact⟨_,e⟩
 | rng lo hi=>obtain⟨_,_,_,e⟩:=x;exact⟨_,e⟩
 | frz ob u=>obtain⟨e,_⟩:=x;exact⟨_,e⟩
 | tbl ps=>exact⟨_,x⟩
 | tb q=>obtain⟨_,e,_⟩:=x;exact⟨_,e⟩
 | met f y=>exact⟨_,x⟩
 | ext φ=>obtain⟨_,e,_⟩:=x;exact e
structure Fl (P:Program)(w:World)(outer:List Env)(H:Hp)(s:Shared)(ea C:Addr)(H':Hp)(s':Shared):Prop where
 os:s'.os=s.os
 bare:AllBare s'.gens
 un:Un (frs outer) [] H H' s.heap s'.heap
 hok:HOk P w H' s'.heap
 fly:∃(B:Heap) (t:Addr),Heap.FlyingW B outer ea (.ref C) (.ref t) s'.heap∧(∀b o,s.heap.get? b=some o→H b=none→b∉frs outer→B.get? b=some o) ∧
  (∀b o,s.heap.get? b=some o→b∉frs outer→∃o',B.get? b=some o')∧∀b u,H' b=some u→∃o,B.get? b=some o
def CXE (P:Program)(w:World):CXT:=fun outer H s E e s'=>∃ea C H',e=.ref ea∧Fl P w outer H s ea C H' s'∧E (.ref C) none H'
section
variable {P:Program} {w:World} {K:PySem.W.Frag} {mg:Str→Option Value} {base:Heap} {N:List Str} {qual:Str} {scope:Scope} {f:Addr} {cd:Value} {A:Around} {outer:List Env} {s:Shared} {H H':Hp} {E:XK}
theorem HOk.of_fly {h h' B:Heap}(x:HOk P w H' h)(k:B.StaysIn h)(k':B.StaysIn h')(tr:∀b u,H' b=some u→∃o,B.get? b=some o):HOk P w H' h':=fun a o e=>by
 refine(x a o e).stay (fun b u hb q=>?_) (fun _ q=>q) (fun _ _ q=>q) fun _ _ _ q=>q
 have:∃u,H' b=some u:=by
  rcases hb with rfl | hb
  ·exact⟨_,e⟩
  ·exact⟨_,hb⟩
 obtain⟨v,hv⟩:=this
 obtain⟨o',ho⟩:=tr b v hv
 have:=k b o' ho
 rw[q] at this;cases this
 exact k' b _ ho
theorem Inv.old {X:Cx}{pins:List (Addr×Obj)}{σ:St}{H1:Hp}{s1:Shared}(I:Inv X pins σ H1 s1){b:Addr}{o:Obj}(e:X.s₀.heap.get? b=some o):b≠X.env.locals:=xjT (xjP (Heap.lt_size e) I.ok.above)
theorem bG {env:Env}{L:Addr}(hf:env.frame=some L)(l:List Env):frs (env::l)=L::frs l:=by unfold frs;rw[xiH,hf]
theorem xct {X:Cx}(hst:X.stack=X.env::X.outer)(hfr:X.env.frame=some X.env.locals)(hex:X.ex=[])
  (hxe:∀e s',wpAny (model X.prog X.w) X.A (leaving X.env e) (fun _ s''=>CXE X.prog X.w X.outer X.H₀ X.s₀ E e s'') (fun e' s''=>CXE X.prog X.w X.outer X.H₀ X.s₀ E e' s'') s'→X.xe e s'):ft (CXE X.prog X.w) X E:=by
 intro pins σ H1 s1 e s' I h
 obtain⟨ea,C,H2,rfl,⟨os,bare,un,hok,B,t,fl,kB,tB,trB⟩,q⟩:=h
 have hx:∀b,b∉X.ex:=fun b z=>by rw[hex] at z;exact absurd z (by simp)
 have ne:∀b o,X.s₀.heap.get? b=some o→b∉frs X.outer→b∉frs X.stack:=fun b o e nb z=>by
  rcases xjf.mp (I.stkSub b z) with z | z
  ·exact I.old e z
  ·exact nb z
 have inS:∀b,b∈frs X.outer→b∈frs X.stack:=fun b hb=>by rw[hst,bG hfr];exact xjg _ hb
 have fr:X.A.frames=some (X.env::X.outer):=by rw[←hst];exact I.ok.frames
 have fl0:=fl
 rw[hst] at fl
 refine hxe _ _ (wpAny_leaves_onW (L:=X.env.locals) fr hfr fl fun h' fl' up=>⟨ea,C,H2,rfl,⟨os.trans I.os,bare,?_,hok.of_fly fl.1 fl'.1 trB,B,t,fl',fun b o e n nb=>?_,fun b o e nb=>?_,trB⟩,q⟩)
 ·refine⟨fun b o e n nb _=>?_,fun b o e n hb _=>?_,fun b o e n _=>?_,fun b o e _=>?_,fun b xs e=>un.tups b xs (I.base.tups b xs e),fun b o u e=>un.frzs b o u (I.base.frzs b o u e),fun b ps e=>?_⟩
  ·exact fl'.1 b o (kB b o (I.base.keep b o e n nb (hx b)) (I.base.free b o e n (hx b)) (ne b o e nb))
  ·obtain⟨sl,e1⟩:=I.base.slot b o e n hb (hx b)
   obtain⟨sl2,e2⟩:=un.slot b _ e1 (I.base.free b o e n (hx b)) (inS b hb) (by simp)
   obtain⟨_,o',ho',hnf⟩:=I.ok.funs.mem hb
   rw[e] at ho';cases ho'
   obtain⟨sl3,e3⟩:=up b _ e2 hnf
   exact⟨sl3,e3⟩
  ·obtain⟨o',e1⟩:=I.base.there b o e (hx b)
   exact un.free b o' e1 (I.base.free b o e n (hx b)) (by simp)
  ·by_cases nb:b∈frs X.outer
   ·have n:X.H₀ b=none:=I.ok.frf b nb
    obtain⟨_,o3,ho3,hnf⟩:=I.ok.funs.mem nb
    rw[e] at ho3;cases ho3
    obtain⟨sl,e1'⟩:=I.base.slot b o e n nb (hx b)
    obtain⟨sl2,e2'⟩:=un.slot b _ e1' (I.base.free b o e n (hx b)) (inS b nb) (by simp)
    obtain⟨sl3,e3⟩:=up b _ e2' hnf
    exact⟨_,e3⟩
   ·obtain⟨o',e1⟩:=I.base.there b o e (hx b)
    obtain⟨o2,e2⟩:=tB b o' e1 (ne b o e nb)
    exact⟨o2,fl'.1 b o2 e2⟩
  ·obtain⟨m1,e1⟩:=I.base.tbls b ps e
   obtain⟨m2,e2⟩:=un.tbls b _ e1
   exact⟨m1++m2,by rw[e2,Array.append_assoc]⟩
 ·exact kB b o (I.base.keep b o e n nb (hx b)) (I.base.free b o e n (hx b)) (ne b o e nb)
 ·obtain⟨o',e1⟩:=I.base.there b o e (hx b)
  exact tB b o' e1 (ne b o e nb)
theorem xcg:ft (CXE P w) (gc (CXE P w) P w K mg base N qual scope f cd A outer s H E) E:=xct rfl rfl rfl fun _ _ h=>h
theorem xeN {pins:List (Addr×Obj)}{σ:St}{H1:Hp}{s1:Shared}{h1:Heap}{ea C:Addr}{vs:List Value}(I:Inv (gc (CXE P w) P w K mg base N qual scope f cd A outer s H E) pins σ H1 s1)(hm:Heap.MadeExcOf s1.heap h1 ea (.ref C) vs)(q:E (.ref C) none H1) :
  (gc (CXE P w) P w K mg base N qual scope f cd A outer s H E).xe (.ref ea) { s1 with heap:=h1 }:=by
 have hx:∀b,b∉(gc (CXE P w) P w K mg base N qual scope f cd A outer s H E).ex:=fun b z=>absurd (show b∈([]:List Addr) from z) (by simp)
 let fs:=frs (gc (CXE P w) P w K mg base N qual scope f cd A outer s H E).stack
 have ne:∀b o,s.heap.get? b=some o→b∉frs outer→b∉fs:=fun b o e nb z=>by
  rcases xjf.mp (I.stkSub b z) with z | z
  ·exact I.old e z
  ·exact nb z
 have hB:(PySem.W.hideAll s1.heap fs).StaysIn s1.heap:=fun b o e=>PySem.W.of_hideAll _ e
 have inB:∀b o,s1.heap.get? b=some o→b∉fs→(PySem.W.hideAll s1.heap fs).get? b=some o:=fun b o e n=>PySem.W.hideAll_get _ e n
 show wpAny (model P w) _ (leaving _ (.ref ea)) _ _ _
 refine wpAny_leaves_madeW (base:=PySem.W.hideAll s1.heap fs) (h:=s1.heap) (L:=s.heap.objs.size) I.ok.frames rfl hB (PySem.W.funFrames_hide I.stack fun env he b hb=>xjj.mpr ⟨env,he,hb⟩) hm
  fun h' t fl _ _ up=>⟨ea,C,H1,rfl,⟨I.os,I.bare,?_,?_,_,t,fl,fun b o e n nb=>?_,fun b o e nb=>?_,fun b u e=>?_⟩,q⟩
 ·refine⟨fun b o e n nb _=>?_,fun b o e n hb _=>?_,fun b o e n _=>?_,fun b o e _=>?_,I.base.tups,I.base.frzs,I.base.tbls⟩
  ·exact fl.1 b o (inB b o (I.base.keep b o e n nb (hx b)) (ne b o e nb))
  ·obtain⟨sl,e1⟩:=I.base.slot b o e n hb (hx b)
   obtain⟨_,o',ho',hnf⟩:=I.ok.funs.mem hb
   have ho':s.heap.get? b=some o':=ho'
   rw[e] at ho';cases ho'
   obtain⟨sl3,e3⟩:=up b _ (hm.keeps b _ e1) hnf
   exact⟨sl3,e3⟩
  ·exact I.base.free b o e n (hx b)
  ·by_cases nb:b∈frs outer
   ·have n:H b=none:=I.ok.frf b nb
    obtain⟨sl,e1⟩:=I.base.slot b o e n nb (hx b)
    obtain⟨_,o',ho',hnf⟩:=I.ok.funs.mem nb
    have ho':s.heap.get? b=some o':=ho'
    rw[e] at ho';cases ho'
    obtain⟨sl3,e3⟩:=up b _ (hm.keeps b _ e1) hnf
    exact⟨_,e3⟩
   ·obtain⟨o',e1⟩:=I.base.there b o e (hx b)
    exact⟨o',fl.1 b o' (inB b o' e1 (ne b o e nb))⟩
 ·refine I.hok.of_fly hB fl.1 fun b u e=>?_
  obtain⟨o,ho⟩:=(I.hok b u e).get
  exact⟨o,inB b o ho fun z=>by rw[I.stkFree b z] at e;cases e⟩
 ·exact inB b o (I.base.keep b o e n nb (hx b)) (ne b o e nb)
 ·obtain⟨o',e1⟩:=I.base.there b o e (hx b)
  exact⟨o',inB b o' e1 (ne b o e nb)⟩
 ·obtain⟨o,ho⟩:=(I.hok b u e).get
  exact⟨o,inB b o ho fun z=>by rw[I.stkFree b z] at e;cases e⟩
def xcs (E:XK)(C:Addr)(t:TA):TS:=fun _ σ H=>t σ H fun vs H1=>vs.length≤sizeLine∧E (.ref C) none H1
theorem cU {x:Str}{C:Addr}{e₀:Expr}{rest:List Expr}{np cpos pos:Pos}{t:TA}{bm:List Value}(O:OwnCls x C bm "ValueError.__new__" mg base)(FB:ExcBaseFacts "ValueError" "ValueError.__new__" "ValueError.__init__" bm)
  (ha:PA (gc (CXE P w) P w K mg base N qual scope f cd A outer s H E) (e₀::rest) t)
  (hg:Gl (gc (CXE P w) P w K mg base N qual scope f cd A outer s H E) x:=by rfl) (hdb:(x == ("__debug__" : Str))=false:=by decide)
  (he:starEach (e₀::rest) (gc (CXE P w) P w K mg base N qual scope f cd A outer s H E).env=(false,eval e₀ (gc (CXE P w) P w K mg base N qual scope f cd A outer s H E).env)::starEach rest (gc (CXE P w) P w K mg base N qual scope f cd A outer s H E).env:=by rfl)
  (hpl:(backTo cpos (starEach rest (gc (CXE P w) P w K mg base N qual scope f cd A outer s H E).env)).any (·.1)=false:=by rfl) :
  PS (gc (CXE P w) P w K mg base N qual scope f cd A outer s H E) (.Raise (some (.Call (.Name x np) (e₀::rest) [] cpos)) none pos) (xcs E C t):=by
 intro pins s1 σ H1 D I h
 obtain⟨tl,N',nm,q,bs,hdct,sn,sub,ab,col,dd,k0,k1,k2,k3,k5,mN,hC,hN,hni,T⟩:=O.obj
 refine wpAny_Raise_call_subT (C:=C) (nm:=nm) (q:=q) (N:=N') (bs:=bs) (bm:=tl) (hdct:=hdct) (sn:=sn) (sub:=sub) (ab:=ab) (col:=col) (dd:=dd) (k0:=k0) (k1:=k1) (k2:=k2) (k3:=k3) (k5:=k5)
  FB (mN:=mN) (T.hasType FB.hasBase) (I.ok.hd rfl) (by rw[he];show(false || (backTo cpos (starEach rest _)).any (·.1))=false;rw[hpl];rfl) hni (gT I hg O.bound ⟨rfl,?_⟩ hdb)
 have h2:=@ha cpos pins s1 σ H1 _ I h
 rw[he] at h2 ⊢
 refine Calls.evalArgs_plain (wpAny_mono h2 (fun us s2 ⟨vs,H2,I2,r,z,q⟩=>⟨rfl,by rw[←r.length];exact z,I2.bk _ _ hC,hN.keeps I2.bk,T.keeps I2.bk,fun h' e hm=>xeN I2 hm q⟩) fun _ _ y=>y)
structure cj (P:Program)(w:World)(K:PySem.W.Frag)(mg:Str→Option Value)(base:Heap)(k:Nat)(x:Str)(ps:List Str)(sp:Sp):Prop where
 ex:∃(f:Addr) (fd:FuncData),dz P w K mg base (CXE P w) k f fd ps sp∧Binds K fd ps []∧PySem.W.keepIn K (.ref f)=true∧mg x=some (.ref f)
theorem cj.mono {j k:Nat}{x:Str}{ps:List Str}{sp:Sp}(h:cj P w K mg base j x ps sp)(hjk:j≤k):cj P w K mg base k x ps sp:=by
 obtain⟨f,fd,F,b,kp,m⟩:=h.ex
 exact⟨f,fd,F.mono hjk,b,kp,m⟩
end
def xdS (sp:Sp)(E:XK)(t:TA):TE:=fun σ H Q=>t σ H fun vs H1=>sp vs H1 Q E
theorem fk {X:Cx}{k j:Nat}{x:Str}{ps:List Str}{sp:Sp}{E:XK}{p pos:Pos}{e:Expr}{es:List Expr}{t:TA}(h:cj X.prog X.w X.K X.mg X.base j x ps sp)(hr:qZ k X.A)(hx:ft (CXE X.prog X.w) X E)(ha:PA X (e::es) t)(hjk:j≤k:=by decide)(hg:Gl X x:=by rfl)
  (hdb:(x == ("__debug__" : Str))=false:=by decide) (he:starEach (e::es) X.env=(false,eval e X.env)::starEach es X.env:=by rfl) (hpl:(backTo pos (starEach es X.env)).any (·.1)=false:=by rfl) :
  PE X (.Call (.Name x p) (e::es) [] pos) (xdS sp E t):=by
 obtain⟨f,fd,F,b,kp,m⟩:=(h.mono hjk).ex
 intro pins s σ H Q I q
 refine xah (E:=E) F hr hg m kp b .nil hx ha hdb he hpl s σ H Q I ?_
 have e:(fun(vs:List V) (H1:Hp)=>sp (vs++[]) H1 Q E)=fun vs H1=>sp vs H1 Q E:=by
  funext vs H1;rw[xiz]
 show t σ H fun vs H1=>sp (vs++[]) H1 Q E
 rw[e];exact q
theorem uR {X:Cx}{b:List Stmt}:PSs X b cG:=fun _ _ _ _ _ _ h=>h.elim
theorem xdc {P:Program}{w:World}{K:PySem.W.Frag}{mg:Str→Option Value}{base:Heap}{k:Nat}{x qual:Str}{st:Stmt}{f:Addr}{fd:FuncData}{N ps:List Str}{sp:Sp}(F:Fun K x qual st f fd)(S:xA N ps (xh st))(mgx:mg x=some (.ref f))(b:Binds K fd ps [])
  (len:∀vs H Q E,sp vs H Q E→vs.length=ps.length)
  (body:∀(cdv:Value) (A:Around) (outer:List Env) (s:Shared) (H:Hp) (vs:List V) (Q:VK) (E:XK),qZ k (A.deeper (envOfC qual (xh st) s.heap.objs.size f cdv))→sp vs H Q E →
   ∃t,PSs (gc (CXE P w) P w K mg base N qual (xh st) f cdv A outer s H E) (yQ st) t∧t { nx:=fun _ H'=>Q .non H',rt:=Q } (start N vs) H):cj P w K mg base (k+1) x ps sp:=by
 have kp:=F.kp
 obtain⟨oc,od,kV,doc,pm,an,cdv,ct,osl,rfl,lk,hcd⟩:=F.ex
 exact⟨f,_,xbO lk hcd S len fun A outer s H vs Q E hr hsp=>body cdv A outer s H vs Q E hr hsp,b,kp,mgx⟩
end L2
namespace L2
open PySem PySem.Spec PySem.Calls PyProof.Rows
structure ng (K:PySem.W.Frag)(C:Addr):Prop where
 ga:PySem.W.findIn K (.ref C) "__getattribute__" = some (some (.builtin "BaseException.__getattribute__"))
 gt:PySem.W.findIn K (.ref C) "__getattr__" = some none
 cl:PySem.W.findIn K (.ref C) "__class__" = some (some (.builtin "object.__class__"))
 sp:PySem.W.specialIn K (.builtin "object.__class__") "__get__" = some (some (.builtin "getset_descriptor.__get__"))
 tk:PySem.W.takesIn K (.builtin "object.__class__")=some true
 mo:PySem.W.mroIn K C (.type "object")=some true
 mb:PySem.W.mroIn K C (.type "BaseException")=some true
 hd:PySem.W.hasDictIn K C=true
def xb6 (a C:Addr)(h:Heap):Prop:=∃o,h.get? a=some o∧o.cls=.ref C
section
variable {prog:Program} {w:World} {A:Around} {E:Value→Shared→Prop} {s:Shared} {K:PySem.W.Frag} {ea C:Addr}
theorem xb6.ty {M:Model}{h:Heap}(I:xb6 ea C h):PySem.W.Looks M h (typeOf (.ref ea)) (.ref C):=by
 obtain⟨o,h1,h2⟩:=I
 rw[←h2]
 exact(PySem.W.Looks.ld h1).andThen .now
theorem xd0 {M:Model}{h:Heap}(Z:ng K C)(X:K.In h):PySem.W.Looks M h (Builtin.ObjectAttr.find (.ref ea) (.ref C) "__class__") (.bind (.builtin "getset_descriptor.__get__") (.builtin "object.__class__")):=by
 have l1:=PySem.W.looks_findIn (M:=M) X Z.cl
 have l2:PySem.W.Looks M h (Builtin.ObjectAttr.getOf (some (.builtin "object.__class__"))) (some (.builtin "getset_descriptor.__get__")):=PySem.W.looks_specialIn X Z.sp
 have l3:=PySem.W.looks_takesIn (M:=M) X Z.tk
 have l4:PySem.W.Looks M h (Builtin.ObjectAttr.dataDescriptor? (some (.builtin "object.__class__")) (some (.builtin "getset_descriptor.__get__"))) (some (.builtin "getset_descriptor.__get__", .builtin "object.__class__")):=l3.andThen .now
 exact l1.andThen (l2.andThen (l4.andThen (PySem.W.Looks.tag .now)))
theorem xeO {R:Result→Shared→Prop}{tp:Value}(Z:ng K C)(X:K.In s.heap)(I:xb6 ea C s.heap)(hq:R (.ok (.ret (.ref C))) s) :
  codeAny (model prog w) A (.call (.builtin "getset_descriptor.__get__") ⟨[.builtin "object.__class__", .ref ea,tp],[]⟩) R s:=by
 have l0:=I.ty (M:=model prog w)
 have l1:=PySem.W.looks_mroIn (M:=model prog w) X Z.mo
 obtain⟨hh,gg,dd,tt,oo⟩:=s
 refine codeAny_call_builtin PySem.W.KF.slot_gs.plain PySem.W.KF.entry_gs ?_
 refine PySem.W.KF.slot_gs.check _ _ _ _ _ _ _ _ PySem.W.KF.type_class (PySem.W.KF.args_gs _ _ _) ?_
 unfold Builtin.«getset_descriptor.__get__» Builtin.Getset_descriptor.descrGet
 rw[PySem.W.dga_obj]
 refine wpAny_bind (wpAny_pure ?_)
 unfold Builtin.Getset_descriptor.descrGetter Builtin.Getset_descriptor.descrCheckInstance Builtin.Getset_descriptor.descrNameAndClass isInstance
 simp only[PySem.W.KF.owner_class]
 repeat lk
 refine⟨Code.quiet_builtin _ (by decide +kernel),?_⟩
 refine codeAny_builtin PySem.W.KF.entry_class ?_
 unfold Builtin.«object.__class__» shownTypeOf
 repeat lk
 exact hq
theorem xbt {tk:Tok}{Q:Fin→Shared→Prop}(Z:ng K C)(X:K.In s.heap)(I:xb6 ea C s.heap)(hq:Q (.done (.ret (.ref C))) s) :
  wpAny (model prog w) A (Builtin.«object.__getattribute__» ⟨[.ref ea,.str "__class__" tk],[]⟩) Q E s:=by
 obtain⟨h,g,d,t,os⟩:=s
 have L0:=I.ty (M:=model prog w)
 have L1:=xd0 (M:=model prog w) (ea:=ea) Z X
 unfold Builtin.«object.__getattribute__»
 refine wpAny_bind (wpAny_pure ?_)
 refine wpAny_bind (wpAny_pure ?_)
 refine wpAny_bind (L0.at ?_)
 refine wpAny_bind (L1.at ?_)
 show wpAny _ _ (holding [Value.builtin "object.__class__"] (call (.builtin "getset_descriptor.__get__") [.builtin "object.__class__", .ref ea,.ref C]) >>= ret) _ _ _
 refine wpAny_bind (wpAny_holding (wpAny_call (xeO Z X I ?_)))
 exact wpAny_pure hq
theorem xcb {nameV:Value}{Q:Unit→Shared→Prop}(Z:ng K C)(X:K.In s.heap)(I:xb6 ea C s.heap)(hq:Q () s):wpAny (model prog w) A (checkBuiltinCall "BaseException.__getattribute__" ⟨[.ref ea,nameV],[]⟩) Q E s:=by
 have b1:builtinKind "BaseException.__getattribute__" = some .slot:=by decide +kernel
 have b2:splitId "BaseException.__getattribute__" = some ("BaseException", "__getattribute__"):=by decide +kernel
 have b3:=F.args_bexc_ga (.ref ea) nameV
 have L0:=I.ty (M:=model prog w)
 have L1:PySem.W.Looks (model prog w) s.heap (isInstance (.ref ea) (.type "BaseException")) true:=L0.andThen (PySem.W.looks_mroIn (M:=model prog w) X Z.mb)
 obtain⟨h,g,d,t,os⟩:=s
 simp only[checkBuiltinCall,b1,b2]
 refine wpAny_bind (L1.at ?_)
 repeat (first | exact hq | wp_step)
theorem xd3 {tk:Tok}{R:Result→Shared→Prop}(Z:ng K C)(X:K.In s.heap)(I:xb6 ea C s.heap)(hq:R (.ok (.ret (.ref C))) s) :
  codeAny (model prog w) A (.call (.builtin "BaseException.__getattribute__") ⟨[.ref ea,.str "__class__" tk],[]⟩) R s :=
 codeAny_call_builtin F.attr_ValueError.ga.plain F.entry_bexc_ga (xcb Z X I (xbt Z X I hq))
theorem xbD {Q:Option Value→Shared→Prop}(Z:ng K C)(X:K.In s.heap)(I:xb6 ea C s.heap)(h:Q (some (.ref C)) { s with toks:=s.toks+1 }):wpAny (model prog w) A (getAttr? (.ref ea) "__class__") Q E s:=by
 obtain⟨hh,g,d,t,os⟩:=s
 have L0:=I.ty (M:=model prog w)
 have L1:=PySem.W.looks_findIn (M:=model prog w) X Z.ga
 have L2:=PySem.W.looks_findIn (M:=model prog w) X Z.gt
 unfold getAttr? getAttrBy? getAttrBy
 refine wpAny_bind (wpAny_mkText (wpAny_bind (wpAny_attempt (wpAny_holding ?_))))
 refine wpAny_bind (L0.at (wpAny_bind (L1.at ?_)))
 show wpAny _ _ (getAttrByItsOwn _ _ _ _ _ _) _ _ _
 unfold getAttrByItsOwn
 refine wpAny_bind (L2.at ?_)
 refine wpAny_bind (wpAny_attempt (wpAny_holding ?_))
 show wpAny _ _ (boundAndCalled _ _ _) _ _ _
 unfold boundAndCalled
 rw[F.attr_ValueError.ga.bind (.ref ea)]
 refine wpAny_bind (wpAny_pure (wpAny_call (xd3 (s:=⟨hh,g,d,t+1,os⟩) Z X I ?_)))
 exact PySem.W.handed_on rfl (wpAny_pure h)
theorem xbk (Z:ng K C):PySem.W.KitX K (.ref ea) (.ref C) (xb6 ea C):=by
 have there:∃c d cd sl,K.lookup C=some ⟨c,d,.cls cd,sl⟩:=by
  obtain⟨cdD,hcD,_⟩:=PySem.W.any_some Z.hd
  unfold PySem.W.clsIn at hcD
  split at hcD
  ·rename_i ho
   exact⟨_,_,_,_,ho⟩
  ·cases hcD
 obtain⟨c,d,cd,sl,ho⟩:=there
 refine⟨fun _ _ _ I=>I.ty,fun _ _ X _ A' Q' E' s' k q=>?_,fun h tp dd its n sl' X htp=>?_,fun X I k=>xbD Z X I k⟩
 ·unfold isType loadHead
  exact wpAny_bind (wpAny_loadPart (k _ _ (X _ _ ho)) (wpAny_pure q))
 ·refine Bool.eq_false_iff.mpr fun q=>?_
  have e:C=tp:=Value.ref.inj (beq_iff_eq.mp q)
  subst e
  have z:=(X _ _ ho).symm.trans htp
  cases z
end
end L2
namespace L2
open PySem PySem.Spec PySem.Calls PyProof.Rows
section
variable {P:Program} {w:World}
theorem xet {st:List Env}{H H':Hp}{s s':Shared}{B h':Heap}(un:Un (frs st) [] H H' s.heap s'.heap)(kB:∀b o,s.heap.get? b=some o→H b=none→b∉frs st→B.get? b=some o)
  (tB:∀b o,s.heap.get? b=some o→b∉frs st→∃o',B.get? b=some o') (hff:s'.heap.FunFrames B st) (hB:B.StaysIn h') (up:s'.heap.UpToSlots h'):Un (frs st) [] H H' s.heap h' where
 keep:=fun b o e n nb _=>hB b o (kB b o e n nb)
 slot:=fun b o e n hb hx=>by
  obtain⟨sl,e1⟩:=un.slot b o e n hb hx
  obtain⟨_,o',ho',hnf⟩:=hff.mem hb
  rw[e1] at ho';cases ho'
  obtain⟨sl2,e2⟩:=up b _ e1 hnf
  exact⟨sl2,e2⟩
 free:=un.free
 there:=fun b o e hx=>by
  by_cases nb:b∈frs st
  ·obtain⟨_,o',ho',hnf⟩:=hff.mem nb
   obtain⟨sl2,e2⟩:=up b _ ho' hnf
   exact⟨_,e2⟩
  ·obtain⟨o2,e2⟩:=tB b o e nb
   exact⟨o2,hB b o2 e2⟩
 tups:=un.tups
 frzs:=un.frzs
 tbls:=un.tbls
variable {X:Cx} {pins:List (Addr×Obj)} {σ:St} {H H':Hp} {s s':Shared} {ea C:Addr}
theorem Inv.pinX {p:Addr×Obj}(I:Inv X pins σ H s)(h1:s.heap.get? p.1=some p.2)(h2:H p.1=none)(h3:p.1≠X.env.locals)(h4:p.1∉X.fs)(h5:∀v,p.2.data≠.cell v):Inv X (p::pins) σ H s :=
 ⟨I.ok,I.os,I.bare,I.base,I.loc,I.cell,I.free,I.freeC,fun q hq=>by
  rcases xjc.mp hq with z | z
  ·exact I.pin q (xjd _ z)
  ·rcases xjf.mp z with rfl | z
   ·exact⟨h1,h2,h3,h4,h5⟩
   ·exact I.pin q (xje _ z),I.hok,I.len⟩
abbrev Cx.marked (X:Cx)(e:Value):Cx:={ X with A:=X.A.mark (some e),calm:=false,xe:=fun _ _=>False }
theorem Inv.marked {e:Value}(I:Inv X pins σ H s):Inv (X.marked e) pins σ H s :=
 ⟨⟨I.ok.mod,I.ok.kind,I.ok.glob,I.ok.blt,I.ok.above,I.ok.inj,I.ok.has,I.ok.cab,(fun z=>nomatch z),I.ok.frames,I.ok.stk,I.ok.exf,I.ok.bs,I.ok.bsz,I.ok.noex,I.ok.exfs,I.ok.funs,I.ok.frf⟩,
  I.os,I.bare,I.base,I.loc,I.cell,I.free,I.freeC,I.pin,I.hok,I.len⟩
theorem Inv.unmarked {e:Value}(I:Inv (X.marked e) pins σ H s)(hd:X.calm=true→X.A.handled=none):Inv X pins σ H s :=
 ⟨⟨I.ok.mod,I.ok.kind,I.ok.glob,I.ok.blt,I.ok.above,I.ok.inj,I.ok.has,I.ok.cab,hd,I.ok.frames,I.ok.stk,I.ok.exf,I.ok.bs,I.ok.bsz,I.ok.noex,I.ok.exfs,I.ok.funs,I.ok.frf⟩,
  I.os,I.bare,I.base,I.loc,I.cell,I.free,I.freeC,I.pin,I.hok,I.len⟩
theorem Inv.nsX {h':Heap}{t':Nat}{m':Str→Option Value}{σ':St}(I:Inv X pins σ H s)(hs:Heap.SameBut X.env.locals s.heap h')(hn:h'.Ns X.env.locals m')
  (hl:∀(i:Nat) (x:Str) (v:V),X.N[i]? = some x→σ'[i]? = some (some v)→Vis X.env.scope x→∃u,RelV v u∧Look X.env h' m' x u) (len:σ'.length=X.N.length):Inv X pins σ' H { s with heap:=h',toks:=t' }:=by
 refine⟨I.ok,I.os,I.bare,⟨fun b o e n hb hx=>?_,fun b o e n hb hx=>?_,I.base.free,fun b o e hx=>?_,I.base.tups,I.base.frzs,I.base.tbls⟩,⟨m',hn,hl⟩,fun x c e=>?_,I.free,I.freeC,fun p hp=>?_,fun a o e=>?_,len⟩
 ·exact(hs.2 b (I.old e)).trans (I.base.keep b o e n hb hx)
 ·obtain⟨sl,q⟩:=I.base.slot b o e n hb hx
  exact⟨sl,(hs.2 b (I.old e)).trans q⟩
 ·obtain⟨o',q⟩:=I.base.there b o e hx
  exact⟨o',(hs.2 b (I.old e)).trans q⟩
 ·obtain⟨v,o,ho,hd⟩:=I.cell x c e
  exact⟨v,o,(hs.2 c (I.cne x c e)).trans ho,hd⟩
 ·obtain⟨p1,p2,p3,p4⟩:=I.pin p hp
  exact⟨(hs.2 _ p3).trans p1,p2,p3,p4⟩
 ·refine(I.hok a o e).stay (fun b u hb q=>(hs.2 b ?_).trans q) (fun _ q=>q) (fun _ _ q=>q) fun _ _ _ q=>q
  rintro rfl
  rcases hb with rfl | hb
  ·rw[I.free] at e;cases e
  ·rw[I.free] at hb;cases hb
theorem xaE {cx n z:Str}{i j:Nat}{D:Addr}{np zp np2 ap hp:Pos}{Q:Flow→Shared→Prop}{E:Value→Shared→Prop}(hst:X.stack=X.env::X.outer)(hfr:X.env.frame=some X.env.locals)(hN:X.N.Nodup)(hi:X.N[i]? = some n)(hj:X.N[j]? = some z)
  (hn:X.env.scope.names.lookup n=some .local) (hz:Loc X.env.scope z) (hzf:X.fn z=true) (hg:Gl X cx) (hm:X.mg cx=some (.ref D)) (hx:PySem.W.exmOne X.K (.ref C) (.ref D)=some true)
  (hsw:swapsWith (.Name n np2) (some (.Name z zp)) ap.line X.env=pure false) (hdn:(n == ("__debug__" : Str))=false) (hcn:(n == ("__classdict__" : Str))=false) (hdb:(cx == ("__debug__" : Str))=false)
  (I:Inv X pins σ H s) (F:Fl X.prog X.w X.stack H s ea C H' s')
  (k:∀oe s2,Inv X ((ea,oe)::pins) (((σ.set i (some (.ref ea))).set j (some (.ref ea))).set i none) H' s2→oe.cls=.ref C→Q .next s2) :
  wpAny (model X.prog X.w) X.A (noteFrame (.ref ea) X.env) (fun _ s₂=>wpAny (model X.prog X.w) X.A (setFlight (.ref ea) none) (fun _ s₃ =>
   wpAny (model X.prog X.w) X.A (handleBy (.ref ea) X.env [.ExceptHandler (some (.Name cx np)) (some n) [.Assign [.Name z zp] (.Name n np2) ap] hp]) Q E s₃) E s₂) E s':=by
 obtain⟨os,bare,un,hok,B,t,fl,kB,tB,trB⟩:=F
 have fr:X.A.frames=some (X.env::X.outer):=by rw[←hst];exact I.ok.frames
 have fl0:=fl
 have inv:∀h,Heap.FlyingW B X.stack ea (.ref C) (.ref t) h→s'.heap.UpToSlots h→Inv X pins σ H' { s' with heap:=h }:=fun h f2 up =>
  I.call' (s':={ s' with heap:=h }) (ch:=[]) os (xet un kB tB fl0.2.2.1 f2.1 up) (hok.of_fly fl0.1 f2.1 trB) bare (fun b z=>absurd z (by simp))
 have isof:∀h,Heap.FlyingW B X.stack ea (.ref C) (.ref t) h→xb6 ea C h:=fun h f2=>f2.there
 rw[hst] at fl
 refine wpAny_looks_onW fr hfr fl fun h4 held4 up4=>?_
 refine wpAny_landsW held4 fun h5 fl5 up5=>?_
 have up45:=up4.trans up5
 have fl5':Heap.FlyingW B X.stack ea (.ref C) (.ref t) h5:=by rw[hst];exact fl5
 have I5:=inv h5 fl5' up45
 refine wpAny_handleBy_cons (codeAny_handlers_test ?_) (by intro q;cases q)
 refine gT (X:=X.marked (.ref ea)) (s:={ s' with heap:=h5 }) I5.marked hg hm ?_ hdb
 refine PySem.W.Looks.here (s:={ s' with heap:=h5 }) (PySem.W.exm_one (K:=X.K) I5.kIn (isof h5 fl5').ty hx) ?_
 show codeAny _ _ (.handlers _ _ X.env) _ _
 refine codeAny_handlers_suite_as ?_
 refine lands_againW fl5 fun h6 fl6 up6=>?_
 have fl6':Heap.FlyingW B X.stack ea (.ref C) (.ref t) h6:=by rw[hst];exact fl6
 have I6:=(inv h6 fl6' (up45.trans up6)).marked (e:=.ref ea)
 have hea:H' ea=none:=by
  cases q:H' ea with
  | none=>rfl
  | some u =>
   obtain⟨o,ho⟩:=trB ea u q
   rw[fl0.2.1] at ho;cases ho
 obtain⟨oe,vs,hoe,hcl,hda,_⟩:=fl6'.first
 have nL:ea≠X.env.locals:=fun q=>by
  obtain⟨m,⟨o,es,ep,ho,hd',_⟩,_⟩:=I6.loc
  have ho:h6.get? X.env.locals=some o:=ho
  rw[←q,hoe] at ho;cases ho;rw[hda] at hd';cases hd'
 have nF:ea∉X.fs:=fun q=>by
  have q2:ea∈frs X.stack:=by rw[hst,bG hfr];exact xjg _ q
  obtain⟨_,o,ho,hnf⟩:=fl6'.2.2.1.mem q2
  rw[hoe] at ho;cases ho;exact hnf vs hda
 have I6p:Inv (X.marked (.ref ea)) ((ea,oe)::pins) σ H' { s' with heap:=h6 }:=Inv.pinX (p:=(ea,oe)) I6 hoe hea nL nF (fun v q=>by rw[hda] at q;cases q)
 refine jt (X:=X.marked (.ref ea)) (i:=i) (v:=.ref ea) I6p hN hi (.inl hn) rfl (fun s7 I7=>?_) (.inr hn)
 have il:i<σ.length:=by rw[I.len];exact(xiR.mp hi).1
 have ps:PSs (X.marked (.ref ea)) [.Assign [.Name z zp] (.Name n np2) ap] _:=xj (u5 (X:=X.marked (.ref ea)) (i:=j) hN hj hz (xcY (X:=X.marked (.ref ea)) (i:=i) hi (.inl hn) hdn hcn) hsw (.inl hzf))
 refine wpAny_mono (ps s7 _ H' { nx:=fun σ2 H2=>σ2=(σ.set i (some (.ref ea))).set j (some (.ref ea))∧H2=H',rt:=fun _ _=>False } I7 ⟨.ref ea,by rw[xiU il],rfl,rfl⟩) (fun f s8 h8=>?_) (fun _ _ z=>z.elim)
 cases f with
 | ret u=>obtain⟨_,_,_,_,_,z⟩:=h8;exact z.elim
 | brk=>obtain⟨_,_,_,z⟩:=h8;exact z.elim
 | cont=>obtain⟨_,_,_,z⟩:=h8;exact z.elim
 | next =>
  obtain⟨σ2,H2,I8,rfl,rfl⟩:=h8
  have I8:=I8.unmarked I.ok.hd
  obtain⟨m,hm8,hl8⟩:=id I8.loc
  show wpAny _ _ (do bindName X.env n .none;unbindBehindTheSuite X.env n hp) _ _ s8
  refine wpAny_nameGoes_keeps hn hm8 (by rw[I.ok.kind];rfl) fun h9 v9 hn9 hs9=>?_
  refine k oe _ (I8.nsX hs9 hn9 (fun a x v e1 e2 e3=>?_) (by rw[xi4];exact I8.len)) hcl
  have na:a≠i:=fun q=>by
   subst q
   rw[xiU (by rw[xi4,xi4];exact il)] at e2
   cases e2
  rw[xiT (Ne.symm na)] at e2
  obtain⟨u,r,l⟩:=hl8 a x v e1 e2 e3
  refine⟨u,r,?_⟩
  have nx:x≠n:=fun q=>by subst q;exact na (aY hN e1 hi)
  rcases l with ⟨q1,q2⟩ | ⟨q1,c,q2,o,q3,q4⟩
  ·exact .inl ⟨q1,by show(if x=n then v9 else m x)=some u;rw[if_neg nx];exact q2⟩
  ·exact .inr ⟨q1,c,q2,o,(hs9.2 c (I8.cne x c q2)).trans q3,q4⟩
end
end L2
namespace L2
open PySem PySem.Spec PySem.Calls PyProof.Rows
section
variable {X:Cx} {pins:List (Addr×Obj)} {σ:St} {H H':Hp} {s s':Shared} {ea C:Addr}
abbrev Cx.knows (X:Cx)(p:Addr×Obj):Cx:={ X with pn:=p::X.pn }
theorem Inv.knows {p:Addr×Obj}(I:Inv X (p::pins) σ H s):Inv (X.knows p) pins σ H s :=
 ⟨⟨I.ok.mod,I.ok.kind,I.ok.glob,I.ok.blt,I.ok.above,I.ok.inj,I.ok.has,I.ok.cab,I.ok.hd,I.ok.frames,I.ok.stk,I.ok.exf,I.ok.bs,I.ok.bsz,I.ok.noex,I.ok.exfs,I.ok.funs,I.ok.frf⟩,
  I.os,I.bare,I.base,I.loc,I.cell,I.free,I.freeC,fun q hq=>I.pin q (by
   rcases xjf.mp (show q∈p::(X.pn++pins) from hq) with z | z
   ·exact xje _ (by rw[z];exact xjh)
   ·rcases xjc.mp z with z | z
    ·exact xjd _ z
    ·exact xje _ (xjg _ z)),I.hok,I.len⟩
theorem Inv.unknows {p:Addr×Obj}(I:Inv (X.knows p) pins σ H s):Inv X pins σ H s :=
 ⟨⟨I.ok.mod,I.ok.kind,I.ok.glob,I.ok.blt,I.ok.above,I.ok.inj,I.ok.has,I.ok.cab,I.ok.hd,I.ok.frames,I.ok.stk,I.ok.exf,I.ok.bs,I.ok.bsz,I.ok.noex,I.ok.exfs,I.ok.funs,I.ok.frf⟩,
  I.os,I.bare,I.base,I.loc,I.cell,I.free,I.freeC,fun q hq=>I.pin q (xjg _ hq),I.hok,I.len⟩
theorem SP.unknows {p:Addr×Obj}{D:Ends}{f:Flow}(h:SP (X.knows p) pins D f s):SP X pins D f s:=by
 cases f with
 | next=>obtain⟨a,b,I,q⟩:=h;exact⟨a,b,I.unknows,q⟩
 | brk=>obtain⟨a,b,I,q⟩:=h;exact⟨a,b,I.unknows,q⟩
 | cont=>obtain⟨a,b,I,q⟩:=h;exact⟨a,b,I.unknows,q⟩
 | ret u=>obtain⟨v,a,b,I,r,q⟩:=h;exact⟨v,a,b,I.unknows,r,q⟩
def xf1 (ea:Addr)(c:V)(b:Bool)(xs:List V)(H:Hp)(Q:VK):Prop:=xs=[.ref ea,c]∧Q (.bl b) H
theorem bS {oe:Obj}{c:V}{b:Bool}(hp:(ea,oe)∈X.pn)(hc:oe.cls=.ref C)(Z:ng X.K C)(e:∀u,RelV c u→PySem.W.kitOne X.K (.ref C) u=some b):vJ X (.builtin "isinstance") (xf1 ea c b):=by
 intro pins s σ H xs us Q I r h
 obtain⟨rfl,q⟩:=h
 cases r with
 | cons r1 r2 =>
  cases r2 with
  | cons r2 r3 =>
   cases r3
   rename_i u1 u2
   cases (show u1=Value.ref ea from r1)
   exact PySem.W.kia_one (xbk Z) I.kIn ⟨oe,(I.pin _ (xjd _ hp)).1,hc⟩ (e _ r2) (fun z=>nomatch z) fun tk=>⟨.bl b,H,I.tok tk,rfl,q⟩
theorem xc6 {cx n z y:Str}{i j c:Nat}{D g:Addr}{np zp np2 ap hp yp cp ep tp:Pos}{rest:List Stmt}{trest:Addr→Obj→TS}{LP:Hp→Prop}{KX:Hp→Hp→Prop}(hst:X.stack=X.env::X.outer)(hfr:X.env.frame=some X.env.locals)(hN:X.N.Nodup)
  (hi:X.N[i]? = some n) (hj:X.N[j]? = some z) (hc:X.N[c]? = some y) (hn:X.env.scope.names.lookup n=some .local) (hz:Loc X.env.scope z) (hy:Vis X.env.scope y) (hzf:X.fn z=true) (hg:Gl X cx) (hm:X.mg cx=some (.ref D)) (hx:PySem.W.exmOne X.K (.ref C) (.ref D)=some true)
  (hsw:swapsWith (.Name n np2) (some (.Name z zp)) ap.line X.env=pure false) (hdn:(n == ("__debug__" : Str))=false) (hcn:(n == ("__classdict__" : Str))=false) (hdb:(cx == ("__debug__" : Str))=false)
  (hdy:(y == ("__debug__" : Str))=false) (hcy:(y == ("__classdict__" : Str))=false) (hsy:swapsWith (.Call (.Name y yp) [] [] cp) none ep.line X.env=pure false)
  (hfn:PySem.W.FnAt g X.base) (hcall:∀pins σ H s,Inv X pins σ H s→LP H→codeAny (model X.prog X.w) X.A (.call (.ref g) ⟨[],[]⟩) (CR (CXE X.prog X.w) X.stack X.prog X.w H s (fun _ _=>False) fun k _ H'=>k=.ref C∧KX H H') s)
  (hrest:∀ea oe,oe.cls=.ref C→PSs (X.knows (ea,oe)) rest (trest ea oe)) :
  PSs X (.Try [.Expr (.Call (.Name y yp) [] [] cp) ep] [.ExceptHandler (some (.Name cx np)) (some n) [.Assign [.Name z zp] (.Name n np2) ap] hp] [] [] tp::rest)
   (fun D' σ H=>σ[c]? = some (some (.ref g))∧LP H∧∀ea oe H',KX H H'→trest ea oe D' (((σ.set i (some (.ref ea))).set j (some (.ref ea))).set i none) H'):=by
 intro pins s σ H D' I h
 obtain⟨h1,h2,h3⟩:=h
 refine wpAny_execs_cons (wpAny_Try_except ?_)
 refine wpAny_execs_cons (wpAny_Expr_any ?_ I.quiet hsy)
 refine wpAny_Call_Name_kw ?_
 have X1:X.nox=X.nox:=rfl
 obtain⟨m,hnm,hl⟩:=id I.loc
 obtain⟨u,r,l⟩:=hl c y (.ref g) hc h1 hy
 cases (show u=Value.ref g from r)
 have load:∀ {E:Value→Shared→Prop} {Q:Value→Shared→Prop},Q (.ref g) s→wpAny (model X.prog X.w) X.A (eval (.Name y yp) X.env) Q E s:=fun {E Q} q=>by
  rcases l with ⟨hk,hm'⟩ | ⟨hk,c',hc',hcell⟩
  ·exact wpAny_Name (wpAny_loadName_local I.ok.kind hk hnm hm' q) hdy
  ·rcases hk with hk | hk
   ·exact wpAny_Name (wpAny_loadName_cell I.ok.kind hk hc' hcell q) hdy
   ·exact wpAny_Name (wpAny_loadName_free I.ok.kind hk hc' hcell q hcy) hdy
 refine load ?_
 have fnS:PySem.W.FnAt g s.heap:=by
  obtain⟨oc,od,fd,sl,e⟩:=hfn
  exact⟨oc,od,fd,sl,I.bk _ _ e⟩
 refine PySem.W.callWith_F0 (first:=[]) fnS (wpAny_call (codeAny_mono (hcall pins σ H s I h2) fun r s1 hr=>?_))
 cases r with
 | ok fl =>
  cases fl with
  | ret u=>obtain⟨_,_,_,_,_,_,_,q⟩:=hr;exact q.elim
  | next=>exact hr.elim
  | brk=>exact hr.elim
  | cont=>exact hr.elim
 | error e =>
  obtain⟨ea,C',H',rfl,F,q1,q2⟩:=hr
  cases q1
  refine xaE hst hfr hN hi hj hn hz hzf hg hm hx hsw hdn hcn hdb I F fun oe s2 I2 hcl=>?_
  exact thn (hrest ea oe hcl s2 _ H' D' I2.knows (h3 ea oe H' q2)) fun f s3 q=>q.unknows
end
end L2
namespace L2
open PySem PySem.Spec PySem.Calls PyProof.Rows
def xaP (P:Program)(w:World)(K:PySem.W.Frag)(mg:Str→Option Value)(base:Heap)(N:List Str)(qual:Str)(scope:Scope)(g:Addr)(cd:Value)(cl:List (Str×Addr))(A:Around)(outer:List Env)(s:Shared)(H:Hp)(E:XK):Cx where
 prog:=P
 w:=w
 K:=K
 mg:=mg
 base:=base
 A:=A.deeper (PySem.W.envX qual scope s.heap.objs.size g cd cl)
 N:=N
 s₀:=s
 H₀:=H
 env:=PySem.W.envX qual scope s.heap.objs.size g cd cl
 outer:=outer
 stack:=PySem.W.envX qual scope s.heap.objs.size g cd cl::outer
 ex:=[]
 calm:=true
 fn:=fun _=>false
 pn:=[]
 xe:=fun e s'=>wpAny (model P w) (A.deeper (PySem.W.envX qual scope s.heap.objs.size g cd cl)) (leaving (PySem.W.envX qual scope s.heap.objs.size g cd cl) e) (fun _ s''=>CXE P w outer H s E e s'') (fun e' s''=>CXE P w outer H s E e' s'') s'
theorem sk {P:Program}{w:World}{K:PySem.W.Frag}{mg:Str→Option Value}{base:Heap}{N:List Str}{qual:Str}{scope:Scope}{g:Addr}{cd:Value}{cl:List (Str×Addr)}{A:Around}{outer:List Env}{s:Shared}{H:Hp}{E:XK} :
  ft (CXE P w) (xaP P w K mg base N qual scope g cd cl A outer s H E) E:=xct rfl rfl rfl fun _ _ h=>h
structure xfn (base:Heap)(scope:Scope)(cl:List (Str×Addr))(N:List Str)(vs:List V):Prop where
 kind:scope.kind=.function
 co:scope.isCoroutine=false
 gen:scope.isGenerator=false
 nocell:∀x∈scope.names,x.2≠.cell
 has:∀x,scope.names.lookup x=some .free→∃c,cl.lookup x=some c
 inj:∀x y c,cl.lookup x=some c→cl.lookup y=some c→x=y
 cell:∀x c,cl.lookup x=some c→∃v,base.IsCell c v
 val:∀(i:Nat) (x:Str) (v:V),N[i]? = some x→vs[i]? = some v→scope.names.lookup x=some .free∧∃c u,cl.lookup x=some c∧RelV v u∧base.IsCell c (some u)
 len:vs.length=N.length
theorem xej {P:Program}{w:World}{K:PySem.W.Frag}{mg:Str→Option Value}{base:Heap}{N:List Str}{name qual:Str}{params:Arguments}{body:Expr}{scope:Scope}{g:Addr}{cdv ct pm oc:Value}{od:Option Addr}{sl:Array (Option Value)}{cl:List (Str×Addr)}{k:Nat}{A:Around}{outer:List Env}{s:Shared}{H:Hp}{E:XK}{vs:List V}{te:TE}
  (e0:xbV P w K mg base A outer s H) (hr:qZ (k+1) A) (hobj:base.get? g=some ⟨oc,od,.func (PySem.W.kla_fn name qual params body scope cl pm cdv ct),sl⟩) (hcd:s.heap.CodeRec cdv qual)
  (hpar:bindArgs (PySem.W.kla_fn name qual params body scope cl pm cdv ct) ⟨[],[]⟩=pure []) (L:xfn base scope cl N vs)
  (hb:PE (xaP P w K mg base N qual scope g cdv cl A outer s H E) body te) (hq:te (vs.map some) H fun _ _=>False) :
  codeAny (model P w) A (.call (.ref g) ⟨[],[]⟩) (CR (CXE P w) outer P w H s (fun _ _=>False) E) s:=by
 have bk:∀b o,base.get? b=some o→s.heap.get? b=some o:=fun b o e=>(e0.bs b o e).1
 have lim:s.heap.NoLimit:=e0.mod.nolimit.keeps bk
 refine PySem.W.kla_callFunE hr.depth (bk _ _ hobj) rfl L.co L.gen rfl hcd ?_
 rw[hpar]
 refine wpAny_pure (wpAny_newFunctionEnv L.nocell (fun x hx=>absurd hx (by simp)) (fun h₁ hns hsb=>⟨lim.fresh _ hsb,?_⟩) L.kind)
 show codeAny _ _ (.expr body (PySem.W.envX qual scope s.heap.objs.size g cdv cl)) _ _
 have hk:∀b o,s.heap.get? b=some o→h₁.get? b=some o:=fun b o e=>hsb.extBut b o (xjT (Heap.lt_size e)) (Heap.get?_push_of_some _ e)
 have noA:∀b:Addr,b∉(xaP P w K mg base N qual scope g cdv cl A outer s H E).ex:=fun b z=>absurd (show b∈([]:List Addr) from z) (by simp)
 have cellK:∀c v,base.IsCell c v→h₁.IsCell c v:=fun c v ⟨o,ho,hd⟩=>⟨o,hk _ _ (bk _ _ ho),hd⟩
 have I:Inv (xaP P w K mg base N qual scope g cdv cl A outer s H E) [] (vs.map some) H { s with heap:=h₁,toks:=s.toks+([]:List (Str×Value)).length }:=by
  refine⟨⟨e0.mod,L.kind,rfl,rfl,xjK _,L.inj,fun y hy=>?_,fun y c z _=>(nomatch z),fun _=>hr.hd,Around.frames_deeper e0.frames,.inr ⟨rfl,rfl⟩,fun b z=>absurd z (noA b),e0.bs,e0.bsz,fun b _ _=>noA b,fun b z=>absurd z (noA b),e0.funs,e0.frf⟩,
   rfl,e0.bare,Un.kept hk,⟨_,hns,fun i y v h1 h2 h3=>?_⟩,fun y c h=>?_,e0.hok.fresh (xjK _),fun y c h=>?_,fun p hp=>absurd (show p∈([]:List (Addr×Obj)) from hp) (by simp),e0.hok.kept hk,by rw[xi0];exact L.len⟩
  ·rcases hy with hy | hy
   ·exact absurd rfl (L.nocell _ (PySem.mem_of_lookup hy))
   ·exact L.has y hy
  ·have hv:vs[i]? = some v:=by
    rw[xiS] at h2
    cases e:vs[i]? with
    | none=>rw[e] at h2;cases h2
    | some a=>rw[e] at h2;cases h2;rfl
   obtain⟨k1,c,u,k2,k3,k4⟩:=L.val i y v h1 hv
   exact⟨u,k3,.inr ⟨.inr k1,c,k2,cellK c _ k4⟩⟩
  ·obtain⟨v,q⟩:=L.cell y c h
   exact⟨v,cellK c v q⟩
  ·obtain⟨v,o,ho,_⟩:=L.cell y c h
   exact(e0.bs c o ho).2
 refine PySem.W.kla_codeExpr (wpAny_mono (hb _ _ H _ I hq) (fun v s' hv=>?_) fun e s' he=>he)
 obtain⟨_,_,_,_,z⟩:=hv
 exact z.elim
end L2
namespace L2
open PySem PySem.Spec PySem.Calls PyProof.Rows
theorem xdk {l m:List Value}:∀(n:Nat),l.length≤n→TriplesOk l→TriplesOk m→TriplesOk (l++m):=by
 intro n
 induction n generalizing l with
 | zero =>
  intro hn hl hm
  cases l with
  | nil=>exact hm
  | cons=>simp at hn
 | succ n ih =>
  intro hn hl hm
  unfold TriplesOk at hl
  split at hl
  ·exact hm
  ·rename_i r
   show TriplesOk (_::_::_::(r++m))
   unfold TriplesOk
   exact ih (by simp at hn;omega) hl hm
  ·exact hl.elim
theorem oJ {pos:Pos}{cv:Value}{m:List Value}:∀(n:Nat) {l:List Value},l.length≤n→TriplesOk l→codeAmong pos (l++m)=some cv→codeAmong pos l=some cv∨codeAmong pos m=some cv:=by
 intro n
 induction n with
 | zero =>
  intro l hn hl h
  cases l with
  | nil=>exact .inr h
  | cons=>simp at hn
 | succ n ih =>
  intro l hn hl h
  unfold TriplesOk at hl
  split at hl
  ·exact .inr h
  ·rename_i a b c d e r
   have h:codeAmong pos (.int a b::.int c d::e::(r++m))=some cv:=h
   unfold codeAmong at h
   split at h
   ·rename_i q
    refine .inl ?_
    unfold codeAmong
    rw[if_pos q];exact h
   ·rename_i q
    rcases ih (by simp at hn;omega) hl h with z | z
    ·refine .inl ?_
     unfold codeAmong
     rw[if_neg q];exact z
    ·exact .inr z
  ·exact hl.elim
def xdu (H:Hp)(cdv:Value)(q:Str):Prop:=∃c oc vs t,cdv=.ref c∧H c=some (.frz oc (.own c))∧oc.data=.fields vs∧vs[1]? = some (.str q t)
theorem xdu.rec {P:Program}{w:World}{H:Hp}{h:Heap}{cdv:Value}{q:Str}(x:xdu H cdv q)(ok:HOk P w H h):h.CodeRec cdv q:=by
 obtain⟨c,oc,vs,t,e1,e2,e3,e4⟩:=x
 exact⟨c,oc,vs,t,e1,(ok c _ e2).1,e3,e4⟩
abbrev cR (qual:Str)(params:Arguments)(body:Expr)(scope:Scope)(clos:List (Str×Addr))(pm cdv ct:Value):Obj:={ cls:=.type "function", data:=.func (PySem.W.kla_fn "<lambda>" qual params body scope clos pm cdv ct) }
section
variable {X:Cx} {pins:List (Addr×Obj)} {σ:St} {H:Hp} {s:Shared} {c P:Addr} {params:Arguments} {body:Expr} {scope:Scope} {pos:Pos} {clos:List (Str×Addr)} {E:Value→Shared→Prop} {Q:Value→Shared→Prop} {q:Str}
theorem xbp (I:Inv X pins σ H s)(hq:X.env.qual ++ "<lambda>" = q)(hcode:X.env.code=.ref c)(C:PySem.W.CodeHd X.base c P)(hP:H P=some (.tb q))(hgP:mainGlobals≠P)(hb:X.base.BuiltinsAt X.mg P)(hdef:defaultsOf params X.env=([],[]))(hcl:closureFor scope X.env=pure clos)
  (k:∀g H1 s1 cdv ct pm,Inv X pins σ H1 s1→(∀a o,H a=some o→H1 a=some o)→s1.heap.get? g=some (cR q params body scope clos pm cdv ct)→H1 g=none→s.heap.objs.size≤g→xdu H1 cdv q →
   (∀c o v,s.heap.get? c=some o→o.data=.cell v→H c=none→s1.heap.get? c=some o)→Q (.ref g) s1) :
  wpAny (model X.prog X.w) X.A (eval (.Lambda params body scope pos) X.env) Q E s:=by
 obtain⟨ps,hps,htri,hcodes⟩:=(show zV X.prog X.w H s.heap P (.tb q) from I.hok P _ hP)
 have hg:s.heap.Ns mainGlobals X.mg:=I.ok.mod.glob.keeps I.bk
 have hbs:s.heap.BuiltinsAt X.mg P:=by
  obtain⟨bm,o,b1,b2,b3,b4,b5,b6⟩:=hb
  exact⟨bm,o,b1,b2,b3,b4,I.bk _ _ b5,b6⟩
 have CS:PySem.W.CodeHd s.heap c P:=C.keeps I.bk
 have LP:X.env.locals≠P:=fun z=>by rw[←z,I.free] at hP;cases hP
 refine PySem.W.kla_eval hdef ?_
 rw[hq]
 cases hf:codeAmong pos ps.toList with
 | none =>
  refine PySem.W.kla_makeFunction hcl I.ok.glob hg hcode CS hps htri hf hgP hbs fun c' ctv h' tk hx hge hlt hrec htb=>?_
  obtain⟨c2,oc,vs,t,e1,e2,e3,e4⟩:=hrec
  cases e1
  have Hc:H c'=none:=I.hok.fresh hge
  have hk2:∀b o,b≠P→s.heap.get? b=some o→(h'.push (cR q params body scope clos ((X.mg "__name__").getD .none) (.ref c') ctv)).get? b=some o:=fun b o n e=>Heap.get?_push_of_some _ (hx b o n e)
  have nP:∀b,H b=none→b≠P:=fun b n z=>by rw[z,hP] at n;cases n
  have ltb:∀b o,s.heap.get? b=some o→b≠c':=fun b o e=>xjT (xjP (Heap.lt_size e) hge)
  have ext:∀a o,H a=some o→upd H c' (.frz oc (.own c')) a=some o:=fun a o e=>by rw[xN (xw e Hc)];exact e
  have Hg:upd H c' (.frz oc (.own c')) h'.objs.size=none:=by
   rw[xN (xjS hlt)]
   exact I.hok.fresh (xjM hge (xjJ hlt))
  refine k h'.objs.size (upd H c' (.frz oc (.own c'))) _ (.ref c') ctv _ ?_ ext (Heap.get?_push_size _ rfl) Hg (xjM hge (xjJ hlt)) ⟨c',oc,vs,t,rfl,xQ,e3,e4⟩ (fun a o v e _ n=>hk2 a o (nP a n) e)
  refine I.step (g':=s.gens) (d':=s.drawn) (ch:=[]) (fun b z=>absurd z (by simp)) (fun b o _ _ _ e n=>hk2 b o (nP b n) e) (fun b o _ _ _ e n=>⟨o.slots,hk2 b o (nP b n) e⟩) (fun b o _ e n=>by rw[xN (ltb b o e)];exact n)
   (fun b o _ e=>?_) (fun b xs e=>ext _ _ e) (fun b o u e=>ext _ _ e) (fun b p e=>⟨#[],by rw[ext _ _ e];simp⟩) (fun m hm=>?_) (fun b u e=>?_) I.bare
  ·by_cases z:b=P
   ·exact⟨_,by rw[z];exact Heap.get?_push_of_some _ htb⟩
   ·exact⟨o,hk2 b o z e⟩
  ·obtain⟨o,es,ep,ho,r⟩:=hm
   exact⟨o,es,ep,hk2 _ o LP ho,r⟩
  ·by_cases zc:b=c'
   ·subst zc
    rw[xQ] at e;cases e
    exact⟨Heap.get?_push_of_some _ e2,_,Heap.get?_push_of_some _ e2⟩
   ·rw[xN zc] at e
    by_cases zP:b=P
    ·subst zP
     rw[hP] at e;cases e
     refine⟨_,Heap.get?_push_of_some _ htb,?_,fun pos' cv e'=>?_⟩
     ·rw[Array.toList_append]
      exact xdk _ (xjK _) htri (by unfold TriplesOk;unfold TriplesOk;trivial)
     ·rw[Array.toList_append] at e'
      rcases oJ _ (xjK _) htri e' with z | z
      ·obtain⟨c3,o3,v3,t3,y1,y2,y3⟩:=hcodes pos' cv z
       exact⟨c3,o3,v3,t3,y1,ext _ _ y2,y3⟩
      ·have z:codeAmong pos' [rawInt pos.line,rawInt pos.col,.ref c']=some cv:=z
       unfold codeAmong rawInt at z
       dsimp only at z
       split at z
       ·cases z;exact⟨c',oc,vs,t,rfl,xQ,e3,e4⟩
       ·unfold codeAmong at z;cases z
    ·refine(I.hok b u e).stay (fun a v ha y=>hk2 a v ?_ y) (fun a y=>ext _ _ y) (fun a xs y=>ext _ _ y) fun a o u y=>ext _ _ y
     rcases ha with z | z
     ·rw[z];exact zP
     ·rintro rfl;rw[hP] at z;cases z
 | some cv =>
  refine PySem.W.kla_makeFunctionHit hcl I.ok.glob hg hcode CS hps htri hf hbs fun ctv h' tk hk hsz=>?_
  have hk2:∀b o,s.heap.get? b=some o→(h'.push (cR q params body scope clos ((X.mg "__name__").getD .none) cv ctv)).get? b=some o:=fun b o e=>Heap.get?_push_of_some _ (hk b o e)
  refine k h'.objs.size H _ cv ctv _ ?_ (fun _ _ e=>e) (Heap.get?_push_size _ rfl) (I.hok.fresh hsz) hsz (hcodes pos cv hf) (fun a o v e _ _=>hk2 a o e)
  exact I.step (g':=s.gens) (d':=s.drawn) (ch:=[]) (fun b z=>absurd z (by simp)) (fun b o _ _ _ e _=>hk2 b o e) (fun b o _ _ _ e _=>⟨o.slots,hk2 b o e⟩) (fun b o _ _ n=>n) (fun b o _ e=>⟨o,hk2 b o e⟩) (fun _ _ e=>e) (fun _ _ _ e=>e)
   (fun b p e=>⟨#[],by rw[e];simp⟩) (fun m hm=>hm.keeps hk2) (I.hok.kept hk2) I.bare
end
end L2
namespace L2
open PySem PySem.Spec PySem.Calls PyProof.Rows
def xaL (h:Heap)(H:Hp)(fs:List Addr):Heap:=PySem.W.hideAll h (trk h H++fs)
theorem ff {h:Heap}{H:Hp}{fs:List Addr}{b:Addr}{o:Obj}(e:h.get? b=some o)(n:H b=none)(nf:b∉fs):(xaL h H fs).get? b=some o:=PySem.W.hideAll_get _ e (fun z=>by
 rcases xjc.mp z with z | z
 ·obtain⟨_,z⟩:=xji.mp z
  rw[n] at z;cases z
 ·exact nf z)
theorem xbe {h:Heap}{H:Hp}{fs:List Addr}{b:Addr}{o:Obj}(e:(xaL h H fs).get? b=some o):h.get? b=some o∧H b=none:=by
 have e1:=PySem.W.of_hideAll _ e
 refine⟨e1,?_⟩
 cases q:H b with
 | none=>rfl
 | some u =>
  have:b∈trk h H++fs:=xjd _ (xji.mpr ⟨xjp.mpr (Heap.lt_size e1),by rw[q];rfl⟩)
  rw[xaL,PySem.W.hideAll_none _ this] at e;cases e
theorem Mod.keeps {K:PySem.W.Frag}{mg:Str→Option Value}{base base':Heap}(m:Mod K mg base)(k:∀b o,base.get? b=some o→base'.get? b=some o):Mod K mg base' :=
 ⟨m.kin.keeps k,m.glob.keeps k,let ⟨mb,h1,h2⟩:=m.blt;⟨mb,h1.keeps k,h2⟩,m.nolimit.keeps k⟩
section
variable {X:Cx} {pins:List (Addr×Obj)} {σ:St} {H:Hp} {s:Shared}
theorem Inv.nstk (I:Inv X pins σ H s){b:Addr}{o:Obj}(e:X.base.get? b=some o):b∉frs X.stack:=fun z=>by
 rcases xjf.mp (I.stkSub b z) with z | z
 ·exact I.old (I.ok.bs b o e).1 z
 ·exact I.ok.nofr e z
theorem Inv.restE (I:Inv X pins σ H s):xbV X.prog X.w X.K X.mg (xaL s.heap H (frs X.stack)) X.A X.stack s H :=
 ⟨I.ok.frames,I.ok.mod.keeps fun b o e=>ff (I.bs b o e).1 (I.bs b o e).2 (I.nstk e),fun b o e=>xbe e,Nat.le_of_eq (PySem.W.hideAll_size _ _),PySem.W.funFrames_hide I.stack (fun env he a ha=>xje _ (xjj.mpr ⟨env,he,ha⟩)),I.stkFree,I.hok,I.bare⟩
def xcJ (XN:List Str)(xs ls:Scope)(N:List Str)(tau:List Nat)(cn:List Str):Bool :=
 N.length == tau.length&&((N.zip tau).all fun p=>XN[p.2]? == some p.1&&xs.names.lookup p.1 == some .cell&&ls.names.lookup p.1 == some .free&&cn.contains p.1)&&ls.names.all (fun p=>p.2 != .cell&&(p.2 != .free || cn.contains p.1)) &&
  ls.kind == .function&&!ls.isCoroutine&&!ls.isGenerator
def xeS (cells:List (Str×Addr)):List (Str×Addr)→Prop
 | []=>True
 | p::r=>cells.lookup p.1=some p.2∧xeS cells r
theorem xeS.get {cells:List (Str×Addr)}:∀ {cl:List (Str×Addr)} {x:Str} {c:Addr},xeS cells cl→cl.lookup x=some c→cells.lookup x=some c
 | [],_,_,_,e=>by cases e
 | (y,d)::r,x,c,h,e=>by
  rw[xi7] at e
  split at e
  ·rename_i q
   cases e
   rw[beq_iff_eq.mp q];exact h.1
  ·exact xeS.get h.2 e
theorem vF {cl:List (Str×Addr)}{x:Str}(h:(cl.map (·.1)).contains x=true):∃c,cl.lookup x=some c:=by
 induction cl with
 | nil=>cases h
 | cons p r ih =>
  obtain⟨y,d⟩:=p
  rw[xi7]
  split
  ·exact⟨d,rfl⟩
  ·rename_i q
   refine ih ?_
   rw[xi9,List.contains_cons] at h
   have q':(x == y)=false:=by simpa using q
   rw[q',Bool.false_or] at h
   exact h
def rY (P:Program)(w:World)(K:PySem.W.Frag)(mg:Str→Option Value)(base:Heap)(k:Nat)(g C:Addr)(H:Hp)(KX:Hp→Prop):Prop :=
 ∀A outer s,qZ k A→xbV P w K mg base A outer s H→codeAny (model P w) A (.call (.ref g) ⟨[],[]⟩) (CR (CXE P w) outer P w H s (fun _ _=>False) fun c _ H'=>c=.ref C∧KX H') s
def lu (P:Program)(w:World)(K:PySem.W.Frag)(mg:Str→Option Value)(base:Heap)(k:Nat)(C:Addr)(j:Int):Sp:=fun vs H Q _=>∃g KX,vs=[.ref g]∧PySem.W.FnAt g base∧rY P w K mg base k g C H KX ∧
 ∀H' H2 a,KX H'→(∀b o,H' b=some o→H2 b=some o)→H' a=none→H2 a=some (.lst [.int j])→Q (.ref a) H2
def xhg (P:Addr)(q:Str)(tau:List Nat)(te:XK→TE)(C:Addr)(j:Int):TE:=fun σ H Q=>H P=some (.tb q)∧∃vs:List V,vs.length=tau.length∧(∀(i t:Nat) (v:V),tau[i]? = some t→vs[i]? = some v→σ[t]? = some (some v)) ∧
 ∀H1,(∀a o,H a=some o→H1 a=some o)→∃KX:Hp→Prop,(∀E:XK,(∀H',KX H'→E (.ref C) none H')→te E (vs.map some) H1 fun _ _=>False) ∧
  ∀H' H2 a,KX H'→(∀b o,H' b=some o→H2 b=some o)→H' a=none→H2 a=some (.lst [.int j])→Q (.ref a) H2
theorem jD {k kl jx:Nat}{c P C:Addr}{j:Int}{N cn:List Str}{tau:List Nat}{q x:Str}{params:Arguments}{body:Expr}{scope:Scope}{lp np cp:Pos}{clos:List (Str×Addr)}{te:XK→TE}
  (o:∀base,Mod X.K X.mg base→Own X.prog X.w X.K X.mg base jx x ["_law_call"] (lu X.prog X.w X.K X.mg base kl C j)) (hr:qZ k X.A)
  (hb:∀base g cdv cl A outer s H E,Mod X.K X.mg base→qZ (kl-1) (A.deeper (PySem.W.envX q scope s.heap.objs.size g cdv cl))→PE (xaP X.prog X.w X.K X.mg base N q scope g cdv cl A outer s H E) body (te E))
  (hq:X.env.qual ++ "<lambda>" = q) (hcode:X.env.code=.ref c) (C0:PySem.W.CodeHd X.base c P) (hgP:mainGlobals≠P) (hbl:X.base.BuiltinsAt X.mg P) (hdef:defaultsOf params X.env=([],[])) (hcl:closureFor scope X.env=pure clos)
  (hcn:clos.map (·.1)=cn) (hchk:xcJ X.N X.env.scope scope N tau cn=true) (hac:xeS X.env.cells clos) (hfn:∀y,X.fn y=true)
  (hpar:∀pm cdv ct,bindArgs (PySem.W.kla_fn "<lambda>" q params body scope clos pm cdv ct) ⟨[],[]⟩=pure []) (hjk:jx≤k) (hk1:1≤kl) (hg:Gl X x) (hdb:(x == ("__debug__" : Str))=false)
  (he:starEach [.Lambda params body scope lp] X.env=[(false,eval (.Lambda params body scope lp) X.env)]) :
  PE X (.Call (.Name x np) [.Lambda params body scope lp] [] cp) (xhg P q tau te C j):=by
 intro pins s σ H Q I h
 obtain⟨hP,vs,hvl,hvs,hh⟩:=h
 simp only[xcJ,xhX,beq_iff_eq,xiw,Bool.not_eq_true',xh0,bne_iff_ne,ne_eq] at hchk
 obtain⟨⟨⟨⟨⟨c1,c2⟩,c3⟩,c4⟩,c5⟩,c6⟩:=hchk
 obtain⟨fr,fdr,_,_,kpr,mr⟩:=(o X.base I.ok.mod).ex
 refine wpAny_Call_Name_kw (gT I hg mr ?_ hdb)
 refine PySem.W.callWith_K (h₀:=X.base) I.ok.mod.kin kpr ?_ he rfl
 rw[he]
 refine Calls.spliced_cons (xbp (q:=q) (clos:=clos) I hq hcode C0 hP hgP hbl hdef hcl fun g H1 s1 cdv ct pm I1 ext hgo hg0 hgs hck hcells=>?_)
 refine Calls.spliced_nil ⟨I1.kIn,?_⟩
 obtain⟨KX,hE,hQ⟩:=hh H1 ext
 let B:=xaL s1.heap H1 (frs X.stack)
 have e0:xbV X.prog X.w X.K X.mg B X.A X.stack s1 H1:=I1.restE
 obtain⟨f,fd,F,b,kp,m⟩:=((o B e0.mod).mono hjk).ex
 have ef:f=fr:=by rw[mr] at m;cases m;rfl
 subst ef
 have gns:g∉frs X.stack:=fun z=>by
  rcases xjf.mp (I.stkSub g z) with z | z
  ·have:=I.lt;rw[←z] at this;exact absurd (xjP this hgs) (xjN _)
  ·exact I.nofs hgs z
 have gB:B.get? g=some (cR q params body scope clos pm cdv ct):=ff hgo hg0 gns
 have cellB:∀y c',X.env.cells.lookup y=some c'→∀v,s1.heap.IsCell c' v→B.IsCell c' v:=fun y c' e v ⟨o',ho,hd⟩=>by
  refine⟨o',ff ho (I1.freeC y c' e) fun z=>?_,hd⟩
  rcases xjf.mp (I1.stkSub c' z) with z | z
  ·exact I1.cne y c' e z
  ·obtain⟨_,o2,ho2,_⟩:=I1.ok.funs.mem z
   exact absurd (xjP (Heap.lt_size ho2) (I1.ok.cab y c' (hfn y) e)) (xjN _)
 have L:xfn B scope clos N vs:=by
  refine⟨c4,c5,c6,fun y hy=>(c3 y hy).1,fun y hy=>?_,fun y z c' h1 h2=>I.ok.inj y z c' (hac.get h1) (hac.get h2),fun y c' e=>?_,fun i y v h1 h2=>?_,by rw[hvl,c1]⟩
  ·have:=(c3 _ (PySem.mem_of_lookup hy)).2
   rcases this with z | z
   ·exact absurd rfl z
   ·rw[←hcn] at z;exact vF z
  ·obtain⟨v,q'⟩:=I1.cell y c' (hac.get e)
   exact⟨v,cellB y c' (hac.get e) v q'⟩
  ·have il:i<tau.length:=by rw[←hvl];exact(xiR.mp h2).1
   have ht:tau[i]? = some tau[i]:=xiP il
   have hz:(y,tau[i])∈N.zip tau:=by
    refine xjn (i:=i) ?_
    rw[List.getElem?_zip_eq_some]
    exact⟨h1,ht⟩
   obtain⟨⟨⟨k1,k2⟩,k3⟩,k4⟩:=c2 _ hz
   obtain⟨m,_,hl⟩:=I1.loc
   obtain⟨u,r,l⟩:=hl tau[i] y v k1 (hvs i _ v ht h2) (.inr (.inl k2))
   rw[←hcn] at k4
   obtain⟨c',hc'⟩:=vF k4
   refine⟨k3,c',u,hc',r,?_⟩
   rcases l with ⟨z,_⟩ | ⟨_,c2',z1,z2⟩
   ·rw[show X.env.kindOf y=some .cell from k2] at z;cases z
   ·have:=hac.get hc'
    rw[z1] at this;cases this
    exact cellB y _ z1 _ z2
 have lr:rY X.prog X.w X.K X.mg B kl g C H1 KX:=fun A outer s2 hr2 e2=>by
  obtain⟨k0,rfl⟩:∃k0,kl=k0+1:=⟨kl-1,by omega⟩
  exact xej (E:=fun c _ H'=>c=.ref C∧KX H') e2 hr2 gB (hck.rec e2.hok) (hpar _ _ _) L (hb B g cdv clos A outer s2 H1 _ e2.mod (hr2.deeper _)) (hE _ fun H' q=>⟨rfl,q⟩)
 have sp:lu X.prog X.w X.K X.mg B kl C j [.ref g] H1 Q E0:=⟨g,KX,rfl,⟨_,_,_,_,gB⟩,lr,hQ⟩
 refine wpAny_call (codeAny_mono (F.run X.A X.stack s1 H1 ⟨[.ref g],[]⟩ [.ref g] [.ref g] Q E0 hr e0 ?_ (.cons rfl .nil) sp) fun r s' hq=>?_)
 ·exact b s1 [.ref g] I1.kIn rfl
 ·cases r with
  | error e=>exact False.elim hq
  | ok fl =>
   cases fl with
   | ret u=>exact I1.after hq
   | next=>exact False.elim hq
   | brk=>exact False.elim hq
   | cont=>exact False.elim hq
end
end L2
namespace L2
open PySem PySem.Spec PyProof.Rows
def spX (n:Nat)(C:Addr)(R:List Tr→Prop):Sp:=fun vs H _ E=>∃(F S:Addr→Prop) (ts:List Tr) (us:List V),vs=us∧(∀a,F a→H a≠none)∧(∀a,S a→F a)∧(∀a,S a→mH a H)∧zo F H ts us∧ts.length=n∧R ts ∧
 ∀H',(∀a o,H a=some o→¬S a→H' a=some o)→(∀a,S a→mH a H')→E (.ref C) none H'
section
variable {K:PySem.W.Frag} {B:FB} {φ:Phi} {σ:St} {τ:TSt} {H H' H'':Hp} {EX:Hp→Prop}
def RXE (K:PySem.W.Frag)(B:FB)(te:TE)(D:TSt→Prop):Prop:=∀ φ σ τ H Q,RS K B φ σ τ H→D τ→te σ H Q
def RXS (K:PySem.W.Frag)(B:FB)(T:TS)(D:TSt→Prop):Prop:=∀ φ σ τ H E,RS K B φ σ τ H→D τ→T E σ H
theorem xcu.on (R:RS K B φ σ τ H)(k:∀a o,H a=some o→¬SA B φ τ a→H' a=some o)(st:∀a,SA B φ τ a→mH a H'):xcu B H':=(R.hx ⟨k,st⟩).extB
theorem nA {b:Bool}{n:Nat}{C:Addr}{R:List Tr→Prop}{E:XK}{ta:TA}{da:DA}(hE:∀H',xcu B H'→E (.ref C) none H')(ha:OkA K b n ta da):RXE K B (xdS (spX n C R) E ta) (fun τ=>da τ R):=fun φ σ τ H Q R' hd =>
 ha B φ σ τ H _ _ R' hd fun ts vs H1 x1 k1 l1 r1=>⟨AvB b B φ τ,SA B φ τ,ts,vs,rfl,fun a z=>(R'.hx x1).domB z,fun a z=>R'.sB z,x1.st,r1,l1,k1,fun H2 k st=>hE _ (xcu.on (R'.hx x1) k st)⟩
theorem xdi {te:TE}{D:TSt→Prop}(h:RXE K B te D):RXS K B (pG te) D:=fun φ σ τ H E R hd=>h φ σ τ H _ R hd
theorem xfK {te:TE}{D:TSt→Prop}(h:RXE K B te D):RXS K B (xfI te) D:=fun φ σ τ H E R hd=>h φ σ τ H _ R hd
theorem cH {n:Nat}{C:Addr}{E:XK}{ta:TA}{da:DA}(hE:∀H',xcu B H'→E (.ref C) none H')(ha:OkA K true n ta da)(hn:n≤100:=by decide):RXS K B (xcs E C ta) (fun τ=>da τ fun _=>True):=fun φ σ τ H G R hd =>
 ha B φ σ τ H _ _ R hd fun ts vs H1 x1 k1 l1 r1=>⟨by rw[←r1.len,l1];exact xjM hn (by decide),hE _ (R.hx x1).extB⟩
theorem tT {fr:Bool}{T1 T2:TS}{D1:DS}{D2:TSt→Prop}(h1:OkS K fr T1 D1)(h2:RXS K B T2 D2):RXS K B (xep T1 T2) (fun τ=>D1 { nx:=D2,rt:=fun _=>False } τ):=fun φ σ τ H E R hd =>
 h1 B φ σ τ H _ _ R hd ⟨fun φ' σ' τ' H' R' k=>h2 φ' σ' τ' H' _ R' k,fun _ _ _ _ _ z=>z.elim,fun _ _ _ _ _ z=>z.elim,fun _ _ _ _ _ z=>z.elim⟩
theorem xcW {T1 T2:TS}{D:TSt→Prop}(h:RXS K B T1 D):RXS K B (xep T1 T2) D:=fun φ σ τ H E R hd=>h φ σ τ H _ R hd
theorem xeB {tc:TT}{dc:DT}{T1 T2:TS}{D1 D2:TSt→Prop}(hc:OkT K tc dc)(h1:RXS K B T1 D1)(h2:RXS K B T2 D2):RXS K B (xgS tc T1 T2) (fun τ=>dc τ fun b=>if b=true then D1 τ else D2 τ):=fun φ σ τ H E R hd =>
 hc B φ σ τ H _ _ R hd fun b H1 x1 k=>by
  cases b with
  | true=>exact om (h1 φ σ τ H1 _ (R.hx x1) (by simpa using k))
  | false=>exact nJ (h2 φ σ τ H1 _ (R.hx x1) (by simpa using k))
theorem bL:RXS K B cG (fun _=>False):=fun _ _ _ _ _ _ h=>h.elim
def dOb (j:Nat)(ea:Addr)(b:Bool):DE:=fun τ KK=>nth τ j=.ob ea∧KK (.bl b)
theorem vZ {j:Nat}{ea:Addr}{c:V}{b:Bool}:OkE K true (tCB (xf1 ea c b) (wK (dD j) (wK (tC c) nu))) (dOb j ea b):=fun B φ σ τ H Q KK R hd q=>by
 obtain⟨h1,h2⟩:=hd
 have en:=R.ent j
 rw[h1] at en
 exact⟨.ref ea,en,rfl,q _ _ H (HX.refl R) h2 rfl⟩
def bnd:TV→Bool
 | .fz _=>true
 | .st=>true
 | _=>false
def xgc (i:Nat)(tau:List Nat)(da:DA)(R:List Tr→Prop)(j:Int):DE:=fun τ KK=>(∃ns,nth τ i=.sc ns)∧(tau.all fun t=>bnd (nth τ t))=true∧da (qr (tau.map some) τ) R∧KK (.lst [.int j])
theorem xdQ (R:RS K B φ σ τ H){t:Nat}(h:bnd (nth τ t)=true):∃v,σ[t]? = some (some v):=by
 have en:=R.ent t
 cases e:nth τ t with
 | fz u=>rw[e] at en;obtain⟨v,h1,_⟩:=en;exact⟨v,h1⟩
 | st=>rw[e] at en;obtain⟨p,h1,_⟩:=en;exact⟨_,h1⟩
 | _=>rw[e] at h;cases h
theorem vN {b:Bool}{n ix:Nat}{P C:Addr}{q:Str}{tau:List Nat}{R:List Tr→Prop}{ta:TA}{da:DA}{j:Int}(ht:xeo K=some (P,q))(ha:OkA K b n ta da) :
  OkF K (xhg P q tau (fun E=>xdS (spX n C R) E ta) C j) (xgc ix tau da R j):=fun B φ σ τ H Q KK R' hd qq=>by
 obtain⟨⟨ns,h0⟩,hb,hda,hk⟩:=hd
 have en:=R'.ent ix
 rw[h0] at en
 obtain⟨_,_,_,_,tb⟩:=en
 have all:∀t∈tau,∃v,σ[t]? = some (some v):=fun t h=>xdQ R' (xiw.mp hb t h)
 refine⟨tb P q ht,tau.map fun t=>((σ[t]?).getD none).getD .non,by rw[xi0],fun i t v e1 e2=>?_,fun H1 ext=>?_⟩
 ·rw[xiS,e1] at e2
  obtain⟨v',e3⟩:=all t (xjn e1)
  simp only[xjY,e3,xjX] at e2;cases e2
  exact e3
 have x01:HX B φ τ H H1:=⟨fun a o e _=>ext a o e,fun a s=>by
  obtain⟨m,c,e,z⟩:=R'.sst a s
  exact⟨m,c,ext _ _ e,z⟩⟩
 have R1:=R'.hx x01
 have RI:=R1.inner (tau:=tau.map some)
 have es:qo (tau.map some) σ=(tau.map fun t=>((σ[t]?).getD none).getD .non).map some:=by
  unfold qo
  rw[xi_,xi_]
  refine List.map_congr_left fun t ht'=>?_
  obtain⟨v,e⟩:=all t ht'
  simp only[Function.comp,e,xjX]
 rw[es] at RI
 have hsa:∀a,SA (B.inner φ τ H1) (sr (tau.map some) φ τ) (qr (tau.map some) τ) a→SA B φ τ a:=fun a z=>by
  rcases z with z | ⟨i,z,hj⟩
  ·exact z
  ·have en:=RI.ent i
   rw[hj] at en
   obtain⟨p,e1,e2,e3⟩:=en
   rw[z] at e2;cases e2
   rcases e3 with e3 | e3
   ·exact e3
   ·exact absurd e3 (RI.sst a (.inr ⟨i,z,hj⟩)).ne_none
 refine⟨fun H'=>(∀a o,H1 a=some o→¬SA B φ τ a→H' a=some o)∧∀a,SA B φ τ a→mH a H',fun E hE=>?_,fun H' H2 a hkx e1 e2 e3=>?_⟩
 ·refine nA (B:=B.inner φ τ H1) (E:=E) (C:=C) (fun H' x=>hE H' ⟨fun a o e n=>x.ext a o e n,fun a s=>x.st a s⟩) ha _ _ _ H1 _ RI hda
 ·have x02:HX B φ τ H H2:=⟨fun a o e n=>e1 a o (hkx.1 a o (ext a o e) n),fun a s=>by
   obtain⟨m,c,e,z⟩:=hkx.2 a s
   exact⟨m,c,e1 _ _ e,z⟩⟩
  refine qq [.int j] a [.int j] H2 x02 hk ?_ e3 ⟨.int j,[],rfl,rfl,rfl⟩
  cases e:H a with
  | none=>rfl
  | some o =>
   by_cases s:SA B φ τ a
   ·exact absurd e2 (hkx.2 a s).ne_none
   ·rw[hkx.1 a o (ext a o e) s] at e2;cases e2
end
section
variable {P:Program} {w:World} {K:PySem.W.Frag} {mg:Str→Option Value} {base:Heap} {k n:Nat} {x qual:Str} {st:Stmt} {f:Addr} {fd:FuncData} {N ps:List Str} {C:Addr} {R:List Tr→Prop}
theorem jm (F:Fun K x qual st f fd)(S:xA N ps (xh st))(mgx:mg x=some (.ref f))(b:Binds K fd ps [])(hn:ps.length=n)
  (body:∀(cdv:Value) (A:Around) (outer:List Env) (s:Shared) (H:Hp) (E:XK),qZ k (A.deeper (envOfC qual (xh st) s.heap.objs.size f cdv)) →
   ∃T,PSs (gc (CXE P w) P w K mg base N qual (xh st) f cdv A outer s H E) (yQ st) T∧∀B:FB,(∀H',xcu B H'→E (.ref C) none H')→∃D,RXS K B T D∧∀ts,ts.length=n→R ts→D (startT N false ts)) :
  cj P w K mg base (k+1) x ps (spX n C R):=by
 have hpl:ps.length≤N.length:=by have:=xj0 List.length S.pre;rw[xi6] at this;omega
 refine xdc F S mgx b (fun vs H Q E h=>?_) (fun cdv A outer s H vs Q E hr h=>?_)
 ·obtain⟨F',S',ts,us,e,_,_,_,r,l,_⟩:=h
  subst e
  rw[←r.len,l,hn]
 ·obtain⟨F',S',ts,us,e,hF,hS,hst,r,l,hR,q⟩:=h
  subst e
  obtain⟨T,ht,h⟩:=body cdv A outer s H E hr
  obtain⟨D,hd,hD⟩:=h ⟨F',S',H,[]⟩ fun H' x=>q H' x.ext x.st
  exact⟨T,ht,hd _ _ _ H _ (tK hF hS hst r (by omega)) (hD ts l hR)⟩
end
section
variable {K:PySem.W.Frag}
theorem rg:bootBuiltins "ValueError" = some (.type "ValueError"):=by decide +kernel
theorem xfz {T:TS}{D:DS}{H:Hp}{g:V}{ea:Addr}{j:Int}{Q:VK}(hd:OkS K true T D)(h:D { nx:=fun _=>False,rt:=fun t=>t=.lst [.int j] } [.un,.ob ea,.un,.un])
  (q:∀H2 a,(∀b o,H b=some o→H2 b=some o)→H a=none→H2 a=some (.lst [.int j])→Q (.ref a) H2):T { nx:=fun _ H'=>Q .non H',rt:=Q } [some g,some (.ref ea),none,none] H:=by
 refine hd ⟨fun _=>False,fun _=>False,H,[]⟩ (fun _=>none) _ _ H _ _ ⟨fun _ z=>z.elim,fun _ z=>z.elim,fun a o e _=>e,fun a z=>?_,fun i j a ts _ z=>(nomatch z),fun i a z=>(nomatch z),rfl,fun i=>?_,fun p z=>absurd z (by simp)⟩ h ⟨fun _ _ _ _ _ z=>z.elim,fun _ _ _ _ _ z=>z.elim,fun _ _ _ _ _ z=>z.elim,fun t v H2 r x e fl=>?_⟩
 ·rcases z with z | ⟨i,z,_⟩
  ·exact z.elim
  ·cases z
 ·match i with
  | 0=>trivial
  | 1=>rfl
  | 2=>trivial
  | 3=>trivial
  | n+4=>trivial
 ·obtain⟨a,ts,ws,rfl,rfl,h1,h2,h3⟩:=fl rfl
  cases e
  obtain⟨v,vs,rfl,e1,e2⟩:=h3
  cases e1;cases e2
  exact q H2 a (fun b o e=>x.ext b o e fun z=>z) h1 h2
end
section
variable {X:Cx} {ea C D:Addr}
theorem zD {oe:Obj}{b:Bool}(hp:(ea,oe)∈X.pn)(hc:oe.cls=.ref C)(Z:ng X.K C)(e:PySem.W.kitOne X.K (.ref C) (.ref D)=some b):vJ X (.builtin "isinstance") (xf1 ea (.ref D) b) :=
 bS hp hc Z fun u r=>by cases (show u=Value.ref D from r);exact e
theorem xaI {oe:Obj}{n:String}{b:Bool}(hp:(ea,oe)∈X.pn)(hc:oe.cls=.ref C)(Z:ng X.K C)(e:PySem.W.kitOne X.K (.ref C) (.type n)=some b):vJ X (.builtin "isinstance") (xf1 ea (.ty n) b) :=
 bS hp hc Z fun u r=>by cases (show u=Value.type n from r);exact e
end
end L2
namespace L2
open PySem PySem.Spec PyProof.Rows
theorem p6 {K:PySem.W.Frag}{h:Heap}{mg:Str→Option Value}{x:Str}{C:Addr}{bm:List Value}{newId:String}(X:K.In h)(e:mg x=some (.ref C))(q:PySem.W.excIn K C bm newId=true):OwnCls x C bm newId mg h:=by
 refine⟨e,?_⟩
 unfold PySem.W.excIn at q
 split at q
 case h_2=>cases q
 rename_i dd cd sl ho
 split at q
 case h_2=>cases q
 rename_i C' tl k0 k1 k2 k3 n k5 hm hs
 simp only[xhX,beq_iff_eq,Bool.not_eq_true'] at q
 obtain⟨⟨⟨⟨⟨e1,e2⟩,hdel⟩,ht⟩,hok⟩,hni⟩:=q
 subst e1 e2
 have get:=X _ _ ho
 obtain⟨nm,bs,mro,ns,qn,hd,sn,sub,ab,col,del⟩:=cd
 obtain⟨sl⟩:=sl
 dsimp only at hm hdel hok hni hs
 subst hm hdel hs
 exact⟨tl,ns,nm,qn,bs,hd,sn,sub,ab,col,dd,k0,k1,k2,k3,k5,_,get,.of_isNs (PySem.W.isNs_of_in X hok),PySem.W.nsMap_none_of_in X hok hni,PySem.W.tail_of_in X ht⟩
theorem tZ {K:PySem.W.Frag}{h:Heap}{mg:Str→Option Value}{x:Str}{C:Addr}{bm:List Value}{newId:String}(M:Mod K mg h)(e:mg x=some (.ref C))(q:PySem.W.excIn K C bm newId=true):OwnCls x C bm newId mg h:=p6 M.kin e q
abbrev xf4:List Value:=[.type "ValueError", .type "Exception", .type "BaseException", .type "object"]
def gJ (K:PySem.W.Frag):Sp:=fun vs H Q _=>∃(a:Addr) (ns:List Int),vs=[.ref a]∧(xeA H∧xen K H)∧SqL K H a (ns.map V.int)∧ns.length≤63∧∀H',(∀b o,H b=some o→H' b=some o)→Q (.bl true) H'
section
variable {P:Program} {w:World} {K:PySem.W.Frag} {mg:Str→Option Value} {base:Heap} {k:Nat} {x qual:Str} {st:Stmt} {f:Addr} {fd:FuncData} {N ps:List Str}
theorem oP {c:Addr}(F:Fun K x qual st f fd)(hfd:fd.code=.ref c)(S:xA N ps (xh st))(hn:ps.length=1)
  (body:∀(A:Around) (outer:List Env) (s:Shared) (H:Hp) (E:XK),qZ k (A.deeper (envOfC qual (xh st) s.heap.objs.size f (.ref c))) →
   ∃T D,PSs (gc CX0 P w K mg base N qual (xh st) f (.ref c) A outer s H E).nox (yQ st) T∧OkS K false T D∧∀ns:List Int,ns.length≤63→D { nx:=fun _=>False,rt:=fun t=>t=.bl true } (.sc ns::List.replicate (N.length-1) .un)) :
  dz P w K mg base CX0 (k+1) f fd ps (gJ K):=by
 have hpl:ps.length≤N.length:=by have:=xj0 List.length S.pre;rw[xi6] at this;omega
 obtain⟨oc,od,kV,doc,pm,an,cdv,ct,osl,rfl,lk,hcd⟩:=F.ex
 cases (show cdv=.ref c from hfd)
 refine xbO lk hcd S (fun vs H Q E h=>?_) fun A outer s H vs Q E hr h=>?_
 ·obtain⟨a,ns,rfl,_⟩:=h
  exact hn.symm
 ·obtain⟨a,ns,rfl,⟨hO,hT⟩,hS,hl,q⟩:=h
  obtain⟨T,D,ht,hd,h⟩:=body A outer s H E hr
  have so:og K H a ns:=by
   refine⟨?_,hT⟩
   rcases hS with (z | ⟨o,z⟩) | z
   ·exfalso
    rcases hO a with (y | ⟨o,xs,y⟩) | ⟨_,y⟩
    ·rw[y] at z;cases z
    ·rw[y] at z;cases z
    ·rw[y] at z;cases z
   ·exact .inl ⟨o,z⟩
   ·exact .inr fun _=>.inr z
  have R:RS K ⟨fun _=>False,fun _=>False,H,[]⟩ (fun _=>none) (start N [.ref a]) (.sc ns::List.replicate (N.length-1) .un) H:=by
   refine⟨fun _ z=>z.elim,fun _ z=>z,fun _ _ e _=>e,fun a s=>?_,fun i j a us _ e=>(by cases e),fun i a e=>(by cases e),?_,fun i=>?_,fun p hp=>absurd hp (by simp)⟩
   ·rcases s with s | ⟨i,s,_⟩
    ·exact s.elim
    ·cases s
   ·rw[fL (by simp;omega)]
    simp;omega
   ·cases i with
    | zero=>exact⟨a,ja rfl,hl,so⟩
    | succ i =>
     show Ent K _ _ H (i+1) _ (nth (List.replicate (N.length-1) .un) i)
     rcases jF (ts:=[]) (n:=N.length-1) (i:=i) rfl with e | ⟨t,h,e⟩
     ·rw[xja,xjr] at e
      rw[e];trivial
     ·simp at h
  refine⟨T,ht.nox,hd _ _ _ _ H _ _ R (h ns hl) ⟨fun _ _ _ _ _ z=>z.elim,fun _ _ _ _ _ z=>z.elim,fun _ _ _ _ _ z=>z.elim,fun t v H1 r1 x k fl=>?_⟩⟩
  cases (show t=.bl true from k)
  cases (show v=.bl true from r1)
  exact q H1 fun b o e=>x.ext b o e fun z=>z
end
theorem xaQ {P:Program}{w:World}{K:PySem.W.Frag}{mg mb:Str→Option Value}{k:Nat}{fa a T:Addr}{q:Str}{fd:FuncData}{x:Str}{s₁:Shared}{vs:List Value}{ns:List Int}
  (KX:K.In s₁.heap) (hns:s₁.heap.Ns mainGlobals mg) (hb:s₁.heap.Ns builtinsNs mb) (hbb:∀x:Str,x ≠ "__name__" → mb x=bootBuiltins x) (hlim:s₁.heap.NoLimit) (hg:s₁.gens = #[])
  (ha:s₁.heap.get? a=some { cls:=.type "list", data:=.seq vs.toArray }) (hi:IntsAre vs ns) (hl:ns.length≤63) (hr:qZ k callerA)
  (hT:xeo K=some (T,q)) (hT0:s₁.heap.get? T=some { cls:=.none,data:=.fields #[] }) (hTK:K.lookup T=none) (hTC:isCodeTable s₁.heap T)
  (F:∀base:Heap,Mod K mg base→dz P w K mg base CX0 k fa fd [x] (gJ K)) (hbind:∀(s:Shared) (u:Value),BindsTo s fd ⟨[u],[]⟩ [(x,u)]) :
  codeAny (model P w) callerA (.call (.ref fa) ⟨[.ref a],[]⟩) (fun r s'=>r=.ok (.ret (.bool true))∧OldK s₁.heap s'.heap∧s'.os=s₁.os∧AllBare s'.gens) s₁:=by
 have rv:=fm hi
 have lenV:=hi.length
 have hl2:ns.length≤sizeLine:=xjM hl (by decide)
 have aT:a≠T:=fun z=>by subst z;rw[ha] at hT0;cases hT0
 have core:∀H:Hp,xeA H→SqL K H a (ns.map V.int)→HOk P w H s₁.heap→(∀b,H b≠none→b=a∨b=T)→H T=some (.tb q)→(H a≠none→K.lookup a=none) →
   codeAny (model P w) callerA (.call (.ref fa) ⟨[.ref a],[]⟩) (fun r s'=>r=.ok (.ret (.bool true))∧OldK s₁.heap s'.heap∧s'.os=s₁.os∧AllBare s'.gens) s₁:=by
  intro H hO hS hok hA hHT hK
  have base_of:∀ {b:Addr} {o:Obj},s₁.heap.get? b=some o→H b=none→(cN s₁.heap H).get? b=some o:=fun e n=>bj e n
  have noA:∀ {b:Addr} {o:Obj} {es:Array DictEntry} {ep:Nat},s₁.heap.get? b=some o→o.data=.dict es ep→H b=none:=fun {b o es ep} e d=>by
   cases q:H b with
   | none=>rfl
   | some u =>
    rcases hA b (by rw[q];simp) with e' | e'
    ·subst e'
     rw[ha] at e;cases e
     cases (show Data.seq vs.toArray _=Data.dict es ep from d)
    ·subst e'
     rw[hT0] at e;cases e
     cases (show Data.fields #[]=Data.dict es ep from d)
  have nsK:∀ {b:Addr} {m:Str→Option Value},s₁.heap.Ns b m→(cN s₁.heap H).Ns b m:=fun {b m} ⟨o,es,ep,e,d,r⟩=>⟨o,es,ep,base_of e (noA e d),d,r⟩
  have hKb:K.In (cN s₁.heap H):=fun b o e=>base_of (KX b o e) (by
   cases q:H b with
   | none=>rfl
   | some u =>
    rcases hA b (by rw[q];simp) with e' | e'
    ·subst e'
     rw[hK (by rw[q];simp)] at e;cases e
    ·subst e'
     rw[hTK] at e;cases e)
  have hM:Mod K mg (cN s₁.heap H):=⟨hKb,nsK hns,⟨mb,nsK hb,hbb⟩,let ⟨mc,h1,h2⟩:=hlim;⟨mc,nsK h1,h2⟩⟩
  have e0:xbV P w K mg (cN s₁.heap H) callerA [] s₁ H:=⟨rfl,hM,fun b o e=>oC e,Nat.le_of_eq (rN _ _),trivial,fun b hb=>absurd (show b∈([]:List Addr) from hb) (by simp),hok,.of_eq hg⟩
  have tab:xen K H:=fun T' q' e=>by rw[hT] at e;cases e;exact hHT
  have sp:gJ K [.ref a] H (fun v H'=>v=.bl true∧∀b o,H b=some o→H' b=some o) (fun _ _ _=>False):=⟨a,ns,rfl,⟨hO,tab⟩,hS,hl,fun H' k=>⟨rfl,k⟩⟩
  refine codeAny_mono ((F _ hM).run callerA [] s₁ H ⟨[.ref a],[]⟩ [.ref a] [.ref a] _ _ hr e0 (hbind s₁ (.ref a)) (.cons rfl .nil) sp) fun r s' h=>?_
  cases r with
  | error e=>exact False.elim h
  | ok fl =>
   cases fl with
   | next=>exact False.elim h
   | brk=>exact False.elim h
   | cont=>exact False.elim h
   | ret u =>
    obtain⟨v,H',os,bare,un,hok',r',qv,qk⟩:=h
    subst qv
    obtain rfl:u=Value.bool true:=r'
    refine⟨rfl,⟨fun b o e=>?_,fun b o e=>un.there b o e (by simp)⟩,os,bare⟩
    cases q:H b with
    | none=>exact .inl (un.keep b o e q (by intro z;exact absurd (show b∈([]:List Addr) from z) (by simp)) (by simp))
    | some u =>
     rcases hO b with (z | ⟨ob,xs,z⟩) | ⟨q',z⟩
     ·rw[q] at z;cases z
     ·have z2:=un.frzs b ob _ z
      obtain⟨e1,_⟩:=hok b _ z
      obtain⟨e2,_⟩:=hok' b _ z2
      rw[e] at e1;cases e1
      exact .inl e2
     ·have ebT:b=T:=by
       rcases hA b (by rw[q];simp) with y | y
       ·subst y
        obtain⟨ps,e1,_⟩:=hok b _ z
        rw[ha] at e1;cases e1
       ·exact y
      subst ebT
      obtain⟨ps,e1,_⟩:=hok' b _ (qk b _ z)
      rw[hT0] at e;cases e
      exact .inr (.inl ⟨hTC,rfl,#[],ps,rfl,by rw[e1];simp⟩)
 have okT:∀H:Hp,zV P w H s₁.heap T (.tb q):=fun H=>⟨#[],hT0,trivial,fun pos cv e=>by cases e⟩
 cases hk:K.lookup a with
 | some o =>
  have e:=KX a o hk
  rw[ha] at e
  cases e
  refine core (fun b=>if b=T then some (.tb q) else none) (fun b=>?_) (.inr ⟨_,vs.toArray,_,hk,rfl,rfl,rfl,by rw[xjC,lenV];exact hl2,by simpa using rv⟩) (fun b u z=>?_) (fun b z=>?_) (if_pos rfl) fun z=>absurd (if_neg aT) z
  ·by_cases hb:b=T
   ·exact .inr ⟨q,if_pos hb⟩
   ·exact .inl (.inl (if_neg hb))
  ·by_cases hb:b=T
   ·have z':=(if_pos hb).symm.trans z
    cases z'
    subst hb
    exact okT _
   ·have z':=(if_neg hb).symm.trans z
    cases z'
  ·by_cases hb:b=T
   ·exact .inr hb
   ·exact absurd (if_neg hb) z
 | none =>
  have eT:(fun b=>if b=T then some (HO.tb q) else if b=a then some (.frz { cls:=.type "list", data:=.seq vs.toArray } (.lst (ns.map V.int))) else none) T=some (.tb q):=if_pos rfl
  have ea:(fun b=>if b=T then some (HO.tb q) else if b=a then some (.frz { cls:=.type "list", data:=.seq vs.toArray } (.lst (ns.map V.int))) else none) a=some (.frz { cls:=.type "list", data:=.seq vs.toArray } (.lst (ns.map V.int))):=by
   show(if a=T then _ else _)=_
   rw[if_neg aT,if_pos rfl]
  have en:∀b,b≠T→b≠a→(fun b=>if b=T then some (HO.tb q) else if b=a then some (.frz { cls:=.type "list", data:=.seq vs.toArray } (.lst (ns.map V.int))) else none) b=none:=fun b n1 n2=>by
   show(if b=T then _ else _)=_
   rw[if_neg n1,if_neg n2]
  generalize (fun b=>if b=T then some (HO.tb q) else if b=a then some (.frz { cls:=.type "list", data:=.seq vs.toArray } (.lst (ns.map V.int))) else none)=H at eT ea en
  refine core H (fun b=>?_) (.inl (.inr ⟨{ cls:=.type "list", data:=.seq vs.toArray },ea⟩)) (fun b u z=>?_) (fun b z=>?_) eT fun _=>hk
  ·by_cases hb:b=T
   ·subst hb;exact .inr ⟨q,eT⟩
   ·by_cases hb2:b=a
    ·subst hb2;exact .inl (.inr ⟨_,_,ea⟩)
    ·exact .inl (.inl (en b hb hb2))
  ·by_cases hb:b=T
   ·subst hb
    rw[eT] at z;cases z
    exact okT _
   ·by_cases hb2:b=a
    ·subst hb2
     rw[ea] at z;cases z
     exact⟨ha,by rw[xi0];exact hl2,vs,_,rv,ha⟩
    ·rw[en b hb hb2] at z;cases z
  ·by_cases hb:b=T
   ·exact .inr hb
   ·by_cases hb2:b=a
    ·exact .inl hb2
    ·exact absurd (en b hb hb2) z
theorem xbT {l:PySem.W.OpenLaw}{k:Nat}{p:Program}{loose:List Str}{XP:(Str→Option Value)→Heap→Prop}{YP:World→Heap→Prop}{d:DefRec}{K:Params→PySem.W.Frag}{x q:Str}{T:Addr}
  (hn:l.most=some 63) (hdf:d.params.defaults=[]) (hr:qZ k callerA)
  (hY:∀(w:World) (h:Heap),YP w h→(K w.params).In h) (hT:∀P,xeo (K P)=some (T,q)) (hT0:∀(w:World) (h:Heap),YP w h→h.get? T=some { cls:=.none,data:=.fields #[] }) (hTK:∀P,(K P).lookup T=none)
  (hTC:∀(w:World) (h:Heap),(K w.params).In h→isCodeTable h T)
  (F:∀(w:World) (mg:Str→Option Value) (fa:Addr) (h:Heap),(K w.params).In h→h.Ns mainGlobals mg→mg d.name=some (.ref fa) →
   ∃fd:FuncData,(∀(s:Shared) (u:Value),BindsTo s fd ⟨[u],[]⟩ [(x,u)]) ∧
    ∀base:Heap,Mod (K w.params) mg base→dz l.prog w (K w.params) mg base CX0 k fa fd [x] (gJ (K w.params))) :
  PySem.W.WalkO p loose XP YP l.row.toRowW d [] (fun f vs=>PySem.call f vs):=by
 refine Att.gH hn hdf fun w s₀ s₁ mg mb fa o pm cd doc a vs ns G Y ho hd hcd hmg hobj hints hlen hg=>?_
 have KX:=hY w _ Y
 obtain⟨fd,hb,hF⟩:=F w mg fa _ KX G.T.g hmg
 exact xaQ KX G.T.g G.T.b G.T.builtins G.T.nolimit hg hobj hints hlen hr (hT _) (hT0 w _ Y) (hTK _) (hTC w _ KX) hF hb
end L2
theorem PySem.W.CodeHd.isTable {h:PySem.Heap}{c P:PySem.Addr}(x:PySem.W.CodeHd h c P):PySem.isCodeTable h P:=let ⟨o,vs,_,_,_,_,_,_,_,h1,h2,h3,h4,_⟩:=x;⟨c,o,vs,h1,h2,h3,h4⟩
namespace L2
open PySem PySem.Spec PyProof.Rows
section
variable {X:Cx} {pos:Pos}
end
section
variable {K:PySem.W.Frag} {fr:Bool}
end
end L2
namespace L2
open PySem
def tn (a b c d:Int):Int:=a*d-b*c
theorem sQ (j:Int):xdr (.lst [.int j]) (.lst [.int j]):=⟨rfl,rfl,by show min 1 1≤64;decide⟩
end L2
namespace Trn
abbrev D2:=Int×Int
def cr (p q:D2):Int:=p.1*q.2-p.2*q.1
def sc (m:Int)(p:D2):D2:=(m*p.1,m*p.2)
def ad (p q:D2):D2:=(p.1+q.1,p.2+q.2)
def sb (p q:D2):D2:=(p.1-q.1,p.2-q.2)
def InC (u v x:D2):Prop:=0≤cr u x∧0≤cr x v
end Trn
namespace Trn
end Trn
namespace Trn
def gd (p:D2):Int:=(Int.gcd p.1 p.2:Nat)
theorem tR {p:D2}(h:p≠(0,0)):0<gd p:=by
 unfold gd
 have:0<Int.gcd p.1 p.2:=Int.gcd_pos_iff.mpr (by
  by_cases c:p.1=0
  ·exact .inr fun z=>h (Prod.ext c z)
  ·exact .inl c)
 omega
def inS (u v x:D2):Bool:=decide (((0≤cr x v∧cr x v≤cr u v)∧0≤cr u x∧cr u x≤cr u v)∧x≠(0,0))
end Trn
namespace L2
open PySem Trn
theorem l9 {α:Type}(ts:List α)(x y:α):atT (ts++[x,y]) (-2)=some x:=by
 show(if 1<(ts++[x,y]).length then getT (ts++[x,y]) ((ts++[x,y]).length-1-1) else none)=_
 have e:(ts++[x,y]).length=ts.length+2:=by simp
 rw[e,if_pos (by omega),fH,show ts.length+2-1-1=ts.length by omega]
 simp
end L2
namespace L2
open PySem
def dI (ts:List Tr):Prop:=∃t,ts=[t]∧isField t=false
end L2
namespace L2
open PySem
def k0 (r:Pol.R3):Int:=r.1
def k1 (r:Pol.R3):Int:=r.2.1
def k2 (r:Pol.R3):Int:=r.2.2
def xfB (a b:F2):Prop:=a.2=1∧b.2=1∧¬(a.1=0∧b.1=0)
theorem aw {α:Type}(x:α):∀n:Nat,(List.replicate n [x]).flatten=List.replicate n x
 | 0=>rfl
 | n+1=>by rw[xjy,xiK,aw x n];rfl
theorem lz {α:Type}(ts:List α):j_ ts none (some (-1))=ts.take (ts.length-1):=by
 unfold j_
 have e:HT.sIx ts.length ts.length (some (-1))=ts.length-1:=by
  show(if (-1:Int)<0 then((-1:Int)+(ts.length:Int)).toNat else min (-1:Int).toNat ts.length)=_
  rw[if_pos (by decide)];omega
 rw[e,HT.aU,xiF,xjU]
instance (a b:F2):Decidable (xfB a b):=by unfold xfB;infer_instance
end L2
namespace L2
open PySem Trn
theorem LF0.grow {rows rows':List Pol.R3}(h:LF0 rows)(hl:rows'.length≤8)(l3:3≤rows'.length)(m:∀r∈rows,r∈rows')(hx:∀r∈rows',r∈rows∨Extra r):LF0 rows' :=
 ⟨l3,hl,fun r hr=>(hx r hr).elim (h.sm r) fun z=>by unfold Extra at z;omega,fun r hr=>(hx r hr).elim (h.dir r) fun z=>z.2,fun u v hn=>let ⟨r,hr,p⟩:=h.gr u v hn;⟨r,m r hr,p⟩,fun p hz hk=>h.near p hz fun r hr=>hk r (m r hr)⟩
theorem LF0.ins {rows:List Pol.R3}(h:LF0 rows){r:Pol.R3}(hr:Extra r)(hl:rows.length≤7)(k:Nat):LF0 (rows.take k++[r]++rows.drop k):=by
 have mem:∀x,x∈rows.take k++[r]++rows.drop k↔x∈rows∨x=r:=fun x=>by
  have:=xjF k rows
  rw[xjc,xjc,xjq]
  conv=>rhs;lhs;rw[←this,xjc]
  constructor
  ·rintro((z | z) | z)
   ·exact .inl (.inl z)
   ·exact .inr z
   ·exact .inl (.inr z)
  ·rintro((z | z) | z)
   ·exact .inl (.inl z)
   ·exact .inr z
   ·exact .inl (.inr z)
 have len:(rows.take k++[r]++rows.drop k).length=rows.length+1:=by
  simp only[xiW,xi6,xiY,xi5];omega
 have:=h.l3
 exact h.grow (by omega) (by omega) (fun x hx=>(mem x).mpr (.inl hx)) fun x hx=>((mem x).mp hx).imp id fun z=>by rw[z];exact hr
def oG:List (Int×Int):=[(1,0),(-1,0),(0,1),(0,-1)]
def xdR (i:Nat)(rows:List Pol.R3):Prop:=rows.length=i∧∀(j:Nat) (r:Pol.R3) (d:Int×Int),rows[j]? = some r→oG[j]? = some d→∃b c:Int,((1≤b∧b≤4)∧0≤c∧c≤3*b)∧r=(d.1*b,d.2*b,c)
theorem nW {i:Nat}{d:Int×Int}(h:oG[i]? = some d):(-1≤d.1∧d.1≤1)∧(-1≤d.2∧d.2≤1):=by
 have:=xjn h
 simp only[oG,xjf,xjv,xj9] at this
 rcases this with rfl | rfl | rfl | rfl<;>decide
theorem xdR.step {i:Nat}{rows:List Pol.R3}(h:xdR i rows){d:Int×Int}(hd:oG[i]? = some d){b c:Int}(hb:(1≤b∧b≤4)∧0≤c∧c≤3*b):xdR (i+1) (rows++[(d.1*b,d.2*b,c)]):=by
 refine⟨by rw[xiW,h.1];rfl,fun j r d' hr hd'=>?_⟩
 by_cases hj:j<i
 ·rw[xiO (by rw[h.1];exact hj)] at hr
  exact h.2 j r d' hr hd'
 ·have hl:=(xiR.mp hr).1
  rw[xiW,h.1,xi5] at hl
  have:j=i:=by omega
  subst this
  rw[List.getElem?_append_right (by rw[h.1];exact xjK _),h.1,Nat.sub_self] at hr
  rw[hd] at hd'
  cases hr;cases hd'
  exact⟨b,c,hb,rfl⟩
theorem xdR.lf {rows:List Pol.R3}(h:xdR 4 rows):LF0 rows:=by
 obtain⟨hl,h⟩:=h
 rcases rows with _ | ⟨r1,_ | ⟨r2,_ | ⟨r3,_ | ⟨r4,_ | ⟨r5,rs⟩⟩⟩⟩⟩
 ·cases hl
 ·cases hl
 ·cases hl
 ·cases hl
 ·obtain⟨b2,c2,h2,e2⟩:=h 0 r1 (1,0) rfl rfl
  obtain⟨b1,c1,h1,e1⟩:=h 1 r2 (-1,0) rfl rfl
  obtain⟨b4,c4,h4,e4⟩:=h 2 r3 (0,1) rfl rfl
  obtain⟨b3,c3,h3,e3⟩:=h 3 r4 (0,-1) rfl rfl
  have e1:r2=(-b1,0,c1):=by rw[e1];simp
  have e2:r1=(b2,0,c2):=by rw[e2];simp
  have e3:r4=(0,-b3,c3):=by rw[e3];simp
  have e4:r3=(0,b4,c4):=by rw[e4];simp
  have m1:(-b1,0,c1)∈[r1,r2,r3,r4]:=by rw[←e1];simp
  have m2:(b2,0,c2)∈[r1,r2,r3,r4]:=by rw[←e2];simp
  have m3:(0,-b3,c3)∈[r1,r2,r3,r4]:=by rw[←e3];simp
  have m4:(0,b4,c4)∈[r1,r2,r3,r4]:=by rw[←e4];simp
  have four:∀r∈[r1,r2,r3,r4],r=(b2,0,c2)∨r=(-b1,0,c1)∨r=(0,b4,c4)∨r=(0,-b3,c3):=fun r hr=>by
   simp only[xjf,xjv,xj9] at hr
   rw[←e1,←e2,←e3,←e4];exact hr
  refine⟨by simp,by simp,fun r hr=>?_,fun r hr=>?_,fun u v hn=>?_,fun p hz hk=>?_⟩
  ·rcases four r hr with h | h | h | h<;>subst h<;>simp only<;>omega
  ·rcases four r hr with h | h | h | h
   ·subst h;exact .inl (by simp only;omega)
   ·subst h;exact .inl (by simp only;omega)
   ·subst h;exact .inr (by simp only;omega)
   ·subst h;exact .inr (by simp only;omega)
  ·rcases xie u 0 with c | c | c
   ·refine⟨_,m1,?_⟩
    simp only
    have:=xio (show 0<b1 by omega) (show 0 < -u by omega)
    grind
   ·rcases xie v 0 with d | d | d
    ·refine⟨_,m3,?_⟩
     simp only
     have:=xio (show 0<b3 by omega) (show 0 < -v by omega)
     grind
    ·omega
    ·refine⟨_,m4,?_⟩
     simp only
     have:=xio (show 0<b4 by omega) d
     grind
   ·refine⟨_,m2,?_⟩
    simp only
    have:=xio (show 0<b2 by omega) c
    grind
  ·have k1:=hk _ m1
   have k2:=hk _ m2
   have k3:=hk _ m3
   have k4:=hk _ m4
   simp only[Pol.val] at k1 k2 k3 k4
   have e1:=xf0 (c:=c1) (x:=-p.1) h1.1.1 (by omega) hz (by grind)
   have e2:=xf0 (c:=c2) (x:=p.1) h2.1.1 (by omega) hz (by grind)
   have e3:=xf0 (c:=c3) (x:=-p.2.1) h3.1.1 (by omega) hz (by grind)
   have e4:=xf0 (c:=c4) (x:=p.2.1) h4.1.1 (by omega) hz (by grind)
   omega
 ·simp at hl
def gf (sw:Bool)(s t:Int)(r:Pol.R3):Pol.R3:=if sw=true then(r.2.1*s,r.1*t,r.2.2) else(r.1*s,r.2.1*t,r.2.2)
theorem LF0.turned {rows:List Pol.R3}(h:LF0 rows)(sw:Bool){s t:Int}(hs:s=1∨s = -1)(ht:t=1∨t = -1):LF0 (rows.map (gf sw s t)):=by
 have val:∀(r p:Pol.R3),Pol.val (gf sw s t r) p=Pol.val r (if sw=true then(t*p.2.1,s*p.1,p.2.2) else(s*p.1,t*p.2.1,p.2.2)):=fun r p=>by
  unfold gf
  split<;>simp only[Pol.val]<;>grind
 refine⟨by rw[xi0];exact h.l3,by rw[xi0];exact h.l8,fun r hr=>?_,fun r hr=>?_,fun u v hn=>?_,fun p hz hk=>?_⟩
 ·obtain⟨q,hq,rfl⟩:=xjl.mp hr
  have:=h.sm q hq
  unfold gf
  split<;>simp only<;>rcases hs with rfl | rfl<;>rcases ht with rfl | rfl<;>omega
 ·obtain⟨q,hq,rfl⟩:=xjl.mp hr
  have:=h.dir q hq
  unfold gf
  split<;>simp only<;>rcases hs with rfl | rfl<;>rcases ht with rfl | rfl<;>omega
 ·cases sw with
  | true =>
   obtain⟨r,hr,p⟩:=h.gr (t*v) (s*u) (by rcases hs with rfl | rfl<;>rcases ht with rfl | rfl<;>omega)
   refine⟨_,xjm hr,?_⟩
   show 0<r.2.1*s*u+r.1*t*v
   grind
  | false =>
   obtain⟨r,hr,p⟩:=h.gr (s*u) (t*v) (by rcases hs with rfl | rfl<;>rcases ht with rfl | rfl<;>omega)
   refine⟨_,xjm hr,?_⟩
   show 0<r.1*s*u+r.2.1*t*v
   grind
 ·have:=h.near (if sw=true then(t*p.2.1,s*p.1,p.2.2) else(s*p.1,t*p.2.1,p.2.2)) (by split<;>exact hz) fun r hr=>by rw[←val];exact hk _ (xjm hr)
  cases sw with
  | true=>simp only[if_true] at this;rcases hs with rfl | rfl<;>rcases ht with rfl | rfl<;>omega
  | false=>simp only[Bool.false_eq_true,xj6] at this;rcases hs with rfl | rfl<;>rcases ht with rfl | rfl<;>omega
def jn (p q:P2):Bool:=if p.1=q.1 then aH p.2 q.2 else aH p.1 q.1
def oH:TSp:=fun ts KK=>∃p q:P2,ts=[pT p,pT q]∧Pk 900 p∧Pk 900 q∧KK (.bl (jn p q))
end L2
namespace Pol
theorem rJ {a b c d:R3}(h1:0<det b c d)(h2:0<det a b d)(h3:0<det a c d)(h4:0<det a b c)(hc:0<c.2.2)(ha:Ah a c)(hb:Ah c b)(hd:Ah c d):False:=by
 have ex:=four (c.2.2,0,c.1) a b c d
 have ey:=four (0,c.2.2,c.2.1) a b c d
 have xa:val (c.2.2,0,c.1) a=a.1*c.2.2-c.1*a.2.2:=by simp only[val];grind
 have xb:val (c.2.2,0,c.1) b=b.1*c.2.2-c.1*b.2.2:=by simp only[val];grind
 have xc:val (c.2.2,0,c.1) c=0:=by simp only[val];grind
 have xd:val (c.2.2,0,c.1) d=d.1*c.2.2-c.1*d.2.2:=by simp only[val];grind
 have ya:val (0,c.2.2,c.2.1) a=a.2.1*c.2.2-c.2.1*a.2.2:=by simp only[val];grind
 have yb:val (0,c.2.2,c.2.1) b=b.2.1*c.2.2-c.2.1*b.2.2:=by simp only[val];grind
 have yc:val (0,c.2.2,c.2.1) c=0:=by simp only[val];grind
 have yd:val (0,c.2.2,c.2.1) d=d.2.1*c.2.2-c.2.1*d.2.2:=by simp only[val];grind
 rw[xa,xb,xc,xd] at ex
 rw[ya,yb,yc,yd] at ey
 have A:(a.1*c.2.2-c.1*a.2.2<0)∨(a.1*c.2.2-c.1*a.2.2=0∧a.2.1*c.2.2-c.2.1*a.2.2<0):=by
  rcases ha with z | ⟨z1,z2⟩
  ·exact .inl (by omega)
  ·exact .inr ⟨by omega,by omega⟩
 have B:(0<b.1*c.2.2-c.1*b.2.2)∨(b.1*c.2.2-c.1*b.2.2=0∧0<b.2.1*c.2.2-c.2.1*b.2.2):=by
  rcases hb with z | ⟨z1,z2⟩
  ·exact .inl (by omega)
  ·exact .inr ⟨by omega,by omega⟩
 have D:(0<d.1*c.2.2-c.1*d.2.2)∨(d.1*c.2.2-c.1*d.2.2=0∧0<d.2.1*c.2.2-c.2.1*d.2.2):=by
  rcases hd with z | ⟨z1,z2⟩
  ·exact .inl (by omega)
  ·exact .inr ⟨by omega,by omega⟩
 generalize a.1*c.2.2-c.1*a.2.2=XA at *
 generalize b.1*c.2.2-c.1*b.2.2=XB at *
 generalize d.1*c.2.2-c.1*d.2.2=XD at *
 generalize a.2.1*c.2.2-c.2.1*a.2.2=YA at *
 generalize b.2.1*c.2.2-c.2.1*b.2.2=YB at *
 generalize d.2.1*c.2.2-c.2.1*d.2.2=YD at *
 have npos:∀ {p q:Int},0<p→q<0→p*q<0:=fun {p q} hp hq=>by
  have:=pp hp (show 0 < -q by omega)
  rw[Int.mul_neg] at this;omega
 rcases A with A | ⟨A1,A2⟩
 ·have t1:=npos h1 A
  have t2:0≤det a c d*XB:=by
   rcases B with B | B
   ·exact xh_ (pp h3 B)
   ·rw[B.1];simp
  have t3:0≤det a b c*XD:=by
   rcases D with D | D
   ·exact xh_ (pp h4 D)
   ·rw[D.1];simp
  rw[xip] at ex
  omega
 ·rw[A1] at ex
  rcases B with B | ⟨B1,B2⟩
  ·have t2:=pp h3 B
   have t3:0≤det a b c*XD:=by
    rcases D with D | D
    ·exact xh_ (pp h4 D)
    ·rw[D.1];simp
   rw[xip,xip] at ex
   omega
  ·rcases D with D | ⟨D1,D2⟩
   ·have t3:=pp h4 D
    rw[B1] at ex
    rw[xip,xip,xip] at ex
    omega
   ·have t1:=npos h1 A2
    have t2:=pp h3 B2
    have t3:=pp h4 D2
    rw[xip] at ey
    omega
def vH:List R3→R3→List R3
 | b::a::s,p=>if 0<det a b p then b::a::s else vH (a::s) p
 | s,_=>s
def chP (ps:List R3):List R3:=ps.foldl (fun s p=>p::vH s p) []
theorem xbd {b a p:R3}{s:List R3}(h:det a b p<0):vH (b::a::s) p=vH (a::s) p:=by
 conv=>lhs;unfold vH
 rw[if_neg (by omega)]
theorem rS {p:R3}{A:List R3}(h:∀A' a' a,A=A'++[a',a]→0<det a' a p):vH A.reverse p=A.reverse:=by
 rcases xiG A with rfl | ⟨A1,a,rfl⟩
 ·rfl
 ·rw[xiB] at *
  rcases xiG A1 with rfl | ⟨A2,a',rfl⟩
  ·rfl
  ·rw[xiB] at *
   have:=h A2 a' a (by rw[xiy];rfl)
   rw[xjz,xjz]
   show vH (a::a'::A2.reverse) p=_
   unfold vH
   rw[if_pos this]
   rfl
theorem jJ {p q:R3}(hp:0<p.2.2)(hq:0<q.2.2)(h:Ah p q):¬Ah q p:=fun h'=>Ah.irrefl p (Ah.trans hp hq hp h h')
section
variable {A B S:List R3} {x p0:R3}
structure Up (A:List R3)(x:R3)(B:List R3):Prop where
 ccw:Ccw (A++x::B)
 pos:∀v∈A++x::B,0<v.2.2
 least:∀h t,A++x::B=h::t→∀v∈t,Ah h v
 most:∀v∈A++B,Ah v x
theorem Up.rise (U:Up A x B):(A++[x]).Pairwise Ah:=by
 rw[xjw]
 refine⟨?_,List.pairwise_singleton _ _,fun a ha y hy=>by rw[xjq.mp hy];exact U.most a (xjd _ ha)⟩
 rcases A with _ | ⟨h,t⟩
 ·exact .nil
 ·rw[xjx]
  refine⟨fun v hv=>U.least h (t++x::B) rfl v (xjd _ hv),?_⟩
  have key:∀(t1 t2:List R3),t=t1++t2→t2.Pairwise Ah:=fun t1 t2=>by
   induction t2 generalizing t1 with
   | nil=>exact fun _=>.nil
   | cons a t2 ih =>
    intro e
    rw[xjx]
    refine⟨fun b hb=>?_,ih (t1++[a]) (by rw[e];simp)⟩
    obtain⟨u1,u2,rfl⟩:=xiA hb
    have s4:List.Sublist [h,a,b,x] (h::t++x::B):=by
     rw[e]
     refine List.Sublist.cons₂ h ?_
     show List.Sublist [a,b,x] ((t1++a::(u1++b::u2))++x::B)
     simp only[xiy,xiC]
     refine xiv ?_ (xjE t1 _)
     refine List.Sublist.cons₂ a ?_
     refine xiv ?_ (xjE u1 _)
     refine List.Sublist.cons₂ b ?_
     refine xiv ?_ (xjE u2 _)
     exact List.Sublist.cons₂ x (xjs _)
    have inl:∀v∈[h,a,b,x],v∈(h::t++x::B):=fun v hv=>s4.subset hv
    have pa:=U.pos a (inl a (by simp))
    have pb:=U.pos b (inl b (by simp))
    have ne:a≠b:=fun z=>by
     have nd:=U.ccw.nd.sublist s4
     subst z
     simp at nd
    rcases xh1 (Ah a b) with q | q
    ·exact q
    ·rcases xh1 (Ah b a) with q' | q'
     ·exfalso
      have hb':Ah h b:=U.least h (t++x::B) rfl b (by rw[e];simp)
      have bx:Ah b x:=U.most b (by rw[e];simp)
      exact rJ (U.ccw.tri a b x (xiv (by simp) s4)) (U.ccw.tri h a x (xiv (by simp) s4)) (U.ccw.tri h b x (xiv (by simp) s4)) (U.ccw.tri h a b (xiv (by simp) s4)) pb hb' q' bx
     ·exfalso
      have sm:=Ah.total q q'
      have d:=U.ccw.tri h a b (xiv (by simp) s4)
      have:det h a b*b.2.2=0:=by
       have:=sm.1;have:=sm.2
       simp only[det];grind
      have:=pp d pb
      omega
  exact key [] t rfl
theorem xfr {l:List R3}{u v w:R3}{l1 l2 l3 l4:List R3}(h:l=l1++u::(l2++v::(l3++w::l4))):List.Sublist [u,v,w] l:=by
 rw[h]
 refine xiv ?_ (xjE l1 _)
 refine List.Sublist.cons₂ u ?_
 refine xiv ?_ (xjE l2 _)
 refine List.Sublist.cons₂ v ?_
 refine xiv ?_ (xjE l3 _)
 exact List.Sublist.cons₂ w (xjs _)
theorem Up.fall (U:Up A x B)(ne:A≠[]):B.Pairwise fun b c=>Ah c b:=by
 rcases A with _ | ⟨h,t⟩
 ·exact absurd rfl ne
 have key:∀(t1 t2:List R3),B=t1++t2→t2.Pairwise fun b c=>Ah c b:=fun t1 t2=>by
  induction t2 generalizing t1 with
  | nil=>exact fun _=>.nil
  | cons a t2 ih =>
   intro e
   rw[xjx]
   refine⟨fun b hb=>?_,ih (t1++[a]) (by rw[e];simp)⟩
   obtain⟨u1,u2,rfl⟩:=xiA hb
   have s4:List.Sublist [h,x,a,b] (h::t++x::B):=by
    rw[e]
    refine List.Sublist.cons₂ h ?_
    show List.Sublist [x,a,b] (t++x::(t1++a::(u1++b::u2)))
    exact xfr rfl
   have inl:∀v∈[h,x,a,b],v∈(h::t++x::B):=fun v hv=>s4.subset hv
   have pa:=U.pos a (inl a (by simp))
   have pb:=U.pos b (inl b (by simp))
   rcases xh1 (Ah b a) with q | q
   ·exact q
   ·exfalso
    rcases xh1 (Ah a b) with q' | q'
    ·have ha':Ah h a:=U.least h (t++x::B) rfl a (by rw[e];simp)
     have ax:Ah a x:=U.most a (by rw[e];simp)
     exact rJ (U.ccw.tri x a b (xiv (by simp) s4)) (U.ccw.tri h x b (xiv (by simp) s4)) (U.ccw.tri h a b (xiv (by simp) s4)) (U.ccw.tri h x a (xiv (by simp) s4)) pa ha' ax q'
    ·have sm:=Ah.total q' q
     have d:=U.ccw.tri h a b (xiv (by simp) s4)
     have:det h a b*b.2.2=0:=by
      have:=sm.1;have:=sm.2
      simp only[det];grind
     have:=pp d pb
     omega
 exact key [] B rfl
structure xhJ (A:List R3)(x:R3)(B T st:List R3)(A1 A2:List R3):Prop where
 cut:A++[x]=A1++A2
 ne:A1≠[]
 inT:∀v∈A1,v∈T
 out:∀v∈A2,v∉T
 st:st=A1.reverse∨∃b∈B,b∈T∧st=b::A1.reverse∧∀v∈T,v=b∨Ah v b
theorem tL (a b p:R3):det a b p = - det a p b:=by simp only[det];grind
theorem xbG (T:List R3)(p:R3):chP (T++[p])=p::vH (chP T) p:=by unfold chP;rw[xiL];rfl
theorem Up.chain (U:Up A x B)(hne:A≠[])(hS:S.Pairwise Ah)(hm:∀v,v∈S↔v∈A++x::B):∀i,0<i→i≤S.length→∃A1 A2,xhJ A x B (S.take i) (chP (S.take i)) A1 A2:=by
 have lp:∀v∈S,0<v.2.2:=fun v hv=>U.pos v ((hm v).mp hv)
 have rise:=U.rise
 have fall:=U.fall hne
 have nd:=U.ccw.nd
 have el:A++x::B=(A++[x])++B:=by simp
 intro i
 induction i with
 | zero=>intro h;omega
 | succ i ih =>
  intro _ hi
  have hp:S[i]? = some S[i]:=xiP (by omega)
  generalize hpe:S[i]=p at hp
  have pS:p∈S:=xjn hp
  have tk:S.take (i+1)=S.take i++[p]:=by rw[xjH,hp];rfl
  have lt:∀v∈S.take i,Ah v p:=fun v hv=>by
   obtain⟨j,hj,rfl⟩:=xjk.mp hv
   rw[xi6] at hj
   rw[List.getElem_take,←hpe]
   exact List.pairwise_iff_getElem.mp hS j i (by omega) (by omega) (by omega)
  have inT:∀v∈S,Ah v p→v∈S.take i:=fun v hv h=>by
   obtain⟨j,hj,rfl⟩:=xjk.mp hv
   rcases Nat.lt_trichotomy j i with c | c | c
   ·exact xjk.mpr ⟨j,by rw[xi6];omega,List.getElem_take⟩
   ·subst c
    rw[hpe] at h
    exact absurd h (Ah.irrefl p)
   ·have:=List.pairwise_iff_getElem.mp hS i j (by omega) hj c
    rw[hpe] at this
    exact absurd h (jJ (lp p pS) (lp _ hv) this)
  have pT:p∉S.take i:=fun z=>Ah.irrefl p (lt p z)
  rw[tk,xbG]
  rcases Nat.eq_zero_or_pos i with z | ipos
  ·subst z
   rcases A with _ | ⟨h,t⟩
   ·exact absurd rfl hne
   have eh:p=h:=by
    have hS':h∈S:=(hm h).mpr (by simp)
    refine Classical.byContradiction fun ne=>?_
    have ap:Ah h p:=U.least h (t++x::B) rfl p (by
     have:=(hm p).mp pS
     rcases xjf.mp (show p∈h::(t++x::B) from this) with e | e
     ·exact absurd e ne
     ·exact e)
    have:=inT h hS' ap
    simp at this
   subst eh
   refine⟨[p],t++[x],⟨rfl,by simp,fun v hv=>by simpa using hv,fun v hv z=>?_,.inl rfl⟩⟩
   have z:v=p:=by simpa using z
   subst z
   have nd':(v::(t++x::B)).Nodup:=nd
   rw[xju] at nd'
   exact nd'.1 (by
    rcases xjc.mp hv with q | q
    ·exact xjd _ q
    ·rw[xjq.mp q];simp)
  obtain⟨A1,A2,Hf⟩:=ih ipos (by omega)
  obtain⟨A'',a,ea⟩:∃A'' a,A1=A''++[a]:=by
   rcases xiG A1 with e | ⟨A'',a,e⟩
   ·exact absurd e Hf.ne
   ·exact⟨A'',a,by rw[e,xiB]⟩
  have top:∀ {b:R3},det a b p<0→vH A1.reverse p=A1.reverse→vH (b::A1.reverse) p=A1.reverse:=fun {b} hd hst=>by
   rw[ea,xjz] at hst ⊢
   exact(xbd hd).trans hst
  rcases xjc.mp (show p∈(A++[x])++B by rw[←el];exact(hm p).mp pS) with hpA | hpB
  ·rw[Hf.cut] at hpA
   have hp2:p∈A2:=(xjc.mp hpA).resolve_left fun z=>pT (Hf.inT p z)
   rcases A2 with _ | ⟨q,A3⟩
   ·simp at hp2
   have eq:p=q:=by
    refine Classical.byContradiction fun ne=>?_
    have p3:p∈A3:=(xjf.mp hp2).resolve_left ne
    have rr:=rise
    rw[Hf.cut,xjw,xjx] at rr
    have qp:=rr.2.1.1 p p3
    have qS:q∈S:=(hm q).mpr (by rw[el,Hf.cut];simp)
    exact Hf.out q xjh (inT q qS qp)
   subst eq
   have ll:A++x::B=A1++p::(A3++B):=by rw[el,Hf.cut];simp
   have stay:vH A1.reverse p=A1.reverse:=rS fun A' a' a e=>U.ccw.tri a' a p (xfr (l1:=A') (l2:=[]) (l3:=[]) (l4:=A3++B) (by rw[ll,e];simp))
   have go:vH (chP (S.take i)) p=A1.reverse:=by
    rcases Hf.st with e | ⟨b,hb,_,e,_⟩
    ·rw[e];exact stay
    ·rw[e]
     refine top ?_ stay
     obtain⟨u1,u2,eb⟩:=xiA hb
     have:=U.ccw.tri a p b (xfr (l1:=A'') (l2:=[]) (l3:=A3++u1) (l4:=u2) (by rw[ll,ea,eb];simp))
     rw[tL];omega
   refine⟨A1++[p],A3,⟨by rw[Hf.cut];simp,by simp,fun v hv=>?_,fun v hv z=>?_,.inl (by rw[go,xjz];rfl)⟩⟩
   ·rcases xjc.mp hv with q | q
    ·exact xjd _ (Hf.inT v q)
    ·exact xje _ q
   ·rcases xjc.mp z with q | q
    ·exact Hf.out v (xjg _ hv) q
    ·rw[xjq.mp q] at hv
     rw[ll,xjt] at nd
     have:=nd.2.1
     rw[xju] at this
     exact this.1 (xjd _ hv)
  ·obtain⟨u1,u2,eb⟩:=xiA hpB
   have ll:A++x::B=A1++(A2++(u1++p::u2)):=by rw[el,Hf.cut,eb];simp
   have stay:vH A1.reverse p=A1.reverse:=rS fun A' a' a e=>U.ccw.tri a' a p (xfr (l1:=A') (l2:=[]) (l3:=A2++u1) (l4:=u2) (by rw[ll,e];simp))
   have go:vH (chP (S.take i)) p=A1.reverse:=by
    rcases Hf.st with e | ⟨b,hb,hbT,e,_⟩
    ·rw[e];exact stay
    ·rw[e]
     refine top ?_ stay
     have bp:=lt b hbT
     have b2:b∈u2:=by
      rw[eb] at hb
      rcases xjc.mp hb with q | q
      ·rw[eb,xjw] at fall
       have:=fall.2.2 b q p xjh
       exact absurd bp (jJ (lp p pS) (lp b (xjo hbT)) this)
      ·rcases xjf.mp q with e | e
       ·rw[e] at bp;exact absurd bp (Ah.irrefl p)
       ·exact e
     obtain⟨v1,v2,ev⟩:=xiA b2
     have:=U.ccw.tri a p b (xfr (l1:=A'') (l2:=A2++u1) (l3:=v1) (l4:=v2) (by rw[ll,ea,ev];simp))
     rw[tL];omega
   refine⟨A1,A2,⟨Hf.cut,Hf.ne,fun v hv=>xjd _ (Hf.inT v hv),fun v hv z=>?_,.inr ⟨p,hpB,by simp,by rw[go],fun v hv=>?_⟩⟩⟩
   ·rcases xjc.mp z with q | q
    ·exact Hf.out v hv q
    ·rw[xjq.mp q] at hv
     rw[el,Hf.cut,xjt] at nd
     exact nd.2.2 p (xje _ hv) p hpB rfl
   ·rcases xjc.mp hv with q | q
    ·exact .inr (lt v q)
    ·exact .inl (xjq.mp q)
theorem Up.low (U:Up A x B)(hne:A≠[])(hS:S.Pairwise Ah)(hm:∀v,v∈S↔v∈A++x::B):chP S=(A++[x]).reverse:=by
 have ne:S≠[]:=fun z=>by have:=(hm x).mpr (by simp);rw[z] at this;simp at this
 obtain⟨A1,A2,Hf⟩:=U.chain hne hS hm S.length (List.length_pos_iff.mpr ne) (xjK _)
 rw[List.take_length] at Hf
 have e2:A2=[]:=by
  rcases A2 with _ | ⟨q,A3⟩
  ·rfl
  ·exact absurd ((hm q).mpr (by rw[show A++x::B=(A++[x])++B by simp,Hf.cut];simp)) (Hf.out q xjh)
 have cut:=Hf.cut
 rw[e2,xiz] at cut
 rw[cut]
 rcases Hf.st with e | ⟨b,hb,_,_,most⟩
 ·exact e
 ·exfalso
  have bx:=U.most b (xje _ hb)
  rcases most x ((hm x).mpr (by simp)) with z | z
  ·rw[z] at bx;exact Ah.irrefl _ bx
  ·exact jJ (U.pos b (by simp[hb])) (U.pos x (by simp)) bx z
end
def refl (v:R3):R3:=(-v.1,-v.2.1,v.2.2)
theorem tY (v:R3):refl (refl v)=v:=by simp[refl]
theorem bY {v w:R3}(h:refl v=refl w):v=w:=by rw[←tY v,h,tY]
theorem bN (a b c:R3):det (refl a) (refl b) (refl c)=det a b c:=by simp only[det,refl];grind
theorem nq {a b:R3}:Ah (refl a) (refl b)↔Ah b a:=by
 unfold Ah refl
 simp only
 rw[Int.neg_mul,Int.neg_mul,Int.neg_mul,Int.neg_mul]
 constructor
 ·rintro(h | ⟨h1,h2⟩)
  ·exact .inl (by omega)
  ·exact .inr ⟨by omega,by omega⟩
 ·rintro(h | ⟨h1,h2⟩)
  ·exact .inl (by omega)
  ·exact .inr ⟨by omega,by omega⟩
theorem tE (p:R3):∀s:List R3,vH (s.map refl) (refl p)=(vH s p).map refl
 | []=>rfl
 | [_]=>rfl
 | b::a::s=>by
  show vH (refl b::refl a::s.map refl) (refl p)=_
  unfold vH
  rw[bN]
  split
  ·rfl
  ·exact tE p (a::s)
theorem xbj (ps:List R3):chP (ps.map refl)=(chP ps).map refl:=by
 have go:∀(ps s:List R3),(ps.map refl).foldl (fun s p=>p::vH s p) (s.map refl)=(ps.foldl (fun s p=>p::vH s p) s).map refl:=fun ps=>by
  induction ps with
  | nil=>exact fun s=>rfl
  | cons p ps ih =>
   intro s
   rw[xi9,xiM,xiM,tE]
   exact ih (p::vH s p)
 exact go ps []
theorem j8:∀ {l k:List R3},l.map refl=k.map refl→l=k
 | [],[],_=>rfl
 | [],_::_,h=>by simp at h
 | _::_,[],h=>by simp at h
 | a::l,b::k,h=>by
  rw[xi9,xi9] at h
  injection h with h1 h2
  rw[bY h1,j8 h2]
theorem Ccw.refl {l:List R3}(h:Ccw l):Ccw (l.map Pol.refl) where
 tri:=fun u v w s=>by
  obtain⟨k,hk,e⟩:=List.sublist_map_iff.mp s
  rcases k with _ | ⟨a,_ | ⟨b,_ | ⟨c,_ | ⟨d,k⟩⟩⟩⟩
  ·simp at e
  ·simp at e
  ·simp at e
  ·simp only[xi9,xja,List.cons.injEq,and_true] at e
   obtain⟨rfl,rfl,rfl⟩:=e
   rw[bN]
   exact h.tri a b c hk
  ·simp at e
 nd:=by
  rw[List.Nodup,List.pairwise_map]
  exact h.nd.imp fun {a b} n e=>n (bY e)
theorem m8 {l S:List R3}(C:Ccw l)(pos:∀v∈l,0<v.2.2)(least:∀h t,l=h::t→∀v∈t,Ah h v)(h2:2≤l.length)(hS:S.Pairwise Ah)(hm:∀v,v∈S↔v∈l) :
  (chP S).reverse.take ((chP S).length-1)++(chP S.reverse).reverse.take ((chP S.reverse).length-1)=l:=by
 obtain⟨S',x,rfl⟩:∃S' x,S=S'++[x]:=by
  rcases xiG S with e | ⟨S',x,e⟩
  ·exfalso
   rcases l with _ | ⟨a,l⟩
   ·simp at h2
   ·have:=(hm a).mpr xjh
    rw[e] at this;simp at this
  ·exact⟨S',x,by rw[e,xiB]⟩
 obtain⟨A,B,rfl⟩:=xiA ((hm x).mp (by simp))
 have nd:=C.nd
 have most:∀v∈A++B,Ah v x:=fun v hv=>by
  have vl:v∈A++x::B:=by
   rcases xjc.mp hv with q | q
   ·exact xjd _ q
   ·exact xje _ (xjg _ q)
  have ne:v≠x:=fun e=>by
   subst e
   rw[xjt] at nd
   rcases xjc.mp hv with q | q
   ·exact nd.2.2 v q v xjh rfl
   ·exact(xju.mp nd.2.1).1 q
  rcases xjc.mp ((hm v).mpr vl) with q | q
  ·exact(xjw.mp hS).2.2 v q x (by simp)
  ·exact absurd (xjq.mp q) ne
 have U:Up A x B:=⟨C,pos,least,most⟩
 have hne:A≠[]:=fun e=>by
  subst e
  rcases B with _ | ⟨b,B⟩
  ·simp at h2
  ·have a:=least x (b::B) rfl b xjh
   have b':=most b (by simp)
   exact jJ (pos x (by simp)) (pos b (by simp)) a b'
 have low:=U.low hne hS hm
 rcases A with _ | ⟨h,t⟩
 ·exact absurd rfl hne
 have U':Up ((x::B).map Pol.refl) (Pol.refl h) (t.map Pol.refl):=by
  have el:(x::B).map Pol.refl++Pol.refl h::t.map Pol.refl=((x::B)++(h::t)).map Pol.refl:=by rw[xi8];rfl
  refine⟨by rw[el];exact(Ccw.rot (a:=h::t) (b:=x::B) C).refl,fun v hv=>?_,fun h' t' e v hv=>?_,fun v hv=>?_⟩
  ·rw[el] at hv
   obtain⟨w,hw,rfl⟩:=xjl.mp hv
   exact pos w (by
    rcases xjc.mp hw with q | q
    ·exact xje _ q
    ·exact xjd _ q)
  ·have e:Pol.refl x::(B.map Pol.refl++Pol.refl h::t.map Pol.refl)=h'::t':=e
   injection e with e1 e2
   subst e1 e2
   rw[show B.map Pol.refl++Pol.refl h::t.map Pol.refl=(B++h::t).map Pol.refl by rw[xi8];rfl] at hv
   obtain⟨w,hw,rfl⟩:=xjl.mp hv
   rw[nq]
   exact most w (by
    rcases xjc.mp hw with q | q
    ·exact xje _ q
    ·exact xjd _ q)
  ·rw[←xi8] at hv
   obtain⟨w,hw,rfl⟩:=xjl.mp hv
   rw[nq]
   exact least h (t++x::B) rfl w (by
    rcases xjc.mp hw with q | q
    ·exact xje _ q
    ·exact xjd _ q)
 have hi:=U'.low (S:=((S'++[x]).reverse).map Pol.refl) (by simp) (by
  rw[List.pairwise_map,List.pairwise_reverse]
  exact hS.imp fun {a b} q=>nq.mpr q) (fun v=>by
  rw[xjl,show(x::B).map Pol.refl++Pol.refl h::t.map Pol.refl=((x::B)++(h::t)).map Pol.refl by rw[xi8];rfl,xjl]
  refine exists_congr fun w=>and_congr_left fun _=>?_
  rw[List.mem_reverse,hm w,xjc,xjc,Or.comm])
 rw[xbj,show(x::B).map Pol.refl++[Pol.refl h]=((x::B)++[h]).map Pol.refl by rw[xi8];rfl,←List.map_reverse] at hi
 have hi:=j8 hi
 rw[low,hi,List.reverse_reverse,List.reverse_reverse,xi3,xi3,xiW,xiW,xi5,Nat.add_sub_cancel]
 rw[show([h]:List R3).length=1 from rfl,Nat.add_sub_cancel,List.take_left,List.take_left]
end Pol
namespace L2
open PySem PySem.Spec PyProof.Rows
theorem Inv.ghost {X:Cx}{pins:List (Addr×Obj)}{σ:St}{H:Hp}{s:Shared}(I:Inv X pins σ H s){i:Nat}{x:Str}{v:V}(hx:X.N[i]? = some x)(hv:¬Vis X.env.scope x):Inv X pins (σ.set i (some v)) H s :=
 ⟨I.ok,I.os,I.bare,I.base,let ⟨m,hn,hl⟩:=I.loc;⟨m,hn,fun j y u e1 e2 e3=>by
  by_cases hj:j=i
  ·subst hj
   rw[hx] at e1;cases e1
   exact absurd e3 hv
  ·rw[xiT (Ne.symm hj)] at e2
   exact hl j y u e1 e2 e3⟩,I.cell,I.free,I.freeC,I.pin,I.hok,by rw[xi4];exact I.len⟩
section
variable {K:PySem.W.Frag} {B:FB} {φ:Phi} {σ:St} {τ:TSt} {H:Hp}
theorem RS.setSc {i:Nat}{a:Addr}{ns:List Int}(R:RS K B φ σ τ H)(hl:ns.length≤63)(so:og K H a ns):RS K B φ (σ.set i (some (.ref a))) (τ.set i (.sc ns)) H:=by
 have off:∀ {j:Nat} {x:TV},nth (τ.set i (.sc ns)) j=x→x≠.sc ns→j≠i∨x=.un:=fun {j x} e n=>by
  by_cases hj:j=i
  ·subst hj
   by_cases hlt:j<τ.length
   ·rw[yO hlt] at e;exact absurd e.symm n
   ·rw[zG (by rw[xi4];omega)] at e;exact .inr e.symm
  ·exact .inl hj
 refine⟨R.f0,R.s0,R.ext,fun c s=>?_,fun j k c ts hj e1 e2=>?_,R.ow,by rw[xi4,xi4];exact R.len,fun j=>?_,R.gh⟩
 ·rcases s with s | ⟨j,s,hj⟩
  ·exact R.sst c (.inl s)
  ·rcases off hj (fun z=>nomatch z) with q | q
   ·rw[yt q] at hj
    exact R.sst c (.inr ⟨j,s,hj⟩)
   ·cases q
 ·rcases off hj (fun z=>nomatch z) with q | q
  ·rw[yt q] at hj
   exact R.inj j k c ts hj e1 e2
  ·cases q
 ·by_cases hj:j=i
  ·subst hj
   by_cases hlt:j<τ.length
   ·rw[yO hlt,xiU (by rw[R.len];exact hlt)]
    exact⟨a,rfl,hl,so⟩
   ·rw[zG (by rw[xi4];omega)];trivial
  ·rw[yt hj,xiT (Ne.symm hj)]
   exact R.ent j
end
def xaZ (K:PySem.W.Frag)(n:Nat)(fr:Bool)(sp:TSp):Sp:=fun vs H Q E=>(∃(a:Addr) (ns:List Int),ns.length≤63∧og K H a ns)∧spT n true fr sp vs H Q E
section
variable {P:Program} {w:World} {K:PySem.W.Frag} {mg:Str→Option Value} {base:Heap} {k n g:Nat} {x qual gx:Str} {st:Stmt} {f c:Addr} {fd:FuncData} {N ps:List Str} {fr:Bool} {sp:TSp}
theorem oU (F:Fun K x qual st f fd)(hfd:fd.code=.ref c)(S:xA N ps (xh st))(mgx:mg x=some (.ref f))(b:Binds K fd ps [])(hn:ps.length=n+1)(hg:N[g]? = some gx)(hv:(xh st).names.lookup gx=none)
  (body:∀(A:Around) (outer:List Env) (s:Shared) (H:Hp) (E:XK),qZ k (A.deeper (envOfC qual (xh st) s.heap.objs.size f (.ref c))) →
   ∃T D,PSs (gc CX0 P w K mg base N qual (xh st) f (.ref c) A outer s H E).nox (yQ st) T∧OkS K fr T D∧∀ns ts KK,ts.length=n→sp ts KK→D { nx:=fun _=>fr=false∧KK .non,rt:=KK } ((startT N true ts).set g (.sc ns))) :
  Own P w K mg base (k+1) x ps (xaZ K n fr sp):=by
 have hpl:ps.length≤N.length:=by have:=xj0 List.length S.pre;rw[xi6] at this;omega
 have kp:=F.kp
 obtain⟨oc,od,kV,doc,pm,an,cdv,ct,osl,rfl,lk,hcd⟩:=F.ex
 cases (show cdv=.ref c from hfd)
 refine⟨f,_,xbO lk hcd S (fun vs H Q E h=>?_) (fun A outer s H vs Q E hr h=>?_),b,kp,mgx⟩
 ·obtain⟨_,F',S',ts,KK,us,⟨p,e,_⟩,_,_,_,r,l,_⟩:=h
  rw[e,xiX,←r.len,l,hn]
 ·obtain⟨⟨a,ns,hns,so⟩,F',S',ts,KK,us,⟨p,e,hp⟩,hF,hS,hst,r,l,hsp,q⟩:=h
  subst e
  obtain⟨T,D,ht,hd,h⟩:=body A outer s H E hr
  refine⟨fun D σ H=>T D (σ.set g (some (.ref a))) H,fun pins s' σ H' D I hh=>?_,hd _ _ _ _ H _ _ ((rW hp hF hS hst r (by omega)).setSc hns so) (h ns ts KK l hsp) ⟨fun φ σ τ H1 R k=>?_,fun _ _ _ _ _ z=>z.elim,fun _ _ _ _ _ z=>z.elim,fun t v H1 r1 x k fl=>?_⟩⟩
  ·refine @PSs.nox _ _ _ ht pins s' _ H' D (I.ghost hg fun z=>?_) hh
   have z:Vis (xh st) gx:=z
   rcases z with z | z | z<;>rw[hv] at z<;>cases z
  ·obtain⟨k1,k2⟩:=k
   exact q .non .non H1 k2 R.ext (fun a z=>R.sst a (.inl z)) rfl fun z=>by rw[k1] at z;cases z
  ·exact q t v H1 k x.ext x.st r1 fl
end
section
variable {K:PySem.W.Frag}
def xfp (j i:Nat)(sp:TSp)(da:DA):DE:=fun τ KK=>(∃ns,nth τ j=.sc ns)∧br i sp da τ KK
theorem xdE {b fr:Bool}{n i j:Nat}{sp:TSp}{ta:TA}{da:DA}(ha:OkA K b n ta da):OkE K b (xeq (xaZ K n fr sp) (wK (dD i) ta)) (xfp j i sp da):=fun B φ σ τ H Q KK R hd q=>by
 obtain⟨⟨ns,h0⟩,hd⟩:=hd
 have en:=R.ent i
 have es:=R.ent j
 rw[h0] at es
 obtain⟨a,_,hl,so⟩:=es
 unfold br at hd
 revert en hd
 cases hi:nth τ i with
 | st =>
  intro hd ⟨p,e1,e2,e3⟩
  refine⟨_,e1,ha B φ σ τ H _ _ R hd fun ts vs H1 x1 k1 l1 r1=>⟨⟨a,ns,hl,?_⟩,AvB b B φ τ,SA B φ τ,ts,KK,vs,⟨p,rfl,.inr ⟨i,e2,hi⟩⟩,fun a z=>(R.hx x1).domB z,fun a z=>R.sB z,x1.st,r1,l1,k1,fun t v H' k e s r _=>q t v H' (x1.trans ⟨e,s⟩) k r⟩⟩
  have es:=(R.hx x1).ent j
  rw[h0] at es
  obtain⟨a',q1,_,so'⟩:=es
  have en:=R.ent j
  rw[h0] at en
  refine⟨?_,so'.2⟩
  rcases so.1 with ⟨o,z⟩ | z
  ·exact .inl ⟨o,x1.keep a _ z (gC R z)⟩
  ·exact .inr z
 | _=>exact fun z _=>z.elim
end
end L2
namespace L2
open PySem PySem.Spec PyProof.Rows
open AutoSeq1 (wpAny_loadPart') in
theorem aD (l:Addr)(items:Array Value)(n:Nat)(dd:Option Addr)(sl:Array (Option Value))(u:Tok) :
  Meets (Builtin.«tuple.__mul__» ⟨[.ref l,.int 1 u],[]⟩) (fun _ R s=>s.heap.get? l=some { cls:=.type "tuple", dict:=dd,data:=.seq items n,slots:=sl } ∧
   R (.ok (.ret (.ref l))) s) :=
 .of_wp fun prog w A R s h=>by
  obtain⟨hp,g,d,tk,os⟩:=s;obtain⟨hl,h⟩:=h
  have f1:=AutoSeq1.idx_int
  wp_walk using wpAny_loadPart' hl
  exact⟨_,rfl,h⟩
section
variable {X:Cx}
def xfd (K:PySem.W.Frag):R2:=fun x y H Q=>∃a xs,x=.ref a∧y=.int 1∧SqT K H a xs∧Q (.ref a) H
theorem xeg:OpR X (binaryOp .Mult) (xfd X.K):=by
 intro pins s σ H x y v u Q I rx ry h
 obtain⟨a,xs,rfl,rfl,ha,q⟩:=h
 cases rx
 obtain⟨t,rfl⟩:=ry
 obtain⟨its,r,p1,_⟩:=I.tuple ha
 obtain⟨⟨cls,dd,data,sl⟩,ho,hc,n,hd⟩:=id p1
 simp only at hc hd
 subst hc hd
 exact wpAny_binaryOp_repeat_ref (T := "tuple") (U := "int") (by decide) ⟨_,ho,rfl⟩ (fun s'=>typeIs_int s' 1 t) vI F.fills_int_mul F.slot_int_rmul j3 F.slot_int_index.lookup
  (call_meets F.slot_int_rmul (typeIs_int s 1 t) F.entry_int_rmul (F.args_int_rmul_2 _ _) (wj 1 t a its.toArray n dd sl)
   ⟨ho,rfl,⟨_,ho,rfl⟩,call_meets F.slot_tuple_mul ⟨_,ho,rfl⟩ F.entry_tuple_mul (F.args_tuple_mul_2 _ _) (aD a its.toArray n dd sl t) ⟨ho,⟨.ref a,H,I,rfl,q⟩⟩⟩)
def xfQ (K:PySem.W.Frag):R2:=fun x y H Q=>xev K x y H Q∨xfd K x y H Q
theorem xba (K:PySem.W.Frag)(e:X.K=K:=by rfl):OpR X (binaryOp .Mult) (xfQ K):=by subst e;exact(xdo X.K).or xeg
end
section
variable {K:PySem.W.Frag}
def xd5 (x y:Tr)(KK:Tr→Prop):Prop:=match x,y with
 | .tup ts,.int k=>ts≠[]∧(1≤k∧k<2 ^ 63)∧ts.length*k.toNat≤sizeLine∧KK (.tup (List.replicate k.toNat ts).flatten)
 | _,_=>False
theorem xbQ {b:Bool}{ta tb:TE}{da db:DE}(ha:OkE K b ta da)(hb:OkE K b tb db):OkE K b (tOp (xfQ K) ta tb) (d2 xd5 da db):=fun B φ σ τ H Q KK R hd q =>
 ha B φ σ τ H _ _ R hd fun t v H1 x1 k1 r1=>hb B φ σ τ H1 _ _ (R.hx x1) k1 fun u w H2 x2 k2 r2=>by
  have r1':=x2.rep (fun a s=>R.sB s) r1
  have x:=x1.trans x2
  replace k2:xd5 t u KK:=k2
  unfold xd5 at k2
  split at k2
  ·rename_i ts k
   obtain⟨a,ws,e,n,ha',rl⟩:=id r1'
   obtain⟨h0,⟨h1,h2⟩,h3,kk⟩:=k2
   rcases Int.lt_or_eq_of_le h1 with c | c
   ·refine .inl (.inr (.inr ⟨a,k,ws,e,r2,SqT.of ha',fun z=>h0 ?_,by omega,h2,by rw[←rl.len];exact h3,fun p hp=>q _ _ _ (x.trans (HX.new (R.hx x) hp _)) kk ⟨p,_,rfl,fun z=>(R.hx x).domB z hp,xQ,wD hp (rG rl _)⟩⟩))
    have:=rl.len;rw[z] at this;exact xiZ.mp this
   ·subst c
    refine .inr ⟨a,ws,e,r2,SqT.of ha',?_⟩
    have e1:(List.replicate (1:Int).toNat ts).flatten=ts:=by simp
    rw[e1] at kk
    rw[←e]
    exact q _ _ H2 x kk r1'
  ·exact k2.elim
end
end L2
namespace L2
open PySem Trn
def lin (k:Pol.R3→Int)(rows:List Pol.R3)(ns:List Int):Int:=((rows.zip ns).map fun x=>x.2*k x.1).sum
end L2
namespace L2
open PySem PySem.Spec PyProof.Rows
open Builtin.SmallTypes (nextOf)
section
variable {prog:Program} {w:World} {A:Around} {E:Value→Shared→Prop} {s:Shared} {z ti to i1 i2 i3 a1 a2 a3:Addr} {vs us ws:List Value} {t1 t2 t3:Nat→Heap→Prop} {s1 s2 s3:Heap→Prop}
end
end L2
namespace L2
open PySem PySem.Spec PyProof.Rows
section
variable {prog:Program} {w:World} {A:Around} {E:Value→Shared→Prop} {s:Shared}
end
section
variable {P:Program} {w:World} {K:PySem.W.Frag} {z ti to i1 i2 i3 a1 a2 a3:Addr} {b c' e':Bool}
end
section
variable {X:Cx}
end
section
variable {K:PySem.W.Frag}
end
end L2
namespace L2
open PySem PySem.Spec PyProof.Rows
open Builtin.SmallTypes (nextOf)
section
variable {prog:Program} {w:World} {A:Around} {E:Value→Shared→Prop} {s:Shared} {z ti to i1 i2 a1 a2:Addr} {vs us:List Value} {t1 t2:Nat→Heap→Prop} {s1 s2:Heap→Prop}
end
section
variable {P:Program} {w:World} {K:PySem.W.Frag} {z ti to i1 i2 a1 a2:Addr} {b c':Bool}
end
section
variable {X:Cx}
end
end L2
namespace L2
open PySem Trn
end L2
namespace L2
open PySem PySem.Spec PySem.Calls PyProof.Rows
section
variable {X:Cx} {pins:List (Addr×Obj)} {σ:St} {H H':Hp} {s s':Shared} {ea C:Addr}
end
end L2
namespace L2
open PySem PySem.Spec PyProof.Rows
section
variable {X:Cx} {a b:Expr} {rest:List Expr} {ta tb:TE} {pos:Pos}
end
section
variable {K:PySem.W.Frag} {fr:Bool}
end
section
variable {P:Program} {w:World} {K:PySem.W.Frag} {mg:Str→Option Value} {base:Heap} {k n:Nat} {x qual:Str} {st:Stmt} {f:Addr} {fd:FuncData} {N ps:List Str} {fr:Bool} {sp:TSp}
end
end L2
namespace L2
open PySem
end L2
namespace Pol
def sw (p:R3):R3:=(p.2.1,p.1,p.2.2)
end Pol
namespace L2
open PySem PySem.Spec PyProof.Rows
section
variable {rows:List Pol.R3} (FR:uW rows) {r v:Pol.R3} (hr:r∈rows) (hv:v∈kY rows) (ht:xfP r (plc v)=true)
include FR hr
include hv ht
end
end L2
namespace L2
open PySem Trn
end L2
namespace Pol
end Pol
namespace L2
open PySem Trn
end L2
namespace L2
open PySem Trn
theorem xaH {p q w:Pol.R3}(hp:0<p.2.2)(hq:0<q.2.2)(hw:0<w.2.2):bq (plc p) (plc q) (plc w)≤0↔Pol.det p q w≤0:=by
 unfold bq
 have s:=(((sdx hq).minus (sdx hp)).times ((sdy hw).minus (sdy hp))).minus (((sdy hq).minus (sdy hp)).times ((sdx hw).minus (sdx hp)))
 have l:=s.le 0
 rw[xit,xit] at l
 rw[l]
 have D:0<q.2.2*p.2.2*(w.2.2*p.2.2):=Pol.pp (Pol.pp hq hp) (Pol.pp hw hp)
 have e:(q.1*p.2.2-p.1*q.2.2)*(w.2.1*p.2.2-p.2.1*w.2.2)*(q.2.2*p.2.2*(w.2.2*p.2.2))-(q.2.1*p.2.2-p.2.1*q.2.2)*(w.1*p.2.2-p.1*w.2.2)*(q.2.2*p.2.2*(w.2.2*p.2.2))
   = Pol.det p q w*(p.2.2*(q.2.2*p.2.2*(w.2.2*p.2.2))):=by unfold Pol.det;grind
 rw[e]
 have P:=Pol.pp hp D
 generalize p.2.2*(q.2.2*p.2.2*(w.2.2*p.2.2))=M at P
 have:=uX (a:=Pol.det p q w) (b:=0) P
 rw[xit] at this
 exact this
theorem jB {p q:Pol.R3}(hp:0<p.2.2)(hq:0<q.2.2):jn (plc p) (plc q)=true↔Pol.Ah p q:=by
 unfold jn Pol.Ah
 have e:=xde hp hq
 have l1:=lM hp hq
 have l2:=lb hp hq
 split
 ·rename_i h
  have h:=e.mp h
  rw[l2]
  constructor
  ·exact fun z=>.inr ⟨h,z⟩
  ·rintro(z | z)
   ·omega
   ·exact z.2
 ·rename_i h
  rw[l1]
  constructor
  ·exact fun z=>.inl z
  ·rintro(z | z)
   ·exact z
   ·exact absurd (e.mpr z.1) h
def uy (ss:List Pol.R3)(p:Pol.R3):Nat:=(ss.filter fun v=>jn (plc v) (plc p)).length
theorem oI {ss:List Pol.R3}{p:Pol.R3}:uy ss p≤ss.length:=List.length_filter_le _ _
theorem sd {p:Pol.R3}(hp:0<p.2.2):∀ {ss:List Pol.R3},ss.Pairwise Pol.Ah→(∀v∈ss,0<v.2.2)→(∀v∈ss,Pol.Ah v p∨Pol.Ah p v)→(ss.take (uy ss p)++[p]++ss.drop (uy ss p)).Pairwise Pol.Ah
 | [],_,_,_=>by simp[uy]
 | a::t,h,pos,tot=>by
  have ha:=pos a xjh
  rw[xjx] at h
  by_cases c:jn (plc a) (plc p)=true
  ·have e:uy (a::t) p=uy t p+1:=by unfold uy;rw[xiI (p:=fun v=>jn (plc v) (plc p)) c,xiX]
   have ih:=sd hp h.2 (fun v hv=>pos v (xjg _ hv)) (fun v hv=>tot v (xjg _ hv))
   rw[e,List.take_succ_cons,List.drop_succ_cons,xiC,xiC,xjx]
   refine⟨fun v hv=>?_,ih⟩
   rcases xjc.mp hv with hv | hv
   ·rcases xjc.mp hv with hv | hv
    ·exact h.1 v (xjo hv)
    ·rw[xjq.mp hv];exact(jB ha hp).mp c
   ·exact h.1 v (List.mem_of_mem_drop hv)
  ·have pa:Pol.Ah p a:=(tot a xjh).resolve_left fun z=>c ((jB ha hp).mpr z)
   have all:∀v∈a::t,Pol.Ah p v:=fun v hv=>by
    rcases xjf.mp hv with e | hv'
    ·rw[e];exact pa
    ·exact Pol.Ah.trans hp ha (pos v hv) pa (h.1 v hv')
   have e:uy (a::t) p=0:=by
    unfold uy
    rw[xiZ,List.filter_eq_nil_iff]
    exact fun v hv z=>Pol.jJ hp (pos v hv) (all v hv) ((jB (pos v hv) hp).mp z)
   rw[e,List.take_zero,xiF,xjr]
   show(p::a::t).Pairwise Pol.Ah
   rw[xjx]
   exact⟨all,xjx.mpr h⟩
theorem xd6 {ss:List Pol.R3}{p v:Pol.R3}{k:Nat}:v∈ss.take k++[p]++ss.drop k↔v∈ss∨v=p:=by
 have:=xjF k ss
 rw[xjc,xjc,xjq]
 conv=>rhs;lhs;rw[←this,xjc]
 constructor
 ·rintro((z | z) | z)
  ·exact .inl (.inl z)
  ·exact .inr z
  ·exact .inl (.inr z)
 ·rintro((z | z) | z)
  ·exact .inl (.inl z)
  ·exact .inr z
  ·exact .inl (.inr z)
theorem tF.tot {l:List Pol.R3}(hr:tF l){p q:Pol.R3}(hp:p∈l)(hq:q∈l)(ne:p≠q):Pol.Ah p q∨Pol.Ah q p:=by
 rcases xh1 (Pol.Ah p q) with a | a
 ·exact .inl a
 ·rcases xh1 (Pol.Ah q p) with b | b
  ·exact .inr b
  ·exact absurd (nQ (hr.pos p hp) (hr.pos q hq) (hr.prim p hp) (hr.prim q hq) (Pol.Ah.total a b)) ne
theorem mf {ss:List Pol.R3}(h:ss.Pairwise Pol.Ah):ss.Nodup:=h.imp fun {a b} z e=>by rw[e] at z;exact Pol.Ah.irrefl _ z
theorem xbR {l ss:List Pol.R3}(hr:tF l)(hs:ss.Pairwise Pol.Ah)(hm:∀v,v∈ss↔v∈l)(h3:ss.length<3):ss=l :=
 pJ hr (mf hs) hm (fun h t e v hv z=>by
  subst e
  rcases xjf.mp hv with e | hv'
  ·rw[e] at z;exact Pol.Ah.irrefl _ z
  ·exact Pol.jJ (hr.pos h ((hm h).mp xjh)) (hr.pos v ((hm v).mp hv)) ((xjx.mp hs).1 v hv') z) h3
theorem oF {l ss:List Pol.R3}(hr:tF l)(hs:ss.Pairwise Pol.Ah)(hm:∀v,v∈ss↔v∈l)(h3:¬ss.length<3) :
  (Pol.chP ss).reverse.take ((Pol.chP ss).length-1)++(Pol.chP ss.reverse).reverse.take ((Pol.chP ss.reverse).length-1)=l:=by
 have len:=Pol.dA (mf hs) hr.ccw.nd hm
 refine Pol.m8 hr.ccw hr.pos (fun h t e v hv=>?_) (by omega) hs hm
 have nd:=hr.ccw.nd
 rw[e,xju] at nd
 rcases hr.tot (p:=h) (q:=v) (by rw[e];exact xjh) (by rw[e];exact xjg _ hv) (fun z=>nd.1 (by rw[z];exact hv)) with z | z
 ·exact z
 ·exact absurd z (hr.least h t e v (by rw[e];exact xjg _ hv))
open Pol in
theorem cF {p x:R3}:∀ {s:List R3},x∈vH s p→x∈s
 | [],h=>h
 | [_],h=>h
 | b::a::s,h=>by
  unfold vH at h
  split at h
  ·exact h
  ·exact xjg _ (cF h)
open Pol in
theorem aV {p:R3}:∀ {s:List R3},(vH s p).length≤s.length
 | []=>xjK _
 | [_]=>xjK _
 | b::a::s=>by
  unfold vH
  split
  ·exact xjK _
  ·have:=aV (p:=p) (s:=a::s)
   simp only[xiX] at *
   omega
theorem xa8 {ps:List Pol.R3}{i:Nat}{p:Pol.R3}(h:ps[i]? = some p):Pol.chP (ps.take (i+1))=p::Pol.vH (Pol.chP (ps.take i)) p:=Pol.qH (fun s p=>p::Pol.vH s p) [] h
theorem xdb {P:Pol.R3→Prop}{ps:List Pol.R3}(h:∀p∈ps,P p):∀x∈Pol.chP ps,P x:=by
 have go:∀(ps:List Pol.R3) (s:List Pol.R3),(∀p∈ps,P p)→(∀x∈s,P x)→∀x∈ps.foldl (fun s p=>p::Pol.vH s p) s,P x:=fun ps=>by
  induction ps with
  | nil=>exact fun s _ hs=>hs
  | cons p ps ih =>
   intro s hp hs
   exact ih _ (fun q hq=>hp q (xjg _ hq)) fun x hx=>(xjf.mp hx).elim (fun e=>by rw[e];exact hp p xjh) fun hx=>hs x (cF hx)
 exact go ps [] h fun x hx=>by simp at hx
theorem mU (ps:List Pol.R3):(Pol.chP ps).length≤ps.length:=by
 have go:∀(ps:List Pol.R3) (s:List Pol.R3),(ps.foldl (fun s p=>p::Pol.vH s p) s).length≤s.length+ps.length:=fun ps=>by
  induction ps with
  | nil=>exact fun s=>xjK _
  | cons p ps ih =>
   intro s
   have a:=ih (p::Pol.vH s p)
   have b:=aV (p:=p) (s:=s)
   rw[xiM,xiX]
   rw[xiX] at a
   omega
 have:=go ps []
 rw[xi1,xjV] at this
 exact this
theorem xbM {r:Pol.R3}{p:P2}(hx:0<p.1.2)(hy:0<p.2.2):o7 (pE (r.1,1) p.1) (pE (r.2.1,1) p.2)=mG r p:=by
 have e:∀(a:Int) (f:F2),0<f.2→pE (a,1) f=mK a f:=fun a f h=>by
  unfold pE mK
  rw[Int.one_mul,jR h]
 rw[e _ _ hx,e _ _ hy,cI hx hy]
 rfl
theorem nH {r:Pol.R3}{p:P2}:(!aH (r.2.2,1) (mG r p))=zC r p:=by
 unfold aH zC
 rw[xhY,Bool.not_eq_true',decide_eq_false_iff_not,xj5]
 simp only[Int.mul_one]
 omega
def SmR (r:Pol.R3):Prop:=(((-14≤r.1∧r.1≤14)∧(-14≤r.2.1∧r.2.1≤14))∧(-200≤r.2.2∧r.2.2≤200))∧(r.1≠0∨r.2.1≠0)
theorem LF.smr {rows:List Pol.R3}(h:LF rows){r:Pol.R3}(hr:r∈rows):SmR r:=⟨h.sm r hr,h.dir r hr⟩
theorem LF.grow {rows rows':List Pol.R3}(h:LF rows)(hl:rows'.length≤8)(l3:3≤rows'.length)(m:∀r∈rows,r∈rows')(hx:∀r∈rows',SmR r):LF rows' :=
 ⟨l3,hl,fun r hr=>(hx r hr).1,fun r hr=>(hx r hr).2,fun u v hn=>let ⟨r,hr,p⟩:=h.gr u v hn;⟨r,m r hr,p⟩,fun p hz hk=>h.near p hz fun r hr=>hk r (m r hr)⟩
theorem LF.snoc {rows:List Pol.R3}(h:LF rows)(l7:rows.length≤7){r:Pol.R3}(hr:SmR r):LF (rows++[r]):=by
 have:=h.l3
 refine h.grow (by simp;omega) (by simp;omega) (fun x hx=>xjd _ hx) fun x hx=>?_
 rcases xjc.mp hx with z | z
 ·exact h.smr z
 ·rw[xjq.mp z];exact hr
def xbs (r:Pol.R3):Pol.R3:=(-r.1,-r.2.1,-r.2.2)
theorem SmR.neg {r:Pol.R3}(h:SmR r):SmR (xbs r):=by
 unfold SmR xbs at *
 simp only
 omega
def eight (rows:List Pol.R3):List Pol.R3:=rows++List.replicate (8-rows.length) (rows.getD 0 (0,0,0))
theorem LF.eight {rows:List Pol.R3}(h:LF rows):LF (L2.eight rows)∧(L2.eight rows).length=8:=by
 have l3:=h.l3
 have l8:=h.l8
 have len:(L2.eight rows).length=8:=by unfold L2.eight;rw[xiW,xi2];omega
 refine⟨h.grow (by omega) (by omega) (fun x hx=>xjd _ hx) fun x hx=>?_,len⟩
 rcases xjc.mp hx with z | z
 ·exact h.smr z
 ·rw[(List.mem_replicate.mp z).2]
  refine h.smr ?_
  rw[xiN,xiP (by omega)]
  exact xiV _
theorem xa3 {α β:Type}(f:α→β→Bool)(l:List α)(m:List β):(l.all fun a=>m.all fun b=>f a b)=m.all fun b=>l.all fun a=>f a b:=by
 rw[xhY]
 simp only[xiw]
 exact⟨fun h b hb a ha=>h a ha b hb,fun h a ha b hb=>h b hb a ha⟩
theorem tP {rows:List Pol.R3}(h:8<rows.length):isField (.tup (rows.map trR))=false:=by
 rw[qi]
 unfold xy
 rw[xj2 (by omega)]
 rfl
def xgN (n:Nat):Tr→Prop
 | .int i=>¬(0≤i∧i<n)
 | t=>xaX t=false
def xed (p:Pol.R3):Prop:=0<p.2.2∧B3k 190 p
def c_:TSp:=fun ts KK=>∃ps:List Pol.R3,ts=[.lst (ps.map zf)]∧(∀p∈ps,xed p)∧ps.length≤1000∧KK (.lst ((Pol.chP ps).reverse.map zf))
def cB:TSp:=fun ts KK=>∃rows:List Pol.R3,ts=[.lst (rows.map trR)]∧xy rows=true∧rows.length≤9∧KK (.tup (rows.map trR))
def cW (ts:List Tr):Prop:=∃rows:List Pol.R3,ts=[.lst (rows.map trR)]∧rows.length≤9∧isField (.tup (rows.map trR))=false
def xex:TSp:=fun ts KK=>∃(rows:List Pol.R3) (n:Nat) (r:Pol.R3),ts=[.tup (rows.map trR),.int n]∧xy rows=true∧rows[n]? = some r∧xy (rows++[xbs r])=true∧KK (.tup ((rows++[xbs r]).map trR))
def xc3 (ts:List Tr):Prop:=∃(rows:List Pol.R3) (t:Tr),ts=[.tup (rows.map trR),t]∧xy rows=true∧xgN rows.length t
def xcR (ts:List Tr):Prop:=∃(rows:List Pol.R3) (n:Int),ts=[.tup (rows.map trR),.int n]∧xy rows=true∧rows.length=8∧0≤n∧n<8
def inB (rows others:List Pol.R3):Bool:=(kY rows).all fun v=>others.all fun r=>zC r (plc v)
def kW:TSp:=fun ts KK=>∃rows others:List Pol.R3,ts=[.tup (rows.map trR),.tup (others.map trR)]∧xy rows=true∧xy others=true∧KK (.bl (inB rows others))
def aQ:TSp:=fun ts KK=>∃(r:Pol.R3) (p:P2),ts=[trR r,pT p]∧B3k 200 r∧Fk 200 p.1∧Fk 200 p.2∧KK (.bl (zC r p))
def xaN:TSp:=fun ts KK=>∃rows:List Pol.R3,ts=[.tup (rows.map trR)]∧LF rows∧rows.length≤7∧KK (.bl true)
def cE:TSp:=fun ts KK=>ts=[]∧∀rows,LF0 rows→rows.length≤7→KK (.lst (rows.map trR))
def b_:TSp:=fun ts KK=>ts=[]∧∀rows,LF rows→rows.length≤7→KK (.tup (rows.map trR))
end L2
namespace L2
open PySem
theorem xE {X:Cx}(K:PySem.W.Frag)(i:Nat){x:Str}{n:Int}{j p q r}(e:X.K=K:=by rfl)(hN:X.N[i]? = some x:=by rfl)(hv:Vis X.env.scope x:=by first | exact Or.inl rfl | exact Or.inr (Or.inl rfl) | exact Or.inr (Or.inr rfl))(hd:(x == ("__debug__" : Str))=false:=by decide)
  (hcd:(x == ("__classdict__" : Str))=false:=by decide):PE X (.Subscript (.Name x p) (.Constant (.int n) j q) r) (tOp (rIx K) (dD i) (tC (.int n))):=uI (wq K e) (pv i hN hv hd hcd) xi (fun _ _=>rfl)
theorem xD {K:PySem.W.Frag}{i:Nat}{n:Int}:OkE K true (tOp (rIx K) (dD i) (tC (.int n))) (d2 fIx (xem i) (dC (Tr.int n))):=fh xf (xbP (t:=Tr.int _))
theorem yJ {X:Cx}{e te}(a:PE X e te)(h:starEach [e] X.env=(false,eval e X.env)::starEach [] X.env:=by rfl):PA X [e] (wK te nu):=xR a ui h
theorem xU {X:Cx}{e te f tf}(a:PE X e te)(b:PE X f tf)(h:starEach [f] X.env=(false,eval f X.env)::starEach [] X.env:=by rfl)(g:starEach [e,f] X.env=(false,eval e X.env)::starEach [f] X.env:=by rfl):PA X [e,f] (wK te (wK tf nu)):=xR a (xR b ui h) g
theorem xM {K:PySem.W.Frag}{b:Bool}{te:TE}{de:DE}(h:OkE K b te de):OkA K b 1 (wK te nu) (p7 de xds):=xP h zN
theorem xG {K:PySem.W.Frag}{b:Bool}{te tf:TE}{de df:DE}(h:OkE K b te de)(g:OkE K b tf df):OkA K b 2 (wK te (wK tf nu)) (p7 de (p7 df xds)):=xP h (xP g zN)
theorem xu {K:PySem.W.Frag}{i:Int}:OkE K true (tC (.int i)) (dC (.int i)):=xbP
theorem qc {K:PySem.W.Frag}{i:Bool}:OkE K true (tC (.bl i)) (dC (.bl i)):=xbP
theorem yx {N P:List Str}{sc:Scope}(h:sc.kind=.function∧sc.isCoroutine=false∧sc.isGenerator=false∧N.Nodup∧N.take P.length=P∧(∀x∈P,sc.names.lookup x=some .local∨sc.names.lookup x=some .cell)∧∀y∈sc.names,y.2≠.free:=by decide +kernel):xA N P sc:=⟨h.1,h.2.1,h.2.2.1,h.2.2.2.1,h.2.2.2.2.1,h.2.2.2.2.2.1,h.2.2.2.2.2.2⟩
theorem yP {X:Cx}(i:Nat){x:Str}{pos:Pos}(hN:X.N.Nodup)(hi:X.N[i]? = some x:=by rfl)(hx:X.env.scope.names.lookup x=some .local:=by rfl):PG X (.Name x pos) (fY i):=yI hN hi (.inl hx) (.inr hx)
theorem zh {X:Cx}(i:Nat){x:Str}{e:Expr}{te:TE}{pos pos':Pos}(hN:X.N.Nodup)(he:PE X e te)(hi:X.N[i]? = some x:=by rfl)(hx:X.env.scope.names.lookup x=some .local:=by rfl)(hs:swapsWith e (some (.Name x pos')) pos.line X.env=pure false:=by rfl):PS X (.Assign [.Name x pos'] e pos) (xdp te (fY i)):=u5 hN hi (.inl hx) he hs (.inr hx)
end L2
namespace K61
open PySem L2 Trn
def top (i:Nat):Stmt:=PySem.Challenge.pw_roundcuts_k61_sides_and_fields_in_fields.main.body.getD i (.Pass ⟨0,0,0,0⟩)
abbrev jC:Stmt:=top 13
abbrev vz:Stmt:=top 14
abbrev wd:Stmt:=top 15
abbrev si:Stmt:=top 16
abbrev xac:Stmt:=top 17
abbrev nR:Stmt:=top 18
abbrev uL:Stmt:=top 21
abbrev qC:Stmt:=top 22
abbrev jz:Stmt:=top 23
abbrev vf:Stmt:=top 24
abbrev kJ:Stmt:=top 25
abbrev sT:Stmt:=top 26
abbrev we:Stmt:=top 27
abbrev qt:Stmt:=top 28
abbrev jY:Stmt:=top 29
abbrev aa:Stmt:=top 31
abbrev m6:Stmt:=top 32
abbrev nM:Stmt:=top 33
abbrev gE:Stmt:=top 34
abbrev jw:Stmt:=top 35
abbrev jy:Stmt:=top 36
abbrev vc:Stmt:=top 37
abbrev uS:Stmt:=top 39
abbrev uK:Stmt:=top 40
abbrev kU:Stmt:=top 41
abbrev uw:Stmt:=top 42
abbrev gQ:Stmt:=top 44
abbrev qK:Stmt:=top 46
abbrev rK:Stmt:=top 47
abbrev vn:Stmt:=top 48
abbrev uC:Stmt:=top 50
abbrev jT:Stmt:=top 51
abbrev vQ:Stmt:=top 52
abbrev kP:Stmt:=top 53
abbrev kj:Stmt:=top 54
abbrev v_:Stmt:=top 55
abbrev qw:Stmt:=top 56
abbrev qj:Stmt:=top 57
abbrev vY:Stmt:=top 58
abbrev v7:Stmt:=top 59
abbrev kL:Stmt:=top 60
abbrev qB:Stmt:=top 61
abbrev vk:Stmt:=top 62
abbrev wy:Stmt:=top 63
abbrev uh:Stmt:=top 64
abbrev kD:Stmt:=top 65
abbrev wA:Stmt:=top 66
abbrev uM:Stmt:=top 67
abbrev qf:Stmt:=top 68
abbrev jS:Stmt:=top 69
abbrev qu:Stmt:=top 70
abbrev qA:Stmt:=top 71
abbrev wY:Stmt:=top 72
abbrev yq:Stmt:=top 73
abbrev fP:Stmt:=top 74
theorem mL:xA ["thing"] ["thing"] (xh jC):=yx
theorem mh:xA ["things"] ["things"] (xh vz):=yx
theorem zR:xA ["one", "other"] ["one", "other"] (xh wd):=yx
theorem mq:xA ["top", "bottom", "shared"] ["top", "bottom"] (xh si):=yx
theorem xdh:xA ["one", "other"] ["one", "other"] (xh xac):=yx
theorem xbz:xA ["whole", "fraction"] ["whole", "fraction"] (xh nR):=yx
theorem gX:xA ["rows"] ["rows"] (xh uL):=yx
theorem aM:xA ["rows"] ["rows"] (xh qC):=yx
theorem kN:xA ["piece", "rows", "row"] ["piece", "rows"] (xh jz):=yx
theorem rT:xA ["piece"] ["piece"] (xh vf):=yx
theorem zT:xA ["piece", "row", "left", "at", "corner", "before", "crossing"] ["piece", "row"] (xh kJ):=yx
theorem ua:xA ["row", "corner", "a", "b", "c", "x", "y", "bottom"] ["row", "corner"] (xh sT):=yx
theorem yD:xA ["row", "one", "other", "one_off", "other_off", "x", "y", "bottom", "shared"] ["row", "one", "other"] (xh we):=yx
theorem z_:xA ["piece", "start", "at", "corner"] ["piece"] (xh qt):=yx
theorem nh:xA ["one", "other"] ["one", "other"] (xh jY):=yx
theorem xax:xA ["thing"] ["thing"] (xh aa):=yx
theorem xbZ:xA ["row", "place"] ["row", "place"] (xh m6):=yx
theorem aP:xA ["row", "place", "top", "bottom"] ["row", "place"] (xh nM):=yx
theorem ot:xA ["one", "other"] ["one", "other"] (xh gE):=yx
theorem vh:xA ["rows", "first", "left", "right"] ["rows"] (xh jw):=yx
theorem u9:xA ["first", "rows", "sign", "last", "row"] ["first", "rows", "sign"] (xh jy):=yx
theorem q_:xA ["first", "rows", "row"] ["first", "rows"] (xh vc):=yx
theorem nj:xA ["thing"] ["thing"] (xh uS):=yx
theorem wg:xA ["thing", "a", "b", "c"] ["thing"] (xh uK):=yx
theorem oj:xA ["place"] ["place"] (xh kU):=yx
theorem k8:xA ["thing"] ["thing"] (xh uw):=yx
theorem pH:xA ["field"] ["field"] (xh gQ):=yx
theorem vx:xA ["rows", "field"] ["rows"] (xh qK):=yx
theorem vB:xA ["field", "k", "a", "b", "c"] ["field", "k"] (xh rK):=yx
theorem j0:xA ["one", "other", "places"] ["one", "other"] (xh vn):=yx
theorem vU:xA ["_law_one", "_law_other"] ["_law_one", "_law_other"] (xh uC):=yx
theorem kG:xA ["_law_top", "_law_bottom", "_law_by"] ["_law_top", "_law_bottom"] (xh jT):=yx
theorem vj:xA ["_law_one", "_law_other", "_law_by", "_law_x"] ["_law_one", "_law_other"] (xh vQ):=yx
theorem rX:xA ["_law_one", "_law_other"] ["_law_one", "_law_other"] (xh kP):=yx
theorem mx:xA ["_law_one", "_law_other"] ["_law_one", "_law_other"] (xh kj):=yx
theorem aR:xA ["_law_one", "_law_other"] ["_law_one", "_law_other"] (xh v_):=yx
theorem ay:xA ["_law_row", "_law_place"] ["_law_row", "_law_place"] (xh qw):=yx
theorem sW:xA ["_law_row", "_law_place"] ["_law_row", "_law_place"] (xh qj):=yx
theorem aF:xA ["_law_one", "_law_other"] ["_law_one", "_law_other"] (xh vY):=yx
theorem sZ:xA ["_law_one", "_law_other"] ["_law_one", "_law_other"] (xh v7):=yx
theorem jZ:xA ["_law_one", "_law_other", "_law_third", "_law_ahead_here"] ["_law_one", "_law_other", "_law_third"] (xh kL):=yx
theorem vp:xA ["_law_places", "_law_found", "_law_place"] ["_law_places"] (xh qB):=yx
theorem vO:xA ["_law_places", "_law_some", "_law_place"] ["_law_places"] (xh vk):=yx
theorem zy:xA ["_law_rows", "_law_found", "_law_k", "_law_other", "_law_place"] ["_law_rows"] (xh wy):=yx
theorem j4:xA ["_law_found", "_law_due"] ["_law_found", "_law_due"] (xh uh):=yx
theorem uA:xA ["_law_state_here", "_law_many", "_law_found", "_law_stirred"] ["_law_state_here", "_law_many"] (xh kD):=yx
theorem yT:xA ["_law_call", "_law_error", "e", "_law_kinds"] ["_law_call"] (xh wA):=yx
theorem gU:xA ["_law_script", "_law_k"] ["_law_script", "_law_k"] (xh uM):=yx
theorem jd:xA ["_law_script", "_law_k", "_law_cell"] ["_law_script", "_law_k"] (xh qf):=yx
theorem yX:xA ["_law_state_here", "_law_rows", "_law_a", "_law_b", "_law_many", "_law_turn", "_law_x", "_law_y"] ["_law_state_here"] (xh jS):=yx
theorem vi:xA ["_law_state_here", "_law_long", "_law_rows"] ["_law_state_here"] (xh qu):=yx
theorem yn:xA ["_law_state_here", "_law_rows", "_law_way", "_law_u", "_law_v", "_law_found", "_law_a", "_law_b", "_law_c"] ["_law_state_here"] (xh qA):=yx
theorem q9:xA ["_law_one", "_law_other", "_law_places"] ["_law_one", "_law_other"] (xh wY):=yx
theorem yi:xA ["_law_state_here", "_law_field_here", "_law_number", "_law_a", "_law_b", "_law_c", "_law_eight", "_law_bad", "#"] ["_law_state_here", "_law_field_here"] (xh yq):=yx
theorem jq:xA ["_law_script", "_law_k", "_law_state_here", "_law_field_here", "_law_other", "_law_a", "_law_b", "_law_more", "_law_one", "_law_two", "_law_found"] ["_law_script"] (xh fP):=yx
abbrev bn:List Str:=["len", "range", "max", "min", "abs", "isinstance", "tuple", "list", "int", "bool", "str", "dict", "all", "zip", "enumerate", "ValueError"]
section
variable {P:Program} {w:World} {K:PySem.W.Frag} {mg:Str→Option Value} {base:Heap} {f:Addr} {fd:FuncData}
theorem gS (B:Blt mg bn)(F:Fun K "_law_cell_at" "_law_cell_at" uM f fd)(m:mg "_law_cell_at" = some (.ref f))(b:Binds K fd ["_law_script", "_law_k"] []):Own P w K mg base 1 "_law_cell_at" ["_law_script", "_law_k"] (xcv K):=by
 refine fc F gU m b (fun vs H Q E h=>?_) (fun cdv A outer s H vs Q E hr h=>?_)
 ·obtain⟨a,ns,k,rfl,_⟩:=h
  rfl
 obtain⟨a,ns,k,rfl,hS,h63,h0,q⟩:=h
 refine⟨_,(xg (yY (yg xeU (pv 1) (xr (yz K) rfl (B.get "len") wI (xR (pv 0) ui)) (yf _)) (xj (xK (uI (uo K) (pv 0) (pv 1) (fun _ _=>rfl)))) xY)
  (xj (xK xi))),?_⟩
 refine⟨_,rfl,_,rfl,a,_,rfl,.inl hS,_,_,rfl,rfl,_,rfl,?_⟩
 have hl:(ns.map V.int).length=ns.length:=xi0 _
 refine xha (fun c=>?_) (fun c=>?_)
 ·have c':=xj8 c
  rw[hl] at c'
  obtain⟨v,hv⟩:=xb7 h0 c'
  exact⟨_,rfl,_,rfl,a,_,_,_,rfl,rfl,hS,hv,q v⟩
 ·exact q 0
theorem sf (F:Fun K "_law_state" "_law_state" qf f fd)(m:mg "_law_state" = some (.ref f))(b:Binds K fd ["_law_script", "_law_k"] [])(uQ:Own P w K mg base 1 "_law_cell_at" ["_law_script", "_law_k"] (xcv K)) :
  Own P w K mg base 2 "_law_state" ["_law_script", "_law_k"] (nt K):=by
 refine fc F jd m b (fun vs H Q E h=>?_) (fun cdv A outer s H vs Q E hr h=>?_)
 ·obtain⟨a,ns,k,rfl,_⟩:=h
  rfl
 obtain⟨a,ns,k,rfl,hS,h63,h0,q⟩:=h
 refine⟨_,(xg (u5 (i:=2) jd.nd rfl (Or.inl rfl) (xm uQ hr (xR (pv 0) (xR (pv 1) ui))))
  (xg (yY (yg xgK (pv 2) (xB xap xi xi) (yf _)) (xj (xK (yU (xR (xB zA (pv 2) (xB xap xi xi)) (xR vC ui))))) xY)
  (xj (xK (yU (xR (xB se (pv 2) xi) (xR vC ui))))))),?_⟩
 refine⟨_,rfl,_,rfl,a,ns,k,rfl,hS,h63,h0,fun n=>?_⟩
 have pw:xf3 10 18:=⟨by decide,by decide,by decide⟩
 refine⟨_,rfl,_,_,rfl,rfl,pw,_,_,rfl,rfl,_,rfl,?_⟩
 refine xha (fun c=>?_) (fun c=>?_)
 ·have c':n≥10 ^ (18:Int).toNat:=xj8 c
  refine⟨_,rfl,_,_,rfl,rfl,pw,_,_,rfl,rfl,(by show 2≤sizeLine;decide),fun p hp=>q p _ _ hp ⟨?_,fun z=>by cases z⟩⟩
  show 0≤n-10 ^ (18:Int).toNat
  omega
 ·refine⟨_,rfl,_,_,rfl,rfl,(by show(0:Int)<2147483647;decide),(by show 2≤sizeLine;decide),fun p hp=>q p _ _ hp ⟨?_,fun _=>?_⟩⟩
  ·show 0≤n % 2147483647
   omega
  ·show n % 2147483647<2147483647
   omega
theorem mw (F:Fun K "_law_take" "_law_take" kD f fd)(m:mg "_law_take" = some (.ref f))(b:Binds K fd ["_law_state_here", "_law_many"] []):Own P w K mg base 1 "_law_take" ["_law_state_here", "_law_many"] xcw:=by
 refine fc F uA m b (fun vs H Q E h=>?_) (fun cdv A outer s H vs Q E hr h=>?_)
 ·obtain⟨p,k,rfl,_⟩:=h
  rfl
 obtain⟨p,many,rfl,⟨n,bb,hp,hn,hb⟩,h0,h1,q⟩:=h
 refine⟨_,(xg (yY (zB (uI (uo K) (pv 0) xi (fun _ _=>rfl))) (xg (u5 (i:=2) uA.nd rfl (Or.inl rfl) (xB se (uI (uo K) (pv 0) xi (fun _ _=>rfl)) (pv 1)))
  (xg (kb (xB bX (uI (uo K) (pv 0) xi (fun _ _=>rfl)) (pv 1)) (xcA (pv 0) xi set_list))
  (xj (xK (pv 2))))) xY)
  (xg (kb (xB se (xB zF (xB td (uI (uo K) (pv 0) xi (fun _ _=>rfl)) xi) xi) xi) (xcA (pv 0) xi set_list))
  (xg (u5 (i:=3) uA.nd rfl (Or.inl rfl) (xB se (xB zF (xB zF (xB td (uI (uo K) (pv 0) xi (fun _ _=>rfl)) (uI (uo K) (pv 0) xi (fun _ _=>rfl))) (xB td xi (uI (uo K) (pv 0) xi (fun _ _=>rfl)))) xi) xi))
  (xg (u5 (i:=3) uA.nd rfl (Or.inl rfl) (xB se (xB zF (xB td (pv 3) (pv 3)) (xB td xi (pv 3))) xi))
  (xj (xK (xB se (xB bX (pv 3) xi) (pv 1)))))))),?_⟩
 refine⟨_,rfl,p,_,_,_,rfl,rfl,SqL.of hp,rfl,bb,rfl,?_⟩
 have fin:∀(r n':Int),0≤r→r<many→xgo n' bb→Q (.int r) (upd H p (.lst [.int n',.bl bb])):=fun r n' h2 h3 h4=>q r _ h2 h3 ⟨fun b o hb k=>by rw[xN hb];exact k,n',bb,xQ,h4⟩
 cases bb with
 | true =>
  refine om ?_
  refine⟨_,rfl,p,_,_,_,rfl,rfl,SqL.of hp,rfl,_,rfl,_,_,rfl,rfl,h0,?_⟩
  refine⟨_,rfl,p,_,_,_,rfl,rfl,SqL.of hp,rfl,_,rfl,_,_,rfl,rfl,gN h0 h1,?_⟩
  refine⟨_,rfl,p,_,_,0,rfl,rfl,hp,rfl,?_⟩
  refine⟨_,rfl,?_⟩
  exact fin _ _ (xh6 _ (by omega)) (xh5 _ h0) ⟨Int.ediv_nonneg hn (by omega),fun z=>by cases z⟩
 | false =>
  refine nJ ?_
  have hb':=hb rfl
  have cm:∀(i j:Int),0≤i→i<2147483700→xf5 i j:=fun i j a b=>.inl ⟨by omega,by omega⟩
  refine⟨_,rfl,p,_,_,_,rfl,rfl,SqL.of hp,rfl,_,_,rfl,rfl,cm _ _ hn (by omega),_,_,rfl,rfl,_,_,rfl,rfl,(by show(0:Int)<2147483647;decide),?_⟩
  refine⟨_,rfl,p,_,_,0,rfl,rfl,hp,rfl,?_⟩
  have hz:∃z:Int,(n*48271+29) % 2147483647=z∧0≤z∧z<2147483647:=⟨_,rfl,by omega,by omega⟩
  obtain⟨z,ez,z0,z1⟩:=hz
  have hp':(upd H p (.lst [.int z,.bl false])) p=some (.lst [.int z,.bl false]):=xQ
  show xep _ _ _ _ (upd H p (.lst [.int ((n*48271+29) % 2147483647),.bl false]))
  rw[ez]
  refine⟨_,rfl,p,_,_,_,rfl,rfl,SqL.of hp',rfl,_,rfl,p,_,_,_,rfl,rfl,SqL.of hp',rfl,_,_,rfl,rfl,cm _ _ z0 (by omega),?_⟩
  refine⟨_,rfl,p,_,_,_,rfl,rfl,SqL.of hp',rfl,_,_,rfl,rfl,.inl ⟨by decide,by decide⟩,_,_,rfl,rfl,_,_,rfl,rfl,_,_,rfl,rfl,(by show(0:Int)<2147483629;decide),?_⟩
  have hy:∃y:Int,(z*z+39373*z+7) % 2147483629=y∧0≤y∧y<2147483629:=⟨_,rfl,xh6 _ (by decide),xh5 _ (by decide)⟩
  obtain⟨y,ey,y0,y1⟩:=hy
  show xep _ _ _ [_,_,_,some (.int ((z*z+39373*z+7) % 2147483629))] _
  rw[ey]
  refine⟨_,rfl,_,rfl,_,_,rfl,rfl,cm _ _ y0 (by omega),_,rfl,_,_,rfl,rfl,.inl ⟨by decide,by decide⟩,_,_,rfl,rfl,_,_,rfl,rfl,(by show(0:Int)<2147483587;decide),?_⟩
  refine⟨_,rfl,_,_,rfl,rfl,gN (by decide) (by decide),_,rfl,_,_,rfl,rfl,h0,?_⟩
  exact fin _ _ (xh6 _ (by omega)) (xh5 _ h0) ⟨z0,fun _=>z1⟩
end
end K61
namespace K61
open PySem L2 Trn
section
variable {P:Program} {w:World} {K:PySem.W.Frag} {mg:Str→Option Value} {base:Heap} {f:Addr} {fd:FuncData}
theorem qd {kl j:Nat}(B:Blt mg bn)(F:Fun K "_law_refused" "_law_refused" wA f fd)(m:mg "_law_refused" = some (.ref f))(b:Binds K fd ["_law_call"] [])(hj:j<10){C a_CutError:Addr}(Z:ng K C)(m_CutError:mg "CutError" = some (.ref a_CutError))(i_CutError:PySem.W.exmOne K (.ref C) (.ref a_CutError)=some true)(i_ValueError:PySem.W.kitOne K (.ref C) (.type "ValueError")=some true)
  {a_NoField:Addr} (m_NoField:mg "NoField" = some (.ref a_NoField)) (i_NoField:PySem.W.kitOne K (.ref C) (.ref a_NoField)=some (decide (j=0)))
  {a_NoWeights:Addr} (m_NoWeights:mg "NoWeights" = some (.ref a_NoWeights)) (i_NoWeights:PySem.W.kitOne K (.ref C) (.ref a_NoWeights)=some (decide (j=1)))
  {a_NoCut:Addr} (m_NoCut:mg "NoCut" = some (.ref a_NoCut)) (i_NoCut:PySem.W.kitOne K (.ref C) (.ref a_NoCut)=some (decide (j=2)))
  {a_Nothing:Addr} (m_Nothing:mg "Nothing" = some (.ref a_Nothing)) (i_Nothing:PySem.W.kitOne K (.ref C) (.ref a_Nothing)=some (decide (j=3)))
  {a_NoTurn:Addr} (m_NoTurn:mg "NoTurn" = some (.ref a_NoTurn)) (i_NoTurn:PySem.W.kitOne K (.ref C) (.ref a_NoTurn)=some (decide (j=4)))
  {a_NoCorner:Addr} (m_NoCorner:mg "NoCorner" = some (.ref a_NoCorner)) (i_NoCorner:PySem.W.kitOne K (.ref C) (.ref a_NoCorner)=some (decide (j=5)))
  {a_NoNumber:Addr} (m_NoNumber:mg "NoNumber" = some (.ref a_NoNumber)) (i_NoNumber:PySem.W.kitOne K (.ref C) (.ref a_NoNumber)=some (decide (j=6)))
  {a_NoText:Addr} (m_NoText:mg "NoText" = some (.ref a_NoText)) (i_NoText:PySem.W.kitOne K (.ref C) (.ref a_NoText)=some (decide (j=7)))
  {a_NoLine:Addr} (m_NoLine:mg "NoLine" = some (.ref a_NoLine)) (i_NoLine:PySem.W.kitOne K (.ref C) (.ref a_NoLine)=some (decide (j=8)))
  {a_NoDeed:Addr} (m_NoDeed:mg "NoDeed" = some (.ref a_NoDeed)) (i_NoDeed:PySem.W.kitOne K (.ref C) (.ref a_NoDeed)=some (decide (j=9))) :
  Own P w K mg base (kl+1) "_law_refused" ["_law_call"] (lu P w K mg base kl C j):=by
 refine fc F yT m b (fun vs H Q E h=>?_) (fun cdv A outer s H vs Q E hr h=>?_)
 ·obtain⟨g,KX,rfl,_⟩:=h
  rfl
 obtain⟨g,KX,rfl,hfn,hl,q⟩:=h
 refine⟨_,xg (zh 1 yT.nd cD) (xc6 (i:=2) (j:=1) (c:=0) (C:=C) (g:=g) (LP:=fun H1=>H1=H) (KX:=fun _ H1=>KX H1) rfl rfl yT.nd rfl rfl rfl rfl (Or.inl rfl) (Or.inl rfl) rfl rfl m_CutError i_CutError rfl rfl rfl rfl rfl rfl rfl hfn
  (fun pins σ H1 s1 I e=>by cases e;exact hl _ _ _ hr I.env0) (fun ea oe hcl =>
  (xg (u5 (i:=3) yT.nd rfl (Or.inr rfl) (yU (xR (xr (zD (ea:=ea) xjh hcl Z i_NoField) (by rfl) (B.get "isinstance") xI (xU (pv 1) (zj (v:=V.ref a_NoField) (by rfl) m_NoField rfl))) (xU (xr (zD (ea:=ea) xjh hcl Z i_NoWeights) (by rfl) (B.get "isinstance") xI (xU (pv 1) (zj (v:=V.ref a_NoWeights) (by rfl) m_NoWeights rfl))) (xr (zD (ea:=ea) xjh hcl Z i_NoCut) (by rfl) (B.get "isinstance") xI (xU (pv 1) (zj (v:=V.ref a_NoCut) (by rfl) m_NoCut rfl)))))))
  (xg (u5 (i:=3) yT.nd rfl (Or.inr rfl) (xB dZ (pv 3) (yU (xR (xr (zD (ea:=ea) xjh hcl Z i_Nothing) (by rfl) (B.get "isinstance") xI (xU (pv 1) (zj (v:=V.ref a_Nothing) (by rfl) m_Nothing rfl))) (xU (xr (zD (ea:=ea) xjh hcl Z i_NoTurn) (by rfl) (B.get "isinstance") xI (xU (pv 1) (zj (v:=V.ref a_NoTurn) (by rfl) m_NoTurn rfl))) (xr (zD (ea:=ea) xjh hcl Z i_NoCorner) (by rfl) (B.get "isinstance") xI (xU (pv 1) (zj (v:=V.ref a_NoCorner) (by rfl) m_NoCorner rfl))))))))
  (xg (u5 (i:=3) yT.nd rfl (Or.inr rfl) (xB dZ (pv 3) (yU (xR (xr (zD (ea:=ea) xjh hcl Z i_NoNumber) (by rfl) (B.get "isinstance") xI (xU (pv 1) (zj (v:=V.ref a_NoNumber) (by rfl) m_NoNumber rfl))) (xU (xr (zD (ea:=ea) xjh hcl Z i_NoText) (by rfl) (B.get "isinstance") xI (xU (pv 1) (zj (v:=V.ref a_NoText) (by rfl) m_NoText rfl))) (xr (zD (ea:=ea) xjh hcl Z i_NoLine) (by rfl) (B.get "isinstance") xI (xU (pv 1) (zj (v:=V.ref a_NoLine) (by rfl) m_NoLine rfl))))))))
  (xg (zg (fX PySem.F.plainAttrs_list PySem.F.slot_list_append PySem.F.type_list_append wJ (pv 3) (yJ (xr (zD (ea:=ea) xjh hcl Z i_NoDeed) (by rfl) (B.get "isinstance") xI (xU (pv 1) (zj (v:=V.ref a_NoDeed) (by rfl) m_NoDeed rfl))))))
  (xg (yY (zE (zB (xr (xaI (ea:=ea) xjh hcl Z i_ValueError) (by rfl) (B.get "isinstance") xI (xU (pv 1) (zX (v:=V.ty "ValueError") (by rfl) (B.get "ValueError") rg rfl))))) uR xY)
  (xj (xK (uj (za (N:=["_law_k", "_law_kinds"]) (tau:=[none,some 3]) (XN:=["_law_call", "_law_error", "e", "_law_kinds"]) (xs:=xh wA) (by decide +kernel) rfl rfl) rfl (uN rfl) (je rfl (B.get "range") (yJ xi)) (fun _ _ _ _=>(yI (i:=0) (show(["_law_k", "_law_kinds"]:List Str).Nodup by decide +kernel) rfl (Or.inl rfl))) (fun _ _ _ _=>(fb (zB (uI (wq K) (pv 1) (pv 0) (fun _ _=>rfl))))) (fun _ _ _ _=>(pv 0)))))))))))),?_⟩
 refine⟨rfl,rfl,fun ea oe H1 kx=>?_⟩
 refine xfz (j:=j) (xl (wC (vW (xP vZ (xG vZ vZ))))
  (xl (wC (c8 (wN (b:=true) (xP vZ (xG vZ vZ)))))
  (xl (wC (c8 (wN (b:=true) (xP vZ (xG vZ vZ)))))
  (xl (v5 vZ)
  (xl (yC (yR (yW vZ)) jb xT)
  (lC (i:=3) (k_ (zL (qQ (xM xu)).c xn (yW (fh xf xf)) xf)))))))) ?_ fun H2 a e1 e2 e3=>q H1 H2 a kx e1 e2 e3
 refine⟨rfl,rfl,rfl,?_⟩
 refine⟨rfl,rfl,rfl,(show 6≤sizeLine by decide),?_⟩
 refine⟨rfl,rfl,rfl,(show 9≤sizeLine by decide),?_⟩
 refine⟨rfl,(show 9<sizeLine by decide),?_⟩
 refine⟨rfl,?_⟩
 refine⟨by decide,(show 10<sizeLine by decide),?_⟩
 have hs:j=0∨j=1∨j=2∨j=3∨j=4∨j=5∨j=6∨j=7∨j=8∨j=9:=by omega
 clear q kx hl hr
 rcases hs with rfl | rfl | rfl | rfl | rfl | rfl | rfl | rfl | rfl | rfl<;>rfl
end
section
variable {P:Program} {w:World} {K:PySem.W.Frag} {mg:Str→Option Value} {base:Heap} {f:Addr} {fd:FuncData}
end
end K61
namespace K61
open PySem L2 Trn
section
variable {P:Program} {w:World} {K:PySem.W.Frag} {mg:Str→Option Value} {base:Heap} {f:Addr} {fd:FuncData}
theorem nk (B:Blt mg bn)(F:Fun K "is_whole" "is_whole" jC f fd)(m:mg "is_whole" = some (.ref f))(b:Binds K fd ["thing"] [])  :
  Own P w K mg base 1 "is_whole" ["thing"] (spT 1 false false tw):=by
 refine xJ F mL m b rfl (fun _ _ _ _ _ _ hr=>⟨_,_,
  (xj (xK (bI (xr zY rfl (B.get "isinstance") xI (xU (pv 0) (zX (v:=V.ty "int") rfl (B.get "int") xeY rfl))) (rF (xcK (xr zY rfl (B.get "isinstance") xI (xU (pv 0) (zX (v:=V.ty "bool") rfl (B.get "bool") sj rfl)))))))),
  (xF (sF (qh xf) (lS (qh xf)))),fun ts KK hl h=>?_⟩)
 obtain⟨t,rfl,k⟩:=h
 cases t<;>exact k
theorem tN (B:Blt mg bn)(F:Fun K "are_whole" "are_whole" vz f fd)(m:mg "are_whole" = some (.ref f))(b:Binds K fd ["things"] [])(yM:Own P w K mg base 1 "is_whole" ["thing"] (spT 1 false false tw)) :
  Own P w K mg base 2 "are_whole" ["things"] (spT 1 false false mF):=by
 refine xJ F mh m b rfl (fun _ _ _ _ _ _ hr=>⟨_,_,
  (xj (xK (xr (w6 K rfl) rfl (B.get "all") dM (yJ (uj (za (N:=["thing"]) (tau:=[none]) (XN:=["things"]) (xs:=xh vz) (by decide +kernel) rfl rfl) rfl (uN rfl) (zU K (pv 0)) (fun _ _ _ _=>(yI (i:=0) (show(["thing"]:List Str).Nodup by decide +kernel) rfl (Or.inl rfl))) (fun _ _ _ _=>vq) (fun _ _ _ _=>(xm yM hr (yJ (pv 0))))))))),
  (xF (yG jI (xM (OkF.e (zL (y_ xf).c xn wR (xC (xM xf))))))),fun ts KK hl h=>?_⟩)
 obtain⟨t,rfl,us,hs,hz,k⟩:=h
 rcases hs with rfl | rfl
 ·refine⟨hz,qI (fun x=>.bl (xaX x)) (fun x _ N hN=>⟨x,rfl,hN⟩) ⟨us.map xaX,by rw[xi_];rfl,?_⟩⟩
  simpa using k
 ·refine⟨hz,qI (fun x=>.bl (xaX x)) (fun x _ N hN=>⟨x,rfl,hN⟩) ⟨us.map xaX,by rw[xi_];rfl,?_⟩⟩
  simpa using k
theorem kQ (B:Blt mg bn)(F:Fun K "greatest_divisor" "greatest_divisor" wd f fd)(m:mg "greatest_divisor" = some (.ref f))(b:Binds K fd ["one", "other"] [])  :
  Own P w K mg base 1 "greatest_divisor" ["one", "other"] (spT 2 false false xfT):=by
 refine xJ F zR m b rfl (fun _ _ _ _ _ _ hr=>⟨_,_,
  (xg (kh (i:=0) (j:=1) rfl zR.nd rfl rfl (by decide) rfl rfl (xU (xr wX rfl (B.get "abs") ji (yJ (pv 0))) (xr wX rfl (B.get "abs") ji (yJ (pv 1)))) (by rfl))
  (xg (sL PassesOwn.never (yg (uZ hr.units) (pv 1) xi (yf _)) (xj (kh (i:=0) (j:=1) rfl zR.nd rfl rfl (by decide) rfl rfl (xU (pv 1) (xB aI (pv 0) (pv 1))) (by rfl))))
  (xj (xK (pv 0))))),
  (xl (uG (xG (yG k7 (xM xf)) (yG k7 (xM xf))))
  (xl (gR (xS (xk jP xf xu)) (uG (xG xf (xk cT xf xf))))
  (xF xf))),fun ts KK hl h=>?_⟩)
 obtain⟨a,c,rfl,k⟩:=h
 refine fC (fun n τ=>∃x y:Int,τ=[.fz (.int x),.fz (.int y)]∧0≤x∧0≤y∧n=y.toNat∧Int.gcd x y=Int.gcd a c) c.natAbs ⟨_,_,rfl,by split<;>omega,by split<;>omega,by split<;>omega,?_⟩ ?_
 ·have e1:(if a<0 then -a else a)=(a.natAbs:Int):=by split<;>omega
  have e2:(if c<0 then -c else c)=(c.natAbs:Int):=by split<;>omega
  rw[e1,e2];simp[Int.gcd]
 ·rintro n τ N ⟨x,y,rfl,hx,hy,rfl,hg⟩ hN
  refine xZ (b := !decide (y=0)) (fun c0=>?_) (fun c0=>?_)
  ·have c0:y≠0:=by simpa using c0
   have e:x.fmod y=x % y:=xbw hy
   have l:=xh5 x (show 0<y by omega)
   have l0:=xh6 x c0
   refine⟨c0,hN (x % y).toNat _ (by omega) ⟨_,_,rfl,hy,by rw[e];exact l0,by rw[e],?_⟩⟩
   rw[e,←hg,xbU hx hy]
  ·have c0:y=0:=by simpa using c0
   subst c0
   have:(Int.gcd a c:Int)=x:=by rw[←hg];simp[Int.gcd];omega
   exact this▸k
theorem xaq (B:Blt mg bn)(F:Fun K "lowest" "lowest" si f fd)(m:mg "lowest" = some (.ref f))(b:Binds K fd ["top", "bottom"] [])(yo:Own P w K mg base 1 "greatest_divisor" ["one", "other"] (spT 2 false false xfT)) :
  Own P w K mg base 2 "lowest" ["top", "bottom"] (spT 2 false false xf2):=by
 refine xJ F mq m b rfl (fun _ _ _ _ _ _ hr=>⟨_,_,
  (xg (zh 2 mq.nd (xm yo hr (xU (pv 0) (pv 1))))
  (xj (xK (ym (xU (xB vg (pv 0) (pv 2)) (xB vg (pv 1) (pv 2))))))),
  (xl (yh (xC (xG xf xf)))
  (xF (yu (b:=true) (xG (xk ju xf xf) (xk ju xf xf))))),fun ts KK hl h=>?_⟩)
 obtain⟨t,bo,rfl,hb,bd,k⟩:=h
 have gp:(0:Int)<(Int.gcd t bo:Int):=by have:=xh9 t hb;omega
 have gb:=xaG (t:=t) hb bd
 refine⟨t,bo,rfl,⟨by omega,gb⟩,⟨by omega,gb⟩,?_⟩
 show KK (.tup [.int (t.fdiv (Int.gcd t bo)),.int (bo.fdiv (Int.gcd t bo))])
 rw[uu (by omega),uu (by omega)]
 exact k
theorem xd9 (B:Blt mg bn)(F:Fun K "plus" "plus" xac f fd)(m:mg "plus" = some (.ref f))(b:Binds K fd ["one", "other"] [])(wB:Own P w K mg base 2 "lowest" ["top", "bottom"] (spT 2 false false xf2)) :
  Own P w K mg base 3 "plus" ["one", "other"] (spT 2 false false xfE):=by
 refine xJ F xdh m b rfl (fun _ _ _ _ _ _ hr=>⟨_,_,
  (xj (xK (xm wB hr (xU (xB zF (xB xO (xE K 0) (xE K 1)) (xB xO (xE K 1) (xE K 0))) (xB xO (xE K 0) (xE K 1)))))),
  (xF (xC (xG (xk wO (xk xX xD xD) (xk xX xD xD)) (xk xX xD xD)))),fun ts KK hl h=>?_⟩)
 obtain⟨f,g,rfl,hf,hg,k⟩:=h
 have z:=Pol.pp hf.pos hg.pos
 refine⟨⟨hf.top.bd,hg.bot.bd⟩,⟨hg.top.bd,hf.bot.bd⟩,⟨hf.bot.bd,hg.bot.bd⟩,_,_,rfl,by omega,(hf.bot.mul hg.bot).bd,?_⟩
 rw[xca z]
 exact k
theorem xcc (B:Blt mg bn)(F:Fun K "times" "times" nR f fd)(m:mg "times" = some (.ref f))(b:Binds K fd ["whole", "fraction"] [])(wB:Own P w K mg base 2 "lowest" ["top", "bottom"] (spT 2 false false xf2)) :
  Own P w K mg base 3 "times" ["whole", "fraction"] (spT 2 false false xci):=by
 refine xJ F xbz m b rfl (fun _ _ _ _ _ _ hr=>⟨_,_,
  (xj (xK (xm wB hr (xU (xB xO (pv 0) (xE K 1)) (xE K 1))))),
  (xF (xC (xG (xk xX xf xD) xD))),fun ts KK hl h=>?_⟩)
 obtain⟨w,f,rfl,hw,hf,k⟩:=h
 exact⟨⟨hw.bd,hf.top.bd⟩,_,_,rfl,by have:=hf.pos;omega,hf.bot.bd,k⟩
theorem g_ (B:Blt mg bn)(F:Fun K "corners_left" "corners_left" uL f fd)(m:mg "corners_left" = some (.ref f))(b:Binds K fd ["rows"] [])(kI:Own P w K mg base 3 "places_of" ["piece"] (spT 1 false true rH))(qa:Own P w K mg base 5 "piece_left" ["rows"] (spT 1 false false dw)) :
  Own P w K mg base 6 "corners_left" ["rows"] (spT 1 false true qx):=by
 refine xJ F gX m b rfl (fun _ _ _ _ _ _ hr=>⟨_,_,
  (xj (xK (xm kI hr (yJ (xm qa hr (yJ (pv 0))))))),
  (k_ (xas (xM (xC (xM xf))))),fun ts KK hl h=>?_⟩)
 obtain⟨t,rows,rfl,ht,hr,k⟩:=h
 have sm:=hr.small rows.length
 have pl:=hr.plen rows.length
 rw[xjG (xjK _)] at sm pl
 exact⟨t,rows,rfl,ht,hr,_,rfl,sm,pl,k⟩
theorem sY (B:Blt mg bn)(F:Fun K "piece_left" "piece_left" qC f fd)(m:mg "piece_left" = some (.ref f))(b:Binds K fd ["rows"] []){t_FAR:Tok}(dj:mg "FAR" = some (.int 60001 t_FAR))(jK:Own P w K mg base 4 "cut_down" ["piece", "rows"] (spT 2 false false bK)) :
  Own P w K mg base 5 "piece_left" ["rows"] (spT 1 false false dw):=by
 refine xJ F aM m b rfl (fun _ _ _ _ _ _ hr=>⟨_,_,
  (xj (xK (xm jK hr (xU (yU (xR (ym (xR (w_ zq (zj (v:=V.int 60001) rfl dj ⟨_,rfl⟩)) (xU (w_ zq (zj (v:=V.int 60001) rfl dj ⟨_,rfl⟩)) xi))) (xR (ym (xR (zj (v:=V.int 60001) rfl dj ⟨_,rfl⟩) (xU (w_ zq (zj (v:=V.int 60001) rfl dj ⟨_,rfl⟩)) xi))) (xU (ym (xR (zj (v:=V.int 60001) rfl dj ⟨_,rfl⟩) (xU (zj (v:=V.int 60001) rfl dj ⟨_,rfl⟩) xi))) (ym (xR (w_ zq (zj (v:=V.int 60001) rfl dj ⟨_,rfl⟩)) (xU (zj (v:=V.int 60001) rfl dj ⟨_,rfl⟩) xi))))))) (pv 0))))),
  (xF (xC (xG (wN (b:=true) (xP (yu (b:=true) (xP (zt xu) (xG (zt xu) xu))) (xP (yu (b:=true) (xP xu (xG (zt xu) xu))) (xG (yu (b:=true) (xP xu (xG xu xu))) (yu (b:=true) (xP (zt xu) (xG xu xu))))))) xf))),fun ts KK hl h=>?_⟩)
 obtain⟨t,rows,rfl,ht,hr,k⟩:=h
 exact⟨t,[],rows,rfl,ht,hr,k⟩
theorem mT (B:Blt mg bn)(F:Fun K "cut_down" "cut_down" jz f fd)(m:mg "cut_down" = some (.ref f))(b:Binds K fd ["piece", "rows"] [])(ko:Own P w K mg base 3 "cut_piece" ["piece", "row"] (spT 2 false false gW)) :
  Own P w K mg base 4 "cut_down" ["piece", "rows"] (spT 2 false false bK):=by
 refine xJ F kN m b rfl (fun _ _ _ _ _ _ hr=>⟨_,_,
  (xg (ub PassesOwn.never rfl (zU K (pv 1)) (yP 2 kN.nd) (xj (zh 0 kN.nd (xm ko hr (xU (pv 0) (pv 2))))))
  (xj (xK (pv 0)))),
  (xl (zQ (y_ xf) xn.g (yh (xC (xG xf xf))))
  (xF xf)),fun ts KK hl h=>?_⟩)
 obtain⟨t,r0,rows,rfl,ht,hr,k⟩:=h
 have tk:∀i,((r0++rows).take (r0.length+i)).foldl Pol.yK Pol.box=(rows.take i).foldl Pol.yK (Pol.pieces r0):=fun i=>by rw[List.take_append,xjG (by omega),show r0.length+i-r0.length=i by omega,xiL];rfl
 have main:xbr (eName 2) (xgh 0 (xdU gW (p7 (xem 0) (p7 (xem 2) xds)))) { nx:=xgM (xem 0) { nx:=fun x=>false=false∧KK Tr.non,rt:=KK },rt:=KK } (rows.map trR) [.fz (.lst ((Pol.pieces r0).map trR)),.fz t,.un]:=by
  refine wx (fun i τ=>∃x2,τ=[.fz (.lst (((rows.take i).foldl Pol.yK (Pol.pieces r0)).map trR)),.fz t,x2]) ⟨_,rfl⟩ ?_ ?_
  ·rintro i x τ N hx ⟨x2,rfl⟩ hN
   obtain⟨r,hri,rfl⟩:=uH hx
   rw[Pol.qH _ _ hri] at hN
   have sm:=hr.small (r0.length+i)
   have pl:=hr.plen (r0.length+i)
   rw[tk] at sm pl
   exact⟨_,r,rfl,hr.sm r (xje _ (xjn hri)),sm,pl,hN _ ⟨_,rfl⟩⟩
  ·rintro τ ⟨x2,rfl⟩
   rw[xi0,xjG (xjK _)]
   unfold Pol.pieces at k ⊢
   rw[xiL] at k
   exact k
 rcases ht with rfl | rfl<;>exact main
theorem tX (B:Blt mg bn)(F:Fun K "places_of" "places_of" vf f fd)(m:mg "places_of" = some (.ref f))(b:Binds K fd ["piece"] [])(wB:Own P w K mg base 2 "lowest" ["top", "bottom"] (spT 2 false false xf2))(qE:Own P w K mg base 2 "from_least" ["piece"] (spT 1 false true dE)) :
  Own P w K mg base 3 "places_of" ["piece"] (spT 1 false true rH):=by
 refine xJ F rT m b rfl (fun _ _ _ _ _ _ hr=>⟨_,_,
  (xj (xK (uj (za (N:=["x", "y", "bottom"]) (tau:=[none,none,none]) (XN:=["piece"]) (xs:=xh vf) (by decide +kernel) rfl rfl) rfl (kR (wW rfl (wW rfl (wW rfl aB)))) (zU K (xm qE hr (yJ (pv 0)))) (fun _ _ _ _=>(zm K (n:=3) rfl (xH (yI (i:=0) (show(["x", "y", "bottom"]:List Str).Nodup by decide +kernel) rfl (Or.inl rfl)) (xH (yI (i:=1) (show(["x", "y", "bottom"]:List Str).Nodup by decide +kernel) rfl (Or.inl rfl)) (xH (yI (i:=2) (show(["x", "y", "bottom"]:List Str).Nodup by decide +kernel) rfl (Or.inl rfl)) y7))))) (fun _ _ _ _=>vq) (fun _ _ _ _=>(ym (xU (xm wB hr (xU (pv 0) (pv 2))) (xm wB hr (xU (pv 1) (pv 2))))))))),
  (k_ (zL (y_ (xC (xM xf))).c (zi (xt xn (xt xn (xt xn yE)))) wR (yu (b:=true) (xG (xC (xG xf xf)) (xC (xG xf xf)))))),fun ts KK hl h=>?_⟩)
 obtain⟨l,rfl,sm,pl,k⟩:=h
 refine⟨l,rfl,fun v hv=>(sm v hv).1.b3,pl,?_,?_⟩
 ·rw[xi0,vo];exact sqz (by omega)
 ·refine qI (fun x=>match hX x with | some v=>zf v | none=>.non) (fun x hx N hN=>?_) ?_
  ·obtain⟨v,hv,rfl⟩:=xjl.mp hx
   have hb:=sm v (wQ hv)
   exact⟨rfl,_,_,rfl,by omega,hb.1.2.bd,_,_,rfl,by omega,hb.1.2.bd,hN⟩
  ·rw[xi_];exact k
theorem tx (B:Blt mg bn)(F:Fun K "cut_piece" "cut_piece" kJ f fd)(m:mg "cut_piece" = some (.ref f))(b:Binds K fd ["piece", "row"] [])(ue:Own P w K mg base 2 "where_crossed" ["row", "one", "other"] (spT 3 false false cg))(w4:Own P w K mg base 1 "beyond" ["row", "corner"] (spT 2 false false mZ)) :
  Own P w K mg base 3 "cut_piece" ["piece", "row"] (spT 2 false false gW):=by
 refine xJ F zT m b rfl (fun _ _ _ _ _ _ hr=>⟨_,_,
  (xg (zh 2 zT.nd (yU ui))
  (xg (ub PassesOwn.never rfl (mO K rfl (B.get "enumerate") (yJ (pv 0))) (zm K (n:=2) rfl (xH (yP 3 zT.nd) (xH (yP 4 zT.nd) y7))) (xg (zh 5 zT.nd (uI (wq K) (pv 0) (xB zA (pv 3) xi) (fun _ _=>rfl)))
  (xg (yY (yg (kT K hr.units) (xB xO (xm w4 hr (xU (pv 1) (pv 5))) (xm w4 hr (xU (pv 1) (pv 4)))) xi (yf _)) (xg (zh 6 zT.nd (xm ue hr (xR (pv 1) (xU (pv 5) (pv 4)))))
  (xj (yY (yg (xae hr.units) (pv 6) (pv 2) (by with_unfolding_all rfl)) (xj (zg (fX PySem.F.plainAttrs_list PySem.F.slot_list_append PySem.F.type_list_append wJ (pv 2) (yJ (pv 6))))) xY))) xY)
  (xj (yY (yg hV (xm w4 hr (xU (pv 1) (pv 4))) xi (yf _)) (xj (zg (fX PySem.F.plainAttrs_list PySem.F.slot_list_append PySem.F.type_list_append wJ (pv 2) (yJ (pv 4))))) xY)))))
  (xj (xK (pv 2))))),
  (xl (wC (vW zN))
  (xl (zQ (aE (xM xf)) (zi (xt xn (xt xn yE))).g (xl (yh (fh xf (xk zK xf xu)))
  (xl (yC (xS (xk jh (xk xX (xC (xG xf xf)) (xC (xG xf xf))) xu)) (xl (yh (xC (xP xf (xG xf xf))))
  (yC (xS (xk xfS xf fw)) (v5 xf) xT)) xT)
  (yC (xS (xk hU (xC (xG xf xf)) xu)) (v5 xf) xT))))
  gk)),fun ts KK hl h=>?_⟩)
 obtain⟨l,r,rfl,hr,hl',hz,k⟩:=h
 refine wx (all:=vK (l.map trR)) (fun i τ=>∃x3 x4 x5 x6,τ=[.fz (.lst (l.map trR)),.fz (trR r),.ow ((((Pol.cyc l).take i).foldl (Pol.yj r) []).map trR),x3,x4,x5,x6]∧(((Pol.cyc l).take i).foldl (Pol.yj r) []).length≤2*i)
  ⟨_,_,_,_,rfl,xjK _⟩ ?_ ?_
 ·rintro i x τ N hx ⟨x3,x4,x5,x6,rfl,hlen⟩ hN
  obtain⟨v,hv,rfl⟩:=bB hx
  obtain⟨u,hu,hc,ha⟩:=oa hv
  have hvm:=xjn hv
  have hi:=(xiR.mp hv).1
  have fold:=Pol.qH (Pol.yj r) [] hc
  generalize hacc:((Pol.cyc l).take i).foldl (Pol.yj r) []=acc at fold hlen ⊢
  have leaf:∀(ts:List Tr) (y6:TV),ts=(Pol.yj r acc (u,v)).map trR→N [.fz (.lst (l.map trR)),.fz (trR r),.ow ts,.fz (.int i),.fz (trR v),.fz (trR u),y6]:=fun ts y6 e=>by
   rw[fold] at hN
   refine hN _ ⟨_,_,_,y6,by rw[e],?_⟩
   ·have:=Pol.n5 r acc (u,v)
    have s2:(Pol.seg r (u,v)).length≤2:=by unfold Pol.seg;split<;>split<;>simp
    omega
  have bu:=hl' u hu
  have bv:=hl' v hvm
  have len0:∀n:Nat,n≤acc.length+1→n<sizeLine:=fun n hn=>sqz (by omega)
  refine⟨rfl,?_⟩
  show cM (atT (l.map trR) ((i:Int)-1)) _
  rw[ha]
  refine⟨r,u,rfl,hr.b3,bu.1.b3,r,v,rfl,hr.b3,bv.1.b3,⟨(hr.val bu.1).bd,(hr.val bv.1).bd⟩,?_⟩
  refine xZ (b:=decide (Pol.val r u*Pol.val r v<0)) (fun c=>?_) (fun c=>?_)
  ·have c:=xj8 c
   refine⟨r,u,v,rfl,⟨hr,bu.1,bv.1⟩,⟨bu.2,bv.2⟩,c,⟨aW _,uT trR aW acc,(by show(1:Nat)≤60;decide)⟩,?_⟩
   refine xZ (b := !((acc.map trR).any fun t=>teq t (trR (Pol.xq r u v)))) (fun d=>?_) (fun d=>?_)
   ·rw[oA] at d
    have d:Pol.xq r u v∉acc:=by simpa using d
    refine⟨len0 _ (by simp),r,v,rfl,hr.b3,bv.1.b3,?_⟩
    refine xZ (b:=decide (Pol.val r v≤0)) (fun e=>?_) (fun e=>?_)
    ·have e:=xj8 e
     exact⟨len0 _ (by simp),leaf _ _ (by simp[Pol.yj,c,d,e])⟩
    ·have e:=xj7 e
     exact leaf _ _ (by simp[Pol.yj,c,d,e])
   ·rw[oA] at d
    have d:Pol.xq r u v∈acc:=by simpa using d
    refine⟨r,v,rfl,hr.b3,bv.1.b3,?_⟩
    refine xZ (b:=decide (Pol.val r v≤0)) (fun e=>?_) (fun e=>?_)
    ·have e:=xj8 e
     exact⟨len0 _ (by simp),leaf _ _ (by simp[Pol.yj,c,d,e])⟩
    ·have e:=xj7 e
     exact leaf _ _ (by simp[Pol.yj,c,d,e])
  ·have c:=xj7 c
   refine⟨r,v,rfl,hr.b3,bv.1.b3,?_⟩
   refine xZ (b:=decide (Pol.val r v≤0)) (fun e=>?_) (fun e=>?_)
   ·have e:=xj8 e
    exact⟨len0 _ (by simp),leaf _ _ (by simp[Pol.yj,c,e])⟩
   ·have e:=xj7 e
    exact leaf _ _ (by simp[Pol.yj,c,e])
 ·rintro τ ⟨x3,x4,x5,x6,rfl,hlen⟩
  rw[bc,xjG (by rw[Pol.xeh];exact xjK _)]
  exact k
theorem o_ (B:Blt mg bn)(F:Fun K "beyond" "beyond" sT f fd)(m:mg "beyond" = some (.ref f))(b:Binds K fd ["row", "corner"] [])  :
  Own P w K mg base 1 "beyond" ["row", "corner"] (spT 2 false false mZ):=by
 refine xJ F ua m b rfl (fun _ _ _ _ _ _ hr=>⟨_,_,
  (xg (kb (pv 0) (zm K (n:=3) rfl (xH (yP 2 ua.nd) (xH (yP 3 ua.nd) (xH (yP 4 ua.nd) y7)))))
  (xg (kb (pv 1) (zm K (n:=3) rfl (xH (yP 5 ua.nd) (xH (yP 6 ua.nd) (xH (yP 7 ua.nd) y7)))))
  (xj (xK (xB zA (xB zF (xB xO (pv 2) (pv 5)) (xB xO (pv 3) (pv 6))) (xB xO (pv 4) (pv 7))))))),
  (xl (vR xf (zi (xt xn (xt xn (xt xn yE)))).g)
  (xl (vR xf (zi (xt xn (xt xn (xt xn yE)))).g)
  (xF (xk zK (xk wO (xk xX xf xf) (xk xX xf xf)) (xk xX xf xf))))),fun ts KK hl h=>?_⟩)
 obtain⟨r,p,rfl,hr,hp,k⟩:=h
 exact⟨rfl,rfl,⟨hr.1.1,hp.1.1⟩,⟨hr.1.2,hp.1.2⟩,⟨hr.2,hp.2⟩,k⟩
theorem h_ (B:Blt mg bn)(F:Fun K "where_crossed" "where_crossed" we f fd)(m:mg "where_crossed" = some (.ref f))(b:Binds K fd ["row", "one", "other"] [])(yo:Own P w K mg base 1 "greatest_divisor" ["one", "other"] (spT 2 false false xfT))(w4:Own P w K mg base 1 "beyond" ["row", "corner"] (spT 2 false false mZ)) :
  Own P w K mg base 2 "where_crossed" ["row", "one", "other"] (spT 3 false false cg):=by
 refine xJ F yD m b rfl (fun _ _ _ _ _ _ hr=>⟨_,_,
  (xg (kb (ym (xU (xr wX rfl (B.get "abs") ji (yJ (xm w4 hr (xU (pv 0) (pv 1))))) (xr wX rfl (B.get "abs") ji (yJ (xm w4 hr (xU (pv 0) (pv 2))))))) (zm K (n:=2) rfl (xH (yI (i:=3) yD.nd rfl (Or.inr rfl)) (xH (yI (i:=4) yD.nd rfl (Or.inr rfl)) y7))))
  (xg (kb (uj (za (N:=["here", "there", "other_off", "one_off"]) (tau:=[none,none,some 4,some 3]) (XN:=["row", "one", "other", "one_off", "other_off", "x", "y", "bottom", "shared"]) (xs:=xh we) (by decide +kernel) rfl rfl) rfl (kR (wW rfl (wW rfl aB))) (lq K rfl (B.get "zip") (xU (pv 1) (pv 2))) (fun _ _ _ _=>(zm K (n:=2) rfl (xH (yI (i:=0) (show(["here", "there", "other_off", "one_off"]:List Str).Nodup by decide +kernel) rfl (Or.inl rfl)) (xH (yI (i:=1) (show(["here", "there", "other_off", "one_off"]:List Str).Nodup by decide +kernel) rfl (Or.inl rfl)) y7)))) (fun _ _ _ _=>vq) (fun _ _ _ _=>(xB zF (xB xO (pv 2) (pv 0)) (xB xO (pv 3) (pv 1))))) (xdK K (n:=3) rfl (xH (yP 5 yD.nd) (xH (yP 6 yD.nd) (xH (yP 7 yD.nd) y7)))))
  (xg (zh 8 yD.nd (xm yo hr (xU (xm yo hr (xU (pv 5) (pv 6))) (pv 7))))
  (xj (xK (ym (xR (xB vg (pv 5) (pv 8)) (xU (xB vg (pv 6) (pv 8)) (xB vg (pv 7) (pv 8)))))))))),
  (xl (vR (yu (b:=true) (xG (yG k7 (xM (xC (xG xf xf)))) (yG k7 (xM (xC (xG xf xf)))))) (zi (xt xn (xt xn yE))).g)
  (xl (vR (OkF.e (zL (bR (xG xf xf)).c (zi (xt xn (xt xn yE))) wR (xk wO (xk xX xf xf) (xk xX xf xf)))) (xdD (xt xn (xt xn (xt xn yE)))).g)
  (xl (yh (xC (xG (xC (xG xf xf)) xf)))
  (xF (yu (b:=true) (xP (xk ju xf xf) (xG (xk ju xf xf) (xk ju xf xf)))))))),fun ts KK hl h=>?_⟩)
 obtain⟨r,u,v,rfl,⟨hr,hu,hv⟩,⟨zu,zv⟩,hn,k⟩:=h
 have au:Bk 1000 (Pol.abs (Pol.val r u)):=((hr.val hu).mono (by decide)).abs
 have av:Bk 1000 (Pol.abs (Pol.val r v)):=((hr.val hv).mono (by decide)).abs
 have cu:∀ {i},Bk 800 i→CM (Pol.abs (Pol.val r v)) i:=fun h=>⟨av.bd,h.bd⟩
 have cv:∀ {i},Bk 800 i→CM (Pol.abs (Pol.val r u)) i:=fun h=>⟨au.bd,h.bd⟩
 obtain⟨b,_,_,_⟩:=Pol.qO zu zv hn
 have wz:0<(Pol.cw r u v).2.2:=by
  have h1:=Pol.pp b.pa zu
  have h2:=Pol.pp b.pb zv
  show 0<Pol.abs (Pol.val r v)*u.2.2+Pol.abs (Pol.val r u)*v.2.2
  omega
 have wb:Bd (Pol.cw r u v).2.2:=((av.mul hu.2).add (au.mul hv.2)).bd
 have gp:=Pol.qJ wz
 have gb:Bd (Pol.ud (Pol.cw r u v):Int):=xaG (by omega) wb
 refine⟨r,u,rfl,hr.b3,hu.b3,r,v,rfl,hr.b3,hv.b3,rfl,sqz (show(3:Nat)≤1000000 by decide),rfl,cu hu.1.1,cv hv.1.1,rfl,cu hu.1.2,cv hv.1.2,rfl,cu hu.2,cv hv.2,rfl,_,_,rfl,_,_,rfl,⟨?_,gb⟩,⟨?_,gb⟩,⟨?_,gb⟩,?_⟩
 ·show(Pol.ud (Pol.cw r u v):Int)≠0;omega
 ·show(Pol.ud (Pol.cw r u v):Int)≠0;omega
 ·show(Pol.ud (Pol.cw r u v):Int)≠0;omega
 show KK (.tup [.int ((Pol.cw r u v).1.fdiv (Pol.ud (Pol.cw r u v))),.int ((Pol.cw r u v).2.1.fdiv (Pol.ud (Pol.cw r u v))),.int ((Pol.cw r u v).2.2.fdiv (Pol.ud (Pol.cw r u v)))])
 rw[uu (by omega),uu (by omega),uu (by omega)]
 exact k
theorem aj (B:Blt mg bn)(F:Fun K "from_least" "from_least" qt f fd)(m:mg "from_least" = some (.ref f))(b:Binds K fd ["piece"] [])(jX:Own P w K mg base 1 "is_ahead" ["one", "other"] (spT 2 false false xco)) :
  Own P w K mg base 2 "from_least" ["piece"] (spT 1 false true dE):=by
 refine xJ F z_ m b rfl (fun _ _ _ _ _ _ hr=>⟨_,_,
  (xg (zh 1 z_.nd xi)
  (xg (ub PassesOwn.never rfl (mO K rfl (B.get "enumerate") (yJ (pv 0))) (zm K (n:=2) rfl (xH (yP 2 z_.nd) (xH (yP 3 z_.nd) y7))) (xj (yY (zB (xm jX hr (xU (pv 3) (uI (wq K) (pv 0) (pv 1) (fun _ _=>rfl))))) (xj (zh 1 z_.nd (pv 2))) xY)))
  (xj (xK (xB dZ (qL (bZ K) (pv 0) (kO (pv 1)) jE) (qL (bZ K) (pv 0) jE (kO (pv 1)))))))),
  (xl (yh xu)
  (xl (zQ (aE (xM xf)) (zi (xt xn (xt xn yE))).g (yC (yW (xC (xG xf (fh xf xf)))) (yh xf) xT))
  (k_ (nK (xc4 xf (qM xf) qT) (xc4 xf qT (qM xf)))))),fun ts KK hl h=>?_⟩)
 obtain⟨l,rfl,hl',hz,k⟩:=h
 refine wx (all:=vK (l.map trR)) (fun i τ=>∃x2 x3,τ=[.fz (.lst (l.map trR)),.fz (.int ((List.range i).foldl (ye l) 0:Nat)),x2,x3]∧((List.range i).foldl (ye l) 0<l.length∨l=[]))
  ⟨_,_,rfl,?_⟩ ?_ ?_
 ·cases l with
  | nil=>exact .inr rfl
  | cons a t=>exact .inl (by simp)
 ·rintro i x τ N hx ⟨x2,x3,rfl,hlen⟩ hN
  obtain⟨v,hv,rfl⟩:=bB hx
  have hvm:=xjn hv
  have hi:=(xiR.mp hv).1
  have fold:(List.range (i+1)).foldl (ye l) 0=ye l ((List.range i).foldl (ye l) 0) i:=by rw[List.range_succ,xiL];rfl
  generalize hs:(List.range i).foldl (ye l) 0=s at fold hlen ⊢
  have hs':s<l.length:=hlen.resolve_right (fun z=>by rw[z] at hi;simp at hi)
  have eu:atT (l.map trR) (s:Int)=some (trR l[s]):=by rw[fi,xiS,xiP hs'];rfl
  refine⟨rfl,?_⟩
  show cM (atT (l.map trR) (s:Int)) _
  rw[eu]
  have ev:l.getD i (0,0,0)=v:=by rw[xiN,hv];rfl
  have es:l.getD s (0,0,0)=l[s]:=by rw[xiN,xiP hs'];rfl
  refine⟨v,l[s],rfl,hl' _ hvm,hl' _ (xiV hs'),?_⟩
  refine xZ (b:=ahead v l[s]) (fun c=>?_) (fun c=>?_)
  ·have f2:ye l s i=i:=by unfold ye;rw[ev,es,if_pos c]
   rw[fold,f2] at hN
   exact hN _ ⟨_,_,rfl,.inl hi⟩
  ·have c':¬ahead v l[s]=true:=by rw[c];exact xhZ
   have f2:ye l s i=s:=by unfold ye;rw[ev,es,if_neg c']
   rw[fold,f2] at hN
   exact hN _ ⟨_,_,rfl,.inl hs'⟩
 ·rintro τ ⟨x2,x3,rfl,hlen⟩
  rw[bc]
  show(j_ (l.map trR) (some ((vm l:Nat):Int)) none).length+(j_ (l.map trR) none (some ((vm l:Nat):Int))).length≤sizeLine∧KK (.lst (j_ (l.map trR) (some ((vm l:Nat):Int)) none++j_ (l.map trR) none (some ((vm l:Nat):Int))))
  rw[n_,xcr]
  refine⟨xcF (by simp;omega),?_⟩
  unfold yl at k
  rw[xi8,List.map_drop,xjb] at k
  exact k
theorem nv (B:Blt mg bn)(F:Fun K "is_ahead" "is_ahead" jY f fd)(m:mg "is_ahead" = some (.ref f))(b:Binds K fd ["one", "other"] [])  :
  Own P w K mg base 1 "is_ahead" ["one", "other"] (spT 2 false false xco):=by
 refine xJ F nh m b rfl (fun _ _ _ _ _ _ hr=>⟨_,_,
  (xj (xK (zZ (kT K hr.units) (ym (xU (xB xO (xE K 0) (xE K 1)) (xB xO (xE K 0) (xE K 1)))) (ym (xU (xB xO (xE K 1) (xE K 0)) (xB xO (xE K 1) (xE K 0)))) (yf _)))),
  (xF (xk jh (yu (b:=true) (xG (xk xX xD xD) (xk xX xD xD))) (yu (b:=true) (xG (xk xX xD xD) (xk xX xD xD))))),fun ts KK hl h=>?_⟩)
 obtain⟨p,q,rfl,hp,hq,k⟩:=h
 refine⟨⟨hp.1.1,hq.2⟩,⟨hp.1.2,hq.2⟩,⟨hq.1.1,hp.2⟩,⟨hq.1.2,hp.2⟩,[p.1*q.2.2,p.2.1*q.2.2],[q.1*p.2.2,q.2.1*p.2.2],rfl,rfl,?_⟩
 rw[xeZ]
 exact k
theorem xal (B:Blt mg bn)(F:Fun K "is_row" "is_row" aa f fd)(m:mg "is_row" = some (.ref f))(b:Binds K fd ["thing"] [])(kF:Own P w K mg base 2 "are_whole" ["things"] (spT 1 false false mF)) :
  Own P w K mg base 3 "is_row" ["thing"] (spT 1 false false xcq):=by
 refine xJ F xax m b rfl (fun _ _ _ _ _ _ hr=>⟨_,_,
  (xg (yY (PW.pt (fE (zE (zB (xr zY rfl (B.get "isinstance") xI (xU (pv 0) (zX (v:=V.ty "tuple") rfl (B.get "tuple") uk rfl))))) (fE (yg (uZ hr.units) (xr (yz K) rfl (B.get "len") wI (yJ (pv 0))) xi (yf _)) (qY (zE (zB (xm kF hr (yJ (pv 0))))))))) (xj (xK vC)) xY)
  (xj (xK (xes (zZ (uZ hr.units) (xE K 0) xi (yf _)) (rF (zZ (uZ hr.units) (xE K 0) xi (yf _))))))),
  (xl (yC (qz (yR (yW (qh xf))) (qz (xS (xk jP (yG uc (xM xf)) xu)) (yR (yW (xC (xM xf)))))) (xF qc) xT)
  (xF (xcj (xk jP xD xu) (xk jP xD xu)))),fun ts KK hl h=>?_⟩)
 obtain⟨t,rfl,k⟩:=h
 cases t with
 | tup us =>
  refine xZ (b := !decide ((us.length:Int)=3)) (fun c=>?_) (fun c=>?_)
  ·have c:¬(us.length:Int)=3:=by simpa using c
   have e:tU (.tup us)=false:=by
    unfold tU
    cases e:hX (.tup us) with
    | none=>rfl
    | some r =>
     have:=qR e
     unfold trR at this
     injection this with this
     rw[this] at c
     exact absurd rfl c
   rw[e] at k
   exact k
  ·have c:us.length=3:=by simp at c;omega
   obtain⟨x,y,z,rfl⟩:∃x y z,us=[x,y,z]:=by
    match us,c with
    | [x,y,z],_=>exact⟨x,y,z,rfl⟩
   refine⟨_,rfl,_,.inl rfl,xaO c,?_⟩
   cases x with
   | int a =>
    cases y with
    | int b =>
     cases z with
     | int d =>
      show if (!decide (a=0))=true then KK (.bl true) else KK (.bl (!decide (b=0)))
      by_cases ha:a=0<;>by_cases hb:b=0<;>simp[ha,hb,tU,hX] at k ⊢<;>exact k
     | _=>exact k
    | _=>exact k
   | _=>exact k
 | _=>exact k
theorem xb9 (B:Blt mg bn)(F:Fun K "value" "value" m6 f fd)(m:mg "value" = some (.ref f))(b:Binds K fd ["row", "place"] [])(xaC:Own P w K mg base 3 "plus" ["one", "other"] (spT 2 false false xfE))(s_:Own P w K mg base 3 "times" ["whole", "fraction"] (spT 2 false false xci)) :
  Own P w K mg base 4 "value" ["row", "place"] (spT 2 false false xcS):=by
 refine xJ F xbZ m b rfl (fun _ _ _ _ _ _ hr=>⟨_,_,
  (xj (xK (xm xaC hr (xU (xm s_ hr (xU (xE K 0) (xE K 1))) (xm s_ hr (xU (xE K 0) (xE K 1))))))),
  (xF (xC (xG (xC (xG xD xD)) (xC (xG xD xD))))),fun ts KK hl h=>?_⟩)
 obtain⟨a,c,x,p,rfl,ha,hc,hp,k⟩:=h
 have h1:=(Fk.timW ha hp.1).mono (show 800≤900 by decide)
 have h2:=(Fk.timW hc hp.2).mono (show 800≤900 by decide)
 refine⟨a,p.1,rfl,ha.mono (by decide),hp.1.mono (by decide),c,p.2,rfl,hc.mono (by decide),hp.2.mono (by decide),_,_,rfl,h1,h2,?_⟩
 rw[cI hp.1.pos hp.2.pos]
 exact k
theorem xbA (B:Blt mg bn)(F:Fun K "keeps" "keeps" nM f fd)(m:mg "keeps" = some (.ref f))(b:Binds K fd ["row", "place"] [])(mI:Own P w K mg base 4 "value" ["row", "place"] (spT 2 false false xcS)) :
  Own P w K mg base 5 "keeps" ["row", "place"] (spT 2 false false xcz):=by
 refine xJ F aP m b rfl (fun _ _ _ _ _ _ hr=>⟨_,_,
  (xg (kb (xm mI hr (xU (pv 0) (pv 1))) (zm K (n:=2) rfl (xH (yP 2 aP.nd) (xH (yP 3 aP.nd) y7))))
  (xj (xK (zZ hV (pv 2) (xB xO (xE K 0) (pv 3)) (yf _))))),
  (xl (vR (xC (xG xf xf)) (zi (xt xn (xt xn yE))).g)
  (xF (xk hU xf (xk xX xD xf)))),fun ts KK hl h=>?_⟩)
 obtain⟨r,p,rfl,hr,hp,k⟩:=h
 exact⟨r.1,r.2.1,[.int r.2.2],p,rfl,hr.1.1,hr.1.2,hp,rfl,⟨hr.2.bd,(xdx hr hp).bot.bd⟩,k⟩
theorem pL (B:Blt mg bn)(F:Fun K "turn_to" "turn_to" gE f fd)(m:mg "turn_to" = some (.ref f))(b:Binds K fd ["one", "other"] [])  :
  Own P w K mg base 1 "turn_to" ["one", "other"] (spT 2 false false xbc):=by
 refine xJ F ot m b rfl (fun _ _ _ _ _ _ hr=>⟨_,_,
  (xj (xK (xB zA (xB xO (xE K 0) (xE K 1)) (xB xO (xE K 0) (xE K 1))))),
  (xF (xk zK (xk xX xD xD) (xk xX xD xD))),fun ts KK hl h=>?_⟩)
 obtain⟨a,b,c,d,x,y,rfl,hb,k⟩:=h
 exact⟨⟨hb.1.1,hb.2.2⟩,⟨hb.1.2,hb.2.1⟩,k⟩
theorem mV (B:Blt mg bn)(F:Fun K "go_round" "go_round" jw f fd)(m:mg "go_round" = some (.ref f))(b:Binds K fd ["rows"] [])(qF:Own P w K mg base 2 "furthest" ["first", "rows", "sign"] (spT 3 false false r6))(va:Own P w K mg base 2 "points_back" ["first", "rows"] (spT 2 false false xe3))(zJ:Own P w K mg base 1 "turn_to" ["one", "other"] (spT 2 false false xbc)) :
  Own P w K mg base 3 "go_round" ["rows"] (spT 1 false false bF):=by
 refine xJ F vh m b rfl (fun _ _ _ _ _ _ hr=>⟨_,_,
  (xg (yY (yg (uU hr.units) (xr (yz K) rfl (B.get "len") wI (yJ (pv 0))) xi (yf _)) (xj (xK vC)) xY)
  (xg (zh 1 vh.nd (xE K 0))
  (xg (zh 2 vh.nd (xm qF hr (xR (pv 1) (xU (pv 0) xi))))
  (xg (zh 3 vh.nd (xm qF hr (xR (pv 1) (xU (pv 0) (w_ zq xi)))))
  (xg (yY (PW.pt (fE (cQ (lO (pv 2))) (qY (cQ (lO (pv 3)))))) (xj (xK vC)) xY)
  (xj (xK (xes (zZ xa4 (xm zJ hr (xU (pv 2) (pv 3))) xi (yf _)) (rF (xm va hr (xU (pv 1) (pv 0)))))))))))),
  (xl (yC (xS (xk os_eq (yG uc (xM xf)) xu)) (xF qc) xT)
  (xl (yh xD)
  (xl (yh (xC (xP xf (xG xf xu))))
  (xl (yh (xC (xP xf (xG xf (zt xu)))))
  (xl (yC (qz (yW (lD xf)) (yW (lD xf))) (xF qc) xT)
  (xF (xcj (xk xce (xC (xG xf xf)) xu) (xC (xG xf xf))))))))),fun ts KK hl h=>?_⟩)
 obtain⟨rows,rfl,hx,k⟩:=h
 cases rows with
 | nil=>exact k
 | cons r t =>
  have hr:=hx r xjh
  refine⟨r,r::t,1,rfl,.inl rfl,hr,hx,r,r::t,-1,rfl,.inr rfl,hr,hx,?_⟩
  have e:Pol.wL (r::t)=match Pol.far r 1 (r::t),Pol.far r (-1) (r::t) with
   | some l,some k=>decide (0<Pol.turn l k) || Pol.back r (r::t)
   | _,_=>false:=rfl
  rw[e] at k
  cases e1:Pol.far r 1 (r::t) with
  | none=>rw[e1] at k;exact k
  | some l =>
   cases e2:Pol.far r (-1) (r::t) with
   | none=>rw[e1,e2] at k;exact k
   | some q =>
    rw[e1,e2] at k
    have hl2:=hx l (Pol.qU e1).mem
    have hq2:=hx q (Pol.qU e2).mem
    refine⟨l.1,l.2.1,q.1,q.2.1,_,_,rfl,⟨⟨hl2.1.1.bd,hl2.1.2.bd⟩,hq2.1.1.bd,hq2.1.2.bd⟩,?_⟩
    have k:KK (.bl (decide (0<Pol.turn l q) || Pol.back r (r::t))):=k
    refine xZ (b:=decide (0<Pol.turn l q)) (fun c=>?_) (fun c=>?_)
    ·rw[c] at k;exact k
    ·rw[c,Bool.false_or] at k
     exact⟨r,r::t,rfl,hr,hx,k⟩
theorem nN (B:Blt mg bn)(F:Fun K "furthest" "furthest" jy f fd)(m:mg "furthest" = some (.ref f))(b:Binds K fd ["first", "rows", "sign"] [])(zJ:Own P w K mg base 1 "turn_to" ["one", "other"] (spT 2 false false xbc)) :
  Own P w K mg base 2 "furthest" ["first", "rows", "sign"] (spT 3 false false r6):=by
 refine xJ F u9 m b rfl (fun _ _ _ _ _ _ hr=>⟨_,_,
  (xg (zh 3 u9.nd cD)
  (xg (ub PassesOwn.never rfl (zU K (pv 1)) (yP 4 u9.nd) (xj (yY (PW.pt (tu (yg xa4 (xB xO (pv 2) (xm zJ hr (xU (pv 0) (pv 4)))) xi (yf _)) (fq (PW.pt (fE (cQ (lO (pv 3))) (qY (yg xa4 (xB xO (pv 2) (xm zJ hr (xU (pv 3) (pv 4)))) xi (yf _)))))))) (xj (zh 3 u9.nd (pv 4))) xY)))
  (xj (xK (pv 3))))),
  (xl (yh (xbP (t:=Tr.non)))
  (xl (zQ (y_ xf) xn.g (yC (g9 (xS (xk xce (xk xX xf (xC (xG xf xf))) xu)) (qz (yW (lD xf)) (xS (xk xce (xk xX xf (xC (xG xf xf))) xu)))) (yh xf) xT))
  (xF xf))),fun ts KK hl h=>?_⟩)
 obtain⟨r,rows,s,rfl,hs,hr,hx,k⟩:=h
 have tb:∀ {p q:Pol.R3},B3k 900 p→B3k 900 q→Bk 1801 (Pol.turn p q):=fun hp hq=>(hp.1.1.mul hq.1.2).sub (hp.1.2.mul hq.1.1)
 have sb:Bd s:=by rcases hs with rfl | rfl<;>exact xef (by decide) (by decide)
 refine wx (all:=rows.map trR) (fun i τ=>∃x4,τ=[.fz (trR r),.fz (.tup (rows.map trR)),.fz (.int s),.fz (xgp ((rows.take i).foldl (Pol.zW r s) none)),x4]∧∀y,(rows.take i).foldl (Pol.zW r s) none=some y→B3k 900 y) ⟨_,rfl,fun y hy=>by cases hy⟩ ?_ ?_
 ·rintro i x τ N hxi ⟨x4,rfl,hb⟩ hN
  obtain⟨y,hyi,rfl⟩:=uH hxi
  have hy:=hx y (xjn hyi)
  have fold:=Pol.qH (Pol.zW r s) none hyi
  generalize hacc:(rows.take i).foldl (Pol.zW r s) none=acc at fold hb ⊢
  have leaf:∀o:Option Pol.R3,o=Pol.zW r s acc y→N [.fz (trR r),.fz (.tup (rows.map trR)),.fz (.int s),.fz (xgp o),.fz (trR y)]:=fun o e=>by
   rw[fold] at hN
   refine hN _ ⟨_,by rw[e],?_⟩
   ·unfold Pol.zW
    split
    ·intro z hz;cases hz;exact hy
    ·exact hb
  refine⟨r.1,r.2.1,y.1,y.2.1,_,_,rfl,⟨⟨hr.1.1.bd,hr.1.2.bd⟩,hy.1.1.bd,hy.1.2.bd⟩,⟨sb,(tb hr hy).bd⟩,?_⟩
  refine xZ (b:=decide (0<s*Pol.turn r y)) (fun c=>?_) (fun c=>?_)
  ·have c:=xj8 c
   cases acc with
   | none=>exact leaf (some y) (by unfold Pol.zW;rw[if_pos ⟨c,rfl⟩])
   | some z =>
    have hz:=hb z rfl
    refine⟨z.1,z.2.1,y.1,y.2.1,_,_,rfl,⟨⟨hz.1.1.bd,hz.1.2.bd⟩,hy.1.1.bd,hy.1.2.bd⟩,⟨sb,(tb hz hy).bd⟩,?_⟩
    refine xZ (b:=decide (0<s*Pol.turn z y)) (fun d=>?_) (fun d=>?_)
    ·exact leaf (some y) (by unfold Pol.zW;rw[if_pos ⟨c,d⟩])
    ·refine leaf (some z) ?_
     unfold Pol.zW
     rw[if_neg (fun w=>by have w2:decide (0<s*Pol.turn z y)=true:=w.2;rw[d] at w2;cases w2)]
  ·have c:=xj7 c
   exact leaf acc (by unfold Pol.zW;rw[if_neg fun w=>c w.1])
 ·rintro τ ⟨x4,rfl,_⟩
  rw[xi0,xjG (xjK _)]
  exact k
theorem fQ (B:Blt mg bn)(F:Fun K "points_back" "points_back" vc f fd)(m:mg "points_back" = some (.ref f))(b:Binds K fd ["first", "rows"] [])(zJ:Own P w K mg base 1 "turn_to" ["one", "other"] (spT 2 false false xbc)) :
  Own P w K mg base 2 "points_back" ["first", "rows"] (spT 2 false false xe3):=by
 refine xJ F q_ m b rfl (fun _ _ _ _ _ _ hr=>⟨_,_,
  (xg (ub PassesOwn.never rfl (zU K (pv 1)) (yP 2 q_.nd) (xj (yY (PW.pt (tu (yg (uU hr.units) (xm zJ hr (xU (pv 0) (pv 2))) xi (yf _)) (fq (yg (kT K hr.units) (xB zF (xB xO (xE K 0) (xE K 2)) (xB xO (xE K 0) (xE K 2))) xi (yf _))))) (xj (xK vC)) xY)))
  (xj (xK vC))),
  (xl (zQ (y_ xf) xn.g (yC (g9 (xS (xk os_eq (xC (xG xf xf)) xu)) (xS (xk jh (xk wO (xk xX xD xD) (xk xX xD xD)) xu))) (xF qc) xT))
  (xF qc)),fun ts KK hl h=>?_⟩)
 obtain⟨r,rows,rfl,hr,hx,k⟩:=h
 refine wx (all:=rows.map trR) (fun i τ=>∃x2,τ=[.fz (trR r),.fz (.tup (rows.map trR)),x2]∧∀y∈rows.take i,¬(Pol.turn r y=0∧Pol.dot r y<0)) ⟨_,rfl,fun y hy=>by simp at hy⟩ ?_ ?_
 ·rintro i x τ N hxi ⟨x2,rfl,hb⟩ hN
  obtain⟨y,hyi,rfl⟩:=uH hxi
  have hym:=xjn hyi
  have hy:=hx y hym
  have leaf:¬(Pol.turn r y=0∧Pol.dot r y<0)→N [.fz (trR r),.fz (.tup (rows.map trR)),.fz (trR y)]:=fun c=>hN _ ⟨_,rfl,fun z hz=>by
   rw[xjH,hyi] at hz
   rcases xjc.mp hz with q | q
   ·exact hb z q
   ·have:z=y:=by simpa using q
    rw[this];exact c⟩
  refine⟨r.1,r.2.1,y.1,y.2.1,_,_,rfl,⟨⟨hr.1.1.bd,hr.1.2.bd⟩,hy.1.1.bd,hy.1.2.bd⟩,?_⟩
  refine xZ (b:=decide (Pol.turn r y=0)) (fun c=>?_) (fun c=>?_)
  ·have c:=xj8 c
   refine⟨⟨hr.1.1.bd,hy.1.1.bd⟩,⟨hr.1.2.bd,hy.1.2.bd⟩,?_⟩
   refine xZ (b:=decide (Pol.dot r y<0)) (fun d=>?_) (fun d=>?_)
   ·have d:=xj8 d
    have:Pol.back r rows=true:=by unfold Pol.back;rw[xix];exact⟨y,hym,by simp[c,d]⟩
    rw[this] at k
    exact k
   ·have d:=xj7 d
    exact leaf fun w=>d w.2
  ·have c:=xj7 c
   exact leaf fun w=>c w.1
 ·rintro τ ⟨x2,rfl,hb⟩
  rw[xi0,xjG (xjK _)] at hb
  have:Pol.back r rows=false:=by
   unfold Pol.back
   rw[List.any_eq_false]
   intro y hy w
   simp at w
   exact hb y hy w
  rw[this] at k
  exact k
theorem nr (B:Blt mg bn)(F:Fun K "is_field" "is_field" uS f fd)(m:mg "is_field" = some (.ref f))(b:Binds K fd ["thing"] [])(jL:Own P w K mg base 3 "go_round" ["rows"] (spT 1 false false bF))(fO:Own P w K mg base 1 "is_near" ["place"] (spT 1 false false xaK))(ze:Own P w K mg base 6 "corners_left" ["rows"] (spT 1 false true qx))(uE:Own P w K mg base 4 "is_field_row" ["thing"] (spT 1 false false fM)) :
  Own P w K mg base 7 "is_field" ["thing"] (spT 1 false false sG):=by
 refine xJ F nj m b rfl (fun _ _ _ _ _ _ hr=>⟨_,_,
  (xg (yY (PW.pt (fE (zE (zB (xr zY rfl (B.get "isinstance") xI (xU (pv 0) (zX (v:=V.ty "tuple") rfl (B.get "tuple") uk rfl))))) (qY (zE (gA hV hV xi (xr (yz K) rfl (B.get "len") wI (yJ (pv 0))) xi))))) (xj (xK vC)) xY)
  (xg (yY (PW.pt (fE (zE (zB (xr (w6 K rfl) rfl (B.get "all") dM (yJ (uj (za (N:=["row"]) (tau:=[none]) (XN:=["thing"]) (xs:=xh uS) (by decide +kernel) rfl rfl) rfl (uN rfl) (zU K (pv 0)) (fun _ _ _ _=>(yI (i:=0) (show(["row"]:List Str).Nodup by decide +kernel) rfl (Or.inl rfl))) (fun _ _ _ _=>vq) (fun _ _ _ _=>(xm uE hr (yJ (pv 0))))))))) (qY (zE (zB (xm jL hr (yJ (pv 0)))))))) (xj (xK vC)) xY)
  (xj (xK (xr (w6 K rfl) rfl (B.get "all") dM (yJ (uj (za (N:=["place"]) (tau:=[none]) (XN:=["thing"]) (xs:=xh uS) (by decide +kernel) rfl rfl) rfl (uN rfl) (zU K (xm ze hr (yJ (pv 0)))) (fun _ _ _ _=>(yI (i:=0) (show(["place"]:List Str).Nodup by decide +kernel) rfl (Or.inl rfl))) (fun _ _ _ _=>vq) (fun _ _ _ _=>(xm fO hr (yJ (pv 0))))))))))),
  (xl (yC (qz (yR (yW (qh xf))) (yR (xS (gw hU hU xu (yG uc (xM xf)) xu)))) (xF qc) xT)
  (xl (yC (qz (yR (yW (yG jI (xM (OkF.e (zL (y_ xf).c xn wR (xC (xM xf)))))))) (yR (yW (xC (xM xf))))) (xF qc) xT)
  (xF (yG jI (xM (OkF.e (zL (y_ (xC (xM xf))).c xn wR (xC (xM xf))))))))),fun ts KK hl h=>?_⟩)
 obtain⟨t,rfl,k⟩:=h
 cases t with
 | tup us =>
  refine xZ (b:=decide ((3:Int)≤us.length)) (fun c1=>?_) (fun c1=>?_)
  ·have c1:=xj8 c1
   refine xZ (b := !decide ((us.length:Int)≤8)) (fun c2=>?_) (fun c2=>?_)
   ·have c2:8<us.length:=by simp at c2;omega
    have e:isField (.tup us)=false:=by
     show(match rowsOf us with | some rows=>xy rows | none=>false)=false
     cases e:rowsOf us with
     | none=>rfl
     | some rows =>
      show xy rows=false
      unfold xy
      rw[vv e,xi0] at c2
      rw[xj2 (by omega)];rfl
    rw[e] at k
    exact k
   ·have c2:us.length≤8:=by simp at c2;omega
    refine⟨sqz (by omega),qI (fun x=>.bl (zb x)) (fun x _ N hN=>⟨x,rfl,hN⟩) ⟨us.map zb,by rw[xi_];rfl,?_⟩⟩
    rw[List.all_map]
    show if (!us.all zb)=true then _ else _
    refine xZ (fun c=>?_) (fun c=>?_)
    ·rw[pR (by simpa using c)] at k
     exact k
    ·have c:us.all zb=true:=by simpa using c
     obtain⟨rows,rfl,hrows⟩:=mS c
     rw[xi0] at c1 c2
     have ea:(rows.all fun r=>decide ((r.1≠0∨r.2.1≠0)∧Pol.rk r))=true:=by
      rw[xiw];intro r hr;exact xj3 (hrows r hr)
     have ef:isField (.tup (rows.map trR))=(Pol.wL rows&&(Pol.pieces rows).all sM):=by
      show(match rowsOf (rows.map trR) with | some rows=>xy rows | none=>false)=_
      rw[jO]
      show xy rows=_
      unfold xy
      rw[ea,xj3 (by omega)];simp
     rw[ef] at k
     have ok:qg rows:=⟨fun r hr=>(hrows r hr).1,fun r hr=>d_ (hrows r hr).2,by omega⟩
     refine⟨rows,rfl,fun r hr=>(ok.sm r hr).mono (by decide),?_⟩
     refine xZ (b := !Pol.wL rows) (fun d=>?_) (fun d=>?_)
     ·have d:Pol.wL rows=false:=by simpa using d
      rw[d] at k
      exact k
     ·have d:Pol.wL rows=true:=by simpa using d
      rw[d,Bool.true_and] at k
      have sm:=ok.small rows.length
      have pl:=ok.plen rows.length
      rw[xjG (xjK _)] at sm pl
      refine⟨_,rows,rfl,.inl rfl,ok,?_,?_⟩
      ·rw[xi0,vo];exact sqz (by have:(Pol.pieces rows).length≤100000:=pl;omega)
      ·refine qI (fun x=>match x with | .tup [.tup [.int n,.int d],.tup [.int n2,.int d2]]=>.bl (nearF n d&&nearF n2 d2) | _=>.non) (fun x hx N hN=>?_) ?_
       ·obtain⟨v,hv,rfl⟩:=xjl.mp hx
        have hb:=sm v (wQ hv)
        have ld:∀i,Bd (rj i v.2.2):=fun i=>xd1 hb.2 hb.1.2.bd
        refine⟨[(ni v.1 v.2.2,rj v.1 v.2.2),(ni v.2.1 v.2.2,rj v.2.1 v.2.2)],rfl,(show(2:Nat)≤1000 by decide),fun f hf=>?_,?_⟩
        ·simp only[xjf,xjv,xj9] at hf
         rcases hf with rfl | rfl<;>exact ld _
        ·have e:([(ni v.1 v.2.2,rj v.1 v.2.2),(ni v.2.1 v.2.2,rj v.2.1 v.2.2)].all fun f=>nearF f.1 f.2)=(nearF (ni v.1 v.2.2) (rj v.1 v.2.2)&&nearF (ni v.2.1 v.2.2) (rj v.2.1 v.2.2)):=by simp
         rw[e];exact hN
       ·refine⟨(yl (Pol.pieces rows)).map sM,by rw[xi_,xi_];rfl,?_⟩
        rw[List.all_map]
        have e:=sI sM (Pol.pieces rows)
        show KK (.bl ((yl (Pol.pieces rows)).all sM))
        rw[e];exact k
  ·have c1:us.length<3:=by have:=xj7 c1;omega
   have e:isField (.tup us)=false:=by
    show(match rowsOf us with | some rows=>xy rows | none=>false)=false
    cases e:rowsOf us with
    | none=>rfl
    | some rows =>
     show xy rows=false
     unfold xy
     rw[vv e,xi0] at c1
     rw[xj2 (by omega)];rfl
   rw[e] at k
   exact k
 | _=>exact k
theorem g6 (B:Blt mg bn)(F:Fun K "is_field_row" "is_field_row" uK f fd)(m:mg "is_field_row" = some (.ref f))(b:Binds K fd ["thing"] [])(sH:Own P w K mg base 3 "is_row" ["thing"] (spT 1 false false xcq)) :
  Own P w K mg base 4 "is_field_row" ["thing"] (spT 1 false false fM):=by
 refine xJ F wg m b rfl (fun _ _ _ _ _ _ hr=>⟨_,_,
  (xg (yY (zE (zB (xm sH hr (yJ (pv 0))))) (xj (xK vC)) xY)
  (xg (kb (pv 0) (zm K (n:=3) rfl (xH (yP 1 wg.nd) (xH (yP 2 wg.nd) (xH (yP 3 wg.nd) y7)))))
  (xj (xK (bI (zZ hV (xr wX rfl (B.get "abs") ji (yJ (pv 1))) xi (yf _)) (bI (zZ hV (xr wX rfl (B.get "abs") ji (yJ (pv 2))) xi (yf _)) (rF (zZ hV (xr wX rfl (B.get "abs") ji (yJ (pv 3))) xi (yf _))))))))),
  (xl (yC (yR (yW (xC (xM xf)))) (xF qc) xT)
  (xl (vR xf (zi (xt xn (xt xn (xt xn yE)))).g)
  (xF (sF (xk hU (yG k7 (xM xf)) xu) (sF (xk hU (yG k7 (xM xf)) xu) (xk hU (yG k7 (xM xf)) xu)))))),fun ts KK hl h=>?_⟩)
 obtain⟨t,rfl,k⟩:=h
 refine⟨t,rfl,?_⟩
 unfold tU
 unfold zb at k
 cases e:hX t with
 | none=>rw[e] at k;exact k
 | some r =>
  rw[e] at k
  cases qR e
  have k:KK (.bl (decide ((r.1≠0∨r.2.1≠0)∧Pol.rk r))):=k
  refine xZ (b := !decide (r.1≠0∨r.2.1≠0)) (fun c=>?_) (fun c=>?_)
  ·have c:¬(r.1≠0∨r.2.1≠0):=by simpa using c
   rw[xj2 fun w=>c w.1] at k
   exact k
  ·have c:r.1≠0∨r.2.1≠0:=by simp at c;omega
   refine⟨rfl,?_⟩
   have ab:∀i m:Int,(if i<0 then -i else i)≤m↔-m≤i∧i≤m:=fun i m=>by split<;>omega
   refine xZ (b:=decide ((if r.1<0 then -r.1 else r.1)≤30)) (fun d=>?_) (fun d=>?_)
   ·have d:=(ab _ _).mp (xj8 d)
    refine xZ (b:=decide ((if r.2.1<0 then -r.2.1 else r.2.1)≤30)) (fun d2=>?_) (fun d2=>?_)
    ·have d2:=(ab _ _).mp (xj8 d2)
     show KK (.bl (decide ((if r.2.2<0 then -r.2.2 else r.2.2)≤1000)))
     have e3:decide ((r.1≠0∨r.2.1≠0)∧Pol.rk r)=decide ((if r.2.2<0 then -r.2.2 else r.2.2)≤1000):=by
      rw[xj1,ab]
      exact⟨fun w=>w.2.2,fun w=>⟨c,⟨d,d2⟩,w⟩⟩
     rw[←e3];exact k
    ·have d2:=fun w=>xj7 d2 ((ab _ _).mpr w)
     rw[xj2 fun w=>d2 w.2.1.2] at k
     exact k
   ·have d:=fun w=>xj7 d ((ab _ _).mpr w)
    rw[xj2 fun w=>d w.2.1.1] at k
    exact k
theorem pM (B:Blt mg bn)(F:Fun K "is_near" "is_near" kU f fd)(m:mg "is_near" = some (.ref f))(b:Binds K fd ["place"] [])  :
  Own P w K mg base 1 "is_near" ["place"] (spT 1 false false xaK):=by
 refine xJ F oj m b rfl (fun _ _ _ _ _ _ hr=>⟨_,_,
  (xj (xK (xr (w6 K rfl) rfl (B.get "all") dM (yJ (uj (za (N:=["top", "bottom"]) (tau:=[none,none]) (XN:=["place"]) (xs:=xh kU) (by decide +kernel) rfl rfl) rfl (kR (wW rfl (wW rfl aB))) (zU K (pv 0)) (fun _ _ _ _=>(zm K (n:=2) rfl (xH (yI (i:=0) (show(["top", "bottom"]:List Str).Nodup by decide +kernel) rfl (Or.inl rfl)) (xH (yI (i:=1) (show(["top", "bottom"]:List Str).Nodup by decide +kernel) rfl (Or.inl rfl)) y7)))) (fun _ _ _ _=>vq) (fun _ _ _ _=>(zZ hV (xr wX rfl (B.get "abs") ji (yJ (pv 0))) (xB xO xi (pv 1)) (yf _)))))))),
  (xF (yG jI (xM (OkF.e (zL (y_ xf).c (zi (xt xn (xt xn yE))) wR (xk hU (yG k7 (xM xf)) (xk xX xu xf))))))),fun ts KK hl h=>?_⟩)
 obtain⟨fs,rfl,hz,hb,k⟩:=h
 refine⟨by rw[xi0];exact sqz (by omega),?_⟩
 have ab:∀i m:Int,decide ((if i<0 then -i else i)≤12*m)=nearF i m:=fun i m=>by
  unfold nearF
  rw[xj1];split<;>omega
 refine qI (fun x=>match x with | .tup [.int n,.int d]=>.bl (nearF n d) | _=>.non) (fun x hx N hN=>?_) ?_
 ·obtain⟨f,hf,rfl⟩:=xjl.mp hx
  refine⟨rfl,⟨xef (by decide) (by decide),hb f hf⟩,?_⟩
  show N (.bl (decide ((if f.1<0 then -f.1 else f.1)≤12*f.2)))
  rw[ab];exact hN
 ·refine⟨fs.map fun f=>nearF f.1 f.2,by rw[xi_,xi_];rfl,?_⟩
  rw[List.all_map];exact k
theorem sV (B:Blt mg bn)(F:Fun K "need_field" "need_field" uw f fd)(m:mg "need_field" = some (.ref f))(b:Binds K fd ["thing"] [])(w9:Own P w K mg base 7 "is_field" ["thing"] (spT 1 false false sG)) :
  Own P w K mg base 8 "need_field" ["thing"] (spT 1 false false wt):=by
 refine xJ F k8 m b rfl (fun _ _ _ _ _ _ hr=>⟨_,_,
  (xj (yY (zE (zB (xm w9 hr (yJ (pv 0))))) (xj rf) xY)),
  (yC (yR (yW (xC (xM xf)))) jb xT),fun ts KK hl h=>?_⟩)
 obtain⟨t,rfl,hf,k⟩:=h
 refine⟨t,rfl,?_⟩
 rw[hf]
 exact⟨rfl,k⟩
theorem pK (B:Blt mg bn)(F:Fun K "corners" "corners" gQ f fd)(m:mg "corners" = some (.ref f))(b:Binds K fd ["field"] [])(xV:Own P w K mg base 8 "need_field" ["thing"] (spT 1 false false wt))(ze:Own P w K mg base 6 "corners_left" ["rows"] (spT 1 false true qx)) :
  Own P w K mg base 9 "corners" ["field"] (spT 1 false true be):=by
 refine xJ F pH m b rfl (fun _ _ _ _ _ _ hr=>⟨_,_,
  (xg (zg (xm xV hr (yJ (pv 0))))
  (xj (xK (xm ze hr (yJ (pv 0)))))),
  (xl (qP (xC (xM xf)))
  (k_ (xas (xM xf)))),fun ts KK hl h=>?_⟩)
 obtain⟨rows,rfl,hf,FR,k⟩:=h
 exact⟨_,rfl,wo hf,_,rows,rfl,.inl rfl,FR.rows,k⟩
end
end K61
namespace K61
open PySem L2 Trn
section
variable {P:Program} {w:World} {K:PySem.W.Frag} {mg:Str→Option Value} {base:Heap} {f:Addr} {fd:FuncData}
theorem m9 (B:Blt mg bn)(F:Fun K "as_field" "as_field" qK f fd)(m:mg "as_field" = some (.ref f))(b:Binds K fd ["rows"] [])(xV:Own P w K mg base 8 "need_field" ["thing"] (spT 1 false false wt)) :
  Own P w K mg base 9 "as_field" ["rows"] (spT 1 false false cB):=by
 refine xJ F vx m b rfl (fun _ _ _ _ _ _ hr=>⟨_,_,
  (xg (zh 1 vx.nd (qy (ku K) rfl (B.get "tuple") uk (yJ (pv 0))))
  (xg (zg (xm xV hr (yJ (pv 1))))
  (xj (xK (pv 1))))),
  (xl (yh (bO (xM xf)))
  (xl (qP (xC (xM xf)))
  (xF xf))),fun ts KK hl h=>?_⟩)
 obtain⟨rows,rfl,hf,h9,k⟩:=h
 exact⟨_,rfl,wo hf,k⟩
theorem xda (B:Blt mg bn)(F:Fun K "side" "side" rK f fd)(m:mg "side" = some (.ref f))(b:Binds K fd ["field", "k"] [])(xV:Own P w K mg base 8 "need_field" ["thing"] (spT 1 false false wt))(jA:Own P w K mg base 9 "as_field" ["rows"] (spT 1 false false cB))(yM:Own P w K mg base 1 "is_whole" ["thing"] (spT 1 false false tw)) :
  Own P w K mg base 10 "side" ["field", "k"] (spT 2 false false xex):=by
 refine xJ F vB m b rfl (fun _ _ _ _ _ _ hr=>⟨_,_,
  (xg (zg (xm xV hr (yJ (pv 0))))
  (xg (yY (PW.pt (fE (zE (zB (xm yM hr (yJ (pv 1))))) (qY (zE (gA hV (kT K hr.units) xi (pv 1) (xr (yz K) rfl (B.get "len") wI (yJ (pv 0)))))))) (xj rf) xY)
  (xg (kb (uI (wq K) (pv 0) (pv 1) (fun _ _=>rfl)) (zm K (n:=3) rfl (xH (yP 2 vB.nd) (xH (yP 3 vB.nd) (xH (yP 4 vB.nd) y7)))))
  (xj (xK (xm jA hr (yJ (xB dZ (qy (dX K) rfl (B.get "list") gL (yJ (pv 0))) (yU (yJ (ym (xR (w_ zq (pv 2)) (xU (w_ zq (pv 3)) (w_ zq (pv 4))))))))))))))),
  (xl (qP (xC (xM xf)))
  (xl (yC (qz (yR (yW (xC (xM xf)))) (yR (xS (gw hU jh xu xf (yG uc (xM xf)))))) jb xT)
  (xl (vR (fh xf xf) (zi (xt xn (xt xn (xt xn yE)))).g)
  (xF (xC (xM (OkF.e (nK (OkF.e (bT (xM xf))) (wN (b:=true) (xM (yu (b:=true) (xP (zt xf) (xG (zt xf) (zt xf)))))))))))))),fun ts KK hl h=>?_⟩)
 obtain⟨rows,n,r,rfl,hf,hr,hf2,k⟩:=h
 have l8:=(xb3 hf).1.2
 have hn:=(xiR.mp hr).1
 have ml:(rows.map trR).length=rows.length:=xi0 _
 refine xW (fun τ=>τ=[.fz (.tup (rows.map trR)),.fz (.int n),.un,.un,.un]) ?_ (fun N hN=>⟨_,rfl,wo hf,hN _ rfl⟩)
 rintro _ rfl
 refine xW (fun τ=>τ=[.fz (.tup (rows.map trR)),.fz (.int n),.un,.un,.un]) ?_ (fun N hN=>?_)
 rotate_left
 ·refine⟨_,rfl,?_⟩
  have hw:xaX (.int (n:Int))=true:=rfl
  generalize xaX (.int (n:Int))=w' at hw
  refine xZ (b := !w') (fun c=>by rw[hw] at c;cases c) (fun _=>?_)
  have hz:(0:Int)≤(n:Int)∧(n:Int)<((rows.map trR).length:Nat):=by rw[ml];omega
  generalize (n:Int)=z at hz hN
  refine xZ (b:=decide ((0:Int)≤z)) (fun c=>?_) (fun c=>absurd hz.1 (xj7 c))
  exact xZ (b := !decide (z<((rows.map trR).length:Nat))) (fun c=>absurd hz.2 (xj7 (by simpa using c))) (fun _=>hN _ rfl)
 rintro _ rfl
 have at0:atT (rows.map trR) (n:Int)=some (trR r):=by rw[fi,xiS,hr];rfl
 refine xW (fun τ=>τ=[.fz (.tup (rows.map trR)),.fz (.int n),.fz (.int r.1),.fz (.int r.2.1),.fz (.int r.2.2)]) ?_ (fun N hN=>?_)
 rotate_left
 ·show cM (atT (rows.map trR) (n:Int)) _
  rw[at0]
  exact⟨rfl,hN _ rfl⟩
 rintro _ rfl
 refine⟨xcF (by show(rows.map trR).length+1≤_;rw[ml];omega),rows++[xbs r],?_,hf2,by simp;omega,k⟩
 rw[xi8]
 rfl
theorem t8 (B:Blt mg bn)(F:Fun K "is_within" "is_within" vn f fd)(m:mg "is_within" = some (.ref f))(b:Binds K fd ["one", "other"] [])(fG:Own P w K mg base 9 "corners" ["field"] (spT 1 false true be))(xV:Own P w K mg base 8 "need_field" ["thing"] (spT 1 false false wt))(nB:Own P w K mg base 5 "keeps" ["row", "place"] (spT 2 false false xcz)) :
  Own P w K mg base 10 "is_within" ["one", "other"] (spT 2 false false kW):=by
 refine xJ F j0 m b rfl (fun _ _ _ _ _ _ hr=>⟨_,_,
  (xg (zh 2 j0.nd (xm fG hr (yJ (pv 0))))
  (xg (zg (xm xV hr (yJ (pv 1))))
  (xj (xK (xr (w6 K rfl) rfl (B.get "all") dM (yJ (xbC (za (N:=["place", "row", "other"]) (tau:=[none,none,some 1]) (XN:=["one", "other", "places"]) (xs:=xh vn) (by decide +kernel) rfl rfl) rfl (uN rfl) (xeM (tid:=[some 0,none,some 2]) (by decide +kernel)) (uN rfl) (zU K (pv 2)) (fun _ _ _ _=>(yI (i:=0) (show(["place", "row", "other"]:List Str).Nodup by decide +kernel) rfl (Or.inl rfl))) (fun _ _ _ _=>vq) (fun _ _ _ _=>(zU K (pv 2))) (fun _ _ _ _=>(yI (i:=1) (show(["place", "row", "other"]:List Str).Nodup by decide +kernel) rfl (Or.inl rfl))) (fun _ _ _ _=>vq) (fun _ _ _ _=>(xm nB hr (xU (pv 1) (pv 0))))))))))),
  (xl (yh (xC (xM xf)))
  (xl (qP (xC (xM xf)))
  (xF (yG jI (xM (OkF.e (xaz (y_ xf).c xn wR (y_ xf) xn wR (xC (xG xf xf))))))))),fun ts KK hl h=>?_⟩)
 obtain⟨rows,others,rfl,hf,hg,k⟩:=h
 have FR:=xb3.fr hf
 have cl:=bJ FR
 have l8:=(xb3 hg).1.2
 have ml:(others.map trR).length=others.length:=xi0 _
 refine xW (fun τ=>τ=[.fz (.tup (rows.map trR)),.fz (.tup (others.map trR)),.fz (.lst ((kY rows).map zf))]) ?_ (fun N hN=>⟨rows,rfl,hf,FR,hN _ rfl⟩)
 rintro _ rfl
 refine xW (fun τ=>τ=[.fz (.tup (rows.map trR)),.fz (.tup (others.map trR)),.fz (.lst ((kY rows).map zf))]) ?_ (fun N hN=>⟨_,rfl,wo hg,hN _ rfl⟩)
 rintro _ rfl
 have bl:∀l:List Pol.R3,(l.flatMap fun v=>others.map fun r=>zC r (plc v)).length=others.length*l.length:=fun l=>by
  induction l with
  | nil=>rfl
  | cons a l ih=>rw[List.flatMap_cons,xiW,ih,xi0,xiX,Nat.mul_succ,Nat.add_comm]
 refine me (fun i acc=>acc=(((kY rows).take i).flatMap fun v=>others.map fun r=>zC r (plc v)).map .bl) _ 0 [] (fun j x acc hx hG N2 hN2=>?_) rfl (fun acc hG=>?_)
 ·rw[xjV] at hG hN2
  obtain⟨v,hv,rfl⟩:=uH hx
  subst hG
  have jl:=(xiR.mp hv).1
  refine⟨?_,rR (fun t=>match t with | .tup [.int a,.int b,.int c]=>.bl (zC (a,b,c) (plc v)) | t=>t) _ _ (fun t ht N h=>?_) (hN2 _ ?_)⟩
  ·rw[xi0,bl,xi6,ml]
   refine sqz ?_
   have:others.length*min j (kY rows).length≤8*900:=Nat.mul_le_mul l8 (by omega)
   omega
  ·obtain⟨r,hr,rfl⟩:=xjl.mp ht
   have S:=wH ((xb3 hg).2.1 r hr).2
   exact⟨r,plc v,rfl,S.mono (by decide),FR.pk (xjn hv),h⟩
  ·rw[xjH,hv,xiJ,xi8]
   congr 1
   simp only[Option.toList,List.flatMap_cons,List.flatMap_nil,xiz,xi_]
   rfl
 ·rw[xjV,xi0,xjG (xjK _)] at hG
  subst hG
  refine⟨(kY rows).flatMap fun v=>others.map fun r=>zC r (plc v),rfl,?_⟩
  have e:((kY rows).flatMap fun v=>others.map fun r=>zC r (plc v)).all id=inB rows others:=by
   unfold inB
   rw[xhY]
   simp only[xiw,List.mem_flatMap,xjl,id]
   constructor
   ·exact fun h v hv r hr=>h _ ⟨v,hv,r,hr,rfl⟩
   ·rintro h _ ⟨v,hv,r,hr,rfl⟩
    exact h v hv r hr
  rw[e]
  exact k
theorem vA (B:Blt mg bn)(F:Fun K "need_field" "need_field" uw f fd)(m:mg "need_field" = some (.ref f))(b:Binds K fd ["thing"] []){a_NoField:Addr}(O_NoField:PyProof.Rows.OwnCls "NoField" a_NoField xf4 "ValueError.__new__" mg base)(w9:Own P w K mg base 7 "is_field" ["thing"] (spT 1 false false sG)) :
  cj P w K mg base 8 "need_field" ["thing"] (spX 1 a_NoField dI):=by
 refine jm F k8 m b rfl (fun _ _ _ _ _ _ hr=>⟨_,
  (xj (yY (zE (zB (xm w9 hr (yJ (pv 0))))) (xj (cU O_NoField PySem.F.excBase_ValueError (yJ xar))) uR)),fun BB hE=>⟨_,
  (xeB (yR (yW (xC (xM xf)))) (cH hE (xM (xbP (t:=Tr.str _)))) bL),fun ts hl h=>?_⟩⟩)
 obtain⟨t,rfl,hf⟩:=h
 refine⟨t,rfl,?_⟩
 rw[hf]
 exact trivial
theorem vT (B:Blt mg bn)(F:Fun K "as_field" "as_field" qK f fd)(m:mg "as_field" = some (.ref f))(b:Binds K fd ["rows"] []){a_NoField:Addr}(ox_need_field__NoField:cj P w K mg base 8 "need_field" ["thing"] (spX 1 a_NoField dI)) :
  cj P w K mg base 9 "as_field" ["rows"] (spX 1 a_NoField cW):=by
 refine jm F vx m b rfl (fun _ _ _ _ _ _ hr=>⟨_,
  (xg (zh 1 vx.nd (qy (ku K) rfl (B.get "tuple") uk (yJ (pv 0))))
  (xg (zg (fk ox_need_field__NoField hr xcg (yJ (pv 1)))) uR)),fun BB hE=>⟨_,
  (tT (fr:=false) (yh (bO (xM xf)))
  (xcW (xdi (nA hE (xM xf))))),fun ts hl h=>?_⟩⟩)
 obtain⟨rows,rfl,h9,hf⟩:=h
 exact⟨_,rfl,hf⟩
theorem jv (B:Blt mg bn)(F:Fun K "side" "side" rK f fd)(m:mg "side" = some (.ref f))(b:Binds K fd ["field", "k"] []){a_NoField:Addr}(yM:Own P w K mg base 1 "is_whole" ["thing"] (spT 1 false false tw))(xV:Own P w K mg base 8 "need_field" ["thing"] (spT 1 false false wt))(ox_as_field__NoField:cj P w K mg base 9 "as_field" ["rows"] (spX 1 a_NoField cW)) :
  cj P w K mg base 10 "side" ["field", "k"] (spX 2 a_NoField xcR):=by
 refine jm F vB m b rfl (fun _ _ _ _ _ _ hr=>⟨_,
  (xg (zg (xm xV hr (yJ (pv 0))))
  (xg (yY (PW.pt (fE (zE (zB (xm yM hr (yJ (pv 1))))) (qY (zE (gA hV (kT K hr.units) xi (pv 1) (xr (yz K) rfl (B.get "len") wI (yJ (pv 0)))))))) (xj rf) xY)
  (xg (kb (uI (wq K) (pv 0) (pv 1) (fun _ _=>rfl)) (zm K (n:=3) rfl (xH (yP 2 vB.nd) (xH (yP 3 vB.nd) (xH (yP 4 vB.nd) y7)))))
  (xj (xK (fk ox_as_field__NoField hr xcg (yJ (xB dZ (qy (dX K) rfl (B.get "list") gL (yJ (pv 0))) (yU (yJ (ym (xR (w_ zq (pv 2)) (xU (w_ zq (pv 3)) (w_ zq (pv 4))))))))))))))),fun BB hE=>⟨_,
  (tT (fr:=false) (qP (xC (xM xf)))
  (tT (fr:=false) (yC (qz (yR (yW (xC (xM xf)))) (yR (xS (gw hU jh xu xf (yG uc (xM xf)))))) jb xT)
  (tT (fr:=false) (vR (fh xf xf) (zi (xt xn (xt xn (xt xn yE)))).g)
  (xfK (nA hE (xM (OkF.e (nK (OkF.e (bT (xM xf))) (wN (b:=true) (xM (yu (b:=true) (xP (zt xf) (xG (zt xf) (zt xf)))))))))))))),fun ts hl h=>?_⟩⟩)
 obtain⟨rows,n,rfl,hf,l8,n0,n8⟩:=h
 have ml:(rows.map trR).length=rows.length:=xi0 _
 refine⟨_,rfl,wo hf,?_⟩
 refine⟨_,rfl,?_⟩
 have hn:n.toNat<rows.length:=by omega
 have at0:atT (rows.map trR) n=some (trR rows[n.toNat]):=by rw[xcO n0,xiS,xiP hn];rfl
 generalize rows[n.toNat]=r at at0
 refine xZ (b:=decide ((0:Int)≤n)) (fun c=>?_) (fun c=>absurd n0 (xj7 c))
 refine xZ (b := !decide (n<((rows.map trR).length:Nat))) (fun c=>by rw[ml,l8] at c;have c:=xj7 (by simpa using c:decide (n<((8:Nat):Int))=false);omega) (fun _=>?_)
 show cM (atT (rows.map trR) n) _
 rw[at0]
 refine⟨rfl,xcF (by show(rows.map trR).length+1≤_;rw[ml];omega),rows++[xbs r],?_,by simp;omega,tP (by simp;omega)⟩
 rw[xi8]
 rfl
theorem jk (B:Blt mg bn)(F:Fun K "side" "side" rK f fd)(m:mg "side" = some (.ref f))(b:Binds K fd ["field", "k"] []){a_NoNumber:Addr}(O_NoNumber:PyProof.Rows.OwnCls "NoNumber" a_NoNumber xf4 "ValueError.__new__" mg base)(yM:Own P w K mg base 1 "is_whole" ["thing"] (spT 1 false false tw))(xV:Own P w K mg base 8 "need_field" ["thing"] (spT 1 false false wt)) :
  cj P w K mg base 10 "side" ["field", "k"] (spX 2 a_NoNumber xc3):=by
 refine jm F vB m b rfl (fun _ _ _ _ _ _ hr=>⟨_,
  (xg (zg (xm xV hr (yJ (pv 0))))
  (xg (yY (PW.pt (fE (zE (zB (xm yM hr (yJ (pv 1))))) (qY (zE (gA hV (kT K hr.units) xi (pv 1) (xr (yz K) rfl (B.get "len") wI (yJ (pv 0)))))))) (xj (cU O_NoNumber PySem.F.excBase_ValueError (yJ xar))) uR) uR)),fun BB hE=>⟨_,
  (tT (fr:=false) (qP (xC (xM xf)))
  (xcW (xeB (qz (yR (yW (xC (xM xf)))) (yR (xS (gw hU jh xu xf (yG uc (xM xf)))))) (cH hE (xM (xbP (t:=Tr.str _)))) bL))),fun ts hl h=>?_⟩⟩)
 obtain⟨rows,t,rfl,hf,hb⟩:=h
 have ml:(rows.map trR).length=rows.length:=xi0 _
 refine⟨_,rfl,wo hf,?_⟩
 refine⟨t,rfl,?_⟩
 cases t with
 | int i =>
  have hb:¬(0≤i∧i<(rows.length:Nat)):=hb
  refine xZ (b:=decide ((0:Int)≤i)) (fun c=>?_) (fun c=>trivial)
  refine xZ (b := !decide (i<((rows.map trR).length:Nat))) (fun c=>trivial) (fun c2=>?_)
  rw[ml] at c2
  have c2:i<(rows.length:Nat):=by simpa using c2
  exact hb ⟨xj8 c,c2⟩
 | _ =>
  have hb:xaX _=false:=hb
  exact trivial
end
end K61
namespace K61
open PySem L2 Trn
section
variable {P:Program} {w:World} {K:PySem.W.Frag} {mg:Str→Option Value} {base:Heap} {f:Addr} {fd:FuncData}
theorem gM (B:Blt mg bn)(F:Fun K "_law_divisor" "_law_divisor" uC f fd)(m:mg "_law_divisor" = some (.ref f))(b:Binds K fd ["_law_one", "_law_other"] [])  :
  Own P w K mg base 1 "_law_divisor" ["_law_one", "_law_other"] (spT 2 false false xfT):=by
 refine xJ F vU m b rfl (fun _ _ _ _ _ _ hr=>⟨_,_,
  (xg (sL PassesOwn.never (yg (uZ hr.units) (pv 1) xi (yf _)) (xj (kh (i:=0) (j:=1) rfl vU.nd rfl rfl (by decide) rfl rfl (xU (pv 1) (xB aI (pv 0) (pv 1))) (by rfl))))
  (xj (xK (xr wX rfl (B.get "abs") ji (yJ (pv 0)))))),
  (xl (gR (xS (xk jP xf xu)) (uG (xG xf (xk cT xf xf))))
  (xF (yG k7 (xM xf)))),fun ts KK hl h=>?_⟩)
 obtain⟨a,c,rfl,k⟩:=h
 refine fC (fun n τ=>∃x y:Int,τ=[.fz (.int x),.fz (.int y)]∧n=y.natAbs∧Fra.gd x y=Fra.gd a c) c.natAbs ⟨_,_,rfl,rfl,rfl⟩ ?_
 rintro n τ N ⟨x,y,rfl,rfl,hg⟩ hN
 refine xZ (b := !decide (y=0)) (fun c0=>?_) (fun c0=>?_)
 ·have c0:y≠0:=by simpa using c0
  exact⟨c0,hN (x.fmod y).natAbs _ (Fra.pO c0) ⟨_,_,rfl,rfl,by rw[Fra.xdt];exact hg⟩⟩
 ·have c0:y=0:=by simpa using c0
  subst c0
  rw[Fra.xdG] at hg
  have k:KK (.int (Fra.gd a c)):=k
  rw[←hg] at k
  exact k
theorem mM (B:Blt mg bn)(F:Fun K "_law_low" "_law_low" jT f fd)(m:mg "_law_low" = some (.ref f))(b:Binds K fd ["_law_top", "_law_bottom"] [])(uO:Own P w K mg base 1 "_law_divisor" ["_law_one", "_law_other"] (spT 2 false false xfT)) :
  Own P w K mg base 2 "_law_low" ["_law_top", "_law_bottom"] (spT 2 false false l6):=by
 refine xJ F kG m b rfl (fun _ _ _ _ _ _ hr=>⟨_,_,
  (xg (zh 2 kG.nd (xm uO hr (xU (pv 0) (pv 1))))
  (xg (yY (yg (kT K hr.units) (pv 1) xi (yf _)) (xj (zh 2 kG.nd (xB zA xi (pv 2)))) xY)
  (xj (xK (ym (xU (xB vg (pv 0) (pv 2)) (xB vg (pv 1) (pv 2)))))))),
  (xl (yh (xC (xG xf xf)))
  (xl (yC (xS (xk jh xf xu)) (yh (xk zK xu xf)) xT)
  (xF (yu (b:=true) (xG (xk ju xf xf) (xk ju xf xf)))))),fun ts KK hl h=>?_⟩)
 obtain⟨t,b,rfl,hb,bd,k⟩:=h
 refine⟨t,b,rfl,?_⟩
 have gp:=Fra.tR (a:=t) (b:=b) (.inr hb)
 have gb:Bd (Fra.gd t b):=xaG hb bd
 refine xZ (b:=decide (b<0)) (fun c=>?_) (fun c=>?_)
 ·have c:=xj8 c
  rw[xeb c] at k
  have gn:Bd (0-Fra.gd t b):=by unfold Bd at *;omega
  have e1:∀x:Int,x.fdiv (0-Fra.gd t b)=(-x) / Fra.gd t b:=fun x=>by
   have h:=Int.neg_fdiv_neg (-x) (Fra.gd t b)
   rw[Int.neg_neg] at h
   rw[show 0-Fra.gd t b = -(Fra.gd t b) by omega,h,uu (by omega)]
  have e2:Fra.low (-t) (-b)=((-t) / Fra.gd t b,(-b) / Fra.gd t b):=by
   unfold Fra.low
   rw[show Fra.gd (-t) (-b)=Fra.gd t b by unfold Fra.gd;simp]
  rw[e2,←e1,←e1] at k
  exact⟨⟨by show(0-Fra.gd t b)≠0;omega,gn⟩,⟨by show(0-Fra.gd t b)≠0;omega,gn⟩,k⟩
 ·have c:=xj7 c
  rw[jR (by omega)] at k
  refine⟨⟨by show Fra.gd t b≠0;omega,gb⟩,⟨by show Fra.gd t b≠0;omega,gb⟩,?_⟩
  show KK (.tup [.int (t.fdiv (Fra.gd t b)),.int (b.fdiv (Fra.gd t b))])
  rw[uu (by omega),uu (by omega)]
  exact k
theorem rD (B:Blt mg bn)(F:Fun K "_law_less" "_law_less" kP f fd)(m:mg "_law_less" = some (.ref f))(b:Binds K fd ["_law_one", "_law_other"] [])  :
  Own P w K mg base 1 "_law_less" ["_law_one", "_law_other"] (spT 2 false false xaj):=by
 refine xJ F rX m b rfl (fun _ _ _ _ _ _ hr=>⟨_,_,
  (xj (xK (zZ (kT K hr.units) (xB xO (xE K 0) (xE K 1)) (xB xO (xE K 1) (xE K 0)) (yf _)))),
  (xF (xk jh (xk xX xD xD) (xk xX xD xD))),fun ts KK hl h=>?_⟩)
 obtain⟨f,g,rfl,hf,hg,k⟩:=h
 exact⟨⟨hf.top.bd,hg.bot.bd⟩,⟨hg.top.bd,hf.bot.bd⟩,k⟩
theorem r9 (B:Blt mg bn)(F:Fun K "_law_plus" "_law_plus" kj f fd)(m:mg "_law_plus" = some (.ref f))(b:Binds K fd ["_law_one", "_law_other"] [])(yH:Own P w K mg base 2 "_law_low" ["_law_top", "_law_bottom"] (spT 2 false false l6)) :
  Own P w K mg base 3 "_law_plus" ["_law_one", "_law_other"] (spT 2 false false xcC):=by
 refine xJ F mx m b rfl (fun _ _ _ _ _ _ hr=>⟨_,_,
  (xj (xK (xm yH hr (xU (xB zF (xB xO (xE K 0) (xE K 1)) (xB xO (xE K 1) (xE K 0))) (xB xO (xE K 0) (xE K 1)))))),
  (xF (xC (xG (xk wO (xk xX xD xD) (xk xX xD xD)) (xk xX xD xD)))),fun ts KK hl h=>?_⟩)
 obtain⟨f,g,rfl,hf,hg,k⟩:=h
 exact⟨⟨hf.top.bd,hg.bot.bd⟩,⟨hg.top.bd,hf.bot.bd⟩,⟨hf.bot.bd,hg.bot.bd⟩,_,_,rfl,by have:=Pol.pp hf.pos hg.pos;omega,(hf.bot.mul hg.bot).bd,k⟩
theorem aZ (B:Blt mg bn)(F:Fun K "_law_times" "_law_times" v_ f fd)(m:mg "_law_times" = some (.ref f))(b:Binds K fd ["_law_one", "_law_other"] [])(yH:Own P w K mg base 2 "_law_low" ["_law_top", "_law_bottom"] (spT 2 false false l6)) :
  Own P w K mg base 3 "_law_times" ["_law_one", "_law_other"] (spT 2 false false nO):=by
 refine xJ F aR m b rfl (fun _ _ _ _ _ _ hr=>⟨_,_,
  (xj (xK (xm yH hr (xU (xB xO (xE K 0) (xE K 1)) (xB xO (xE K 0) (xE K 1)))))),
  (xF (xC (xG (xk xX xD xD) (xk xX xD xD)))),fun ts KK hl h=>?_⟩)
 obtain⟨f,g,rfl,hf,hg,k⟩:=h
 exact⟨⟨hf.top.bd,hg.top.bd⟩,⟨hf.bot.bd,hg.bot.bd⟩,_,_,rfl,by have:=Pol.pp hf.pos hg.pos;omega,(hf.bot.mul hg.bot).bd,k⟩
theorem ar (B:Blt mg bn)(F:Fun K "_law_minus" "_law_minus" v7 f fd)(m:mg "_law_minus" = some (.ref f))(b:Binds K fd ["_law_one", "_law_other"] [])(yH:Own P w K mg base 2 "_law_low" ["_law_top", "_law_bottom"] (spT 2 false false l6)) :
  Own P w K mg base 3 "_law_minus" ["_law_one", "_law_other"] (spT 2 false false xaJ):=by
 refine xJ F sZ m b rfl (fun _ _ _ _ _ _ hr=>⟨_,_,
  (xj (xK (xm yH hr (xU (xB zA (xB xO (xE K 0) (xE K 1)) (xB xO (xE K 1) (xE K 0))) (xB xO (xE K 0) (xE K 1)))))),
  (xF (xC (xG (xk zK (xk xX xD xD) (xk xX xD xD)) (xk xX xD xD)))),fun ts KK hl h=>?_⟩)
 obtain⟨f,g,rfl,hf,hg,k⟩:=h
 exact⟨⟨hf.top.bd,hg.bot.bd⟩,⟨hg.top.bd,hf.bot.bd⟩,⟨hf.bot.bd,hg.bot.bd⟩,_,_,rfl,by have:=Pol.pp hf.pos hg.pos;omega,(hf.bot.mul hg.bot).bd,k⟩
theorem zH {k d:Nat}(B:Blt mg bn)(F:Fun K "_law_same" "_law_same" uh f fd)(m:mg "_law_same" = some (.ref f))(b:Binds K fd ["_law_found", "_law_due"] [])(ug:Own P w K mg base k "_law_same" ["_law_found", "_law_due"] (spT 2 false false (xcQ d))):Own P w K mg base (k+1) "_law_same" ["_law_found", "_law_due"] (spT 2 false false (xcQ (d+1))):=by
 refine xJ F j4 m b rfl (fun _ _ _ _ _ _ hr=>⟨_,_,
  (xg (yY (zB (xr xay rfl (B.get "isinstance") xI (xU (pv 1) (ym (xU (zX (v:=V.ty "tuple") rfl (B.get "tuple") uk rfl) (zX (v:=V.ty "list") rfl (B.get "list") gL rfl)))))) (xg (yY (PW.pt (fE (yg (uZ hr.units) (xr zY rfl (B.get "isinstance") xI (xU (pv 0) (zX (v:=V.ty "tuple") rfl (B.get "tuple") uk rfl))) (xr zY rfl (B.get "isinstance") xI (xU (pv 1) (zX (v:=V.ty "tuple") rfl (B.get "tuple") uk rfl))) (yf _)) (qY (yg (uZ hr.units) (xr zY rfl (B.get "isinstance") xI (xU (pv 0) (zX (v:=V.ty "list") rfl (B.get "list") gL rfl))) (xr zY rfl (B.get "isinstance") xI (xU (pv 1) (zX (v:=V.ty "list") rfl (B.get "list") gL rfl))) (yf _))))) (xj (xK vC)) xY)
  (xg (yY (yg (uZ hr.units) (xr (yz K) rfl (B.get "len") wI (yJ (pv 0))) (xr (yz K) rfl (B.get "len") wI (yJ (pv 1))) (yf _)) (xj (xK vC)) xY)
  (xj (xK (xr (w6 K rfl) rfl (B.get "all") dM (yJ (uj (za (N:=["_law_one", "_law_other"]) (tau:=[none,none]) (XN:=["_law_found", "_law_due"]) (xs:=xh uh) (by decide +kernel) rfl rfl) rfl (kR (wW rfl (wW rfl aB))) (lq K rfl (B.get "zip") (xU (pv 0) (pv 1))) (fun _ _ _ _=>(zm K (n:=2) rfl (xH (yI (i:=0) (show(["_law_one", "_law_other"]:List Str).Nodup by decide +kernel) rfl (Or.inl rfl)) (xH (yI (i:=1) (show(["_law_one", "_law_other"]:List Str).Nodup by decide +kernel) rfl (Or.inl rfl)) y7)))) (fun _ _ _ _=>vq) (fun _ _ _ _=>(xm ug hr (xU (pv 0) (pv 1)) (xjK _)))))))))) xY)
  (xj (xK (bI (zZ (uU hr.units) (pv 0) (pv 1) (yf _)) (rF (zZ (uU hr.units) (xr zY rfl (B.get "isinstance") xI (xU (pv 0) (zX (v:=V.ty "bool") rfl (B.get "bool") sj rfl))) (xr zY rfl (B.get "isinstance") xI (xU (pv 1) (zX (v:=V.ty "bool") rfl (B.get "bool") sj rfl))) (yf _))))))),
  (xl (yC (yW (xdO xf)) (xl (yC (qz (xS (xk jP (qh xf) (qh xf))) (xS (xk jP (qh xf) (qh xf)))) (xF qc) xT)
  (xl (yC (xS (xk jP (yG uc (xM xf)) (yG uc (xM xf)))) (xF qc) xT)
  (xF (yG jI (xM (OkF.e (zL (bR (xG xf xf)).c (zi (xt xn (xt xn yE))) wR (xC (xG xf xf))))))))) xT)
  (xF (sF (xk os_eq xf xf) (xk os_eq (qh xf) (qh xf))))),fun ts KK hl h=>?_⟩)
 obtain⟨t,rfl,hs,k⟩:=h
 have hs:xdY t=true∨∃(e:Nat) (us:List Tr),d=e+1∧(t=.tup us∨t=.lst us)∧us.length≤100000∧∀u∈us,Sm e u:=by
  cases d with
  | zero=>exact .inl hs
  | succ e=>exact hs.imp id fun⟨us,z⟩=>⟨e,us,rfl,z⟩
 rcases hs with hs | ⟨e,us,rfl,rfl | rfl,hz,hu⟩
 ·cases t with
  | non=>exact⟨⟨rfl,rfl,by show min 0 0≤64;decide⟩,⟨rfl,rfl,by show min 0 0≤64;decide⟩,k⟩
  | bl c =>
   refine⟨⟨rfl,rfl,by show min 0 0≤64;decide⟩,?_⟩
   cases c<;>exact⟨⟨rfl,rfl,by show min 0 0≤64;decide⟩,k⟩
  | int i =>
   show if decide (i=i)=true then _ else _
   rw[xj3 rfl]
   exact⟨⟨rfl,rfl,by show min 0 0≤64;decide⟩,k⟩
  | _=>cases hs
 ·refine⟨⟨rfl,rfl,by show min 0 0≤64;decide⟩,⟨rfl,rfl,by show min 0 0≤64;decide⟩,?_⟩
  refine xZ (b := !decide ((us.length:Int)=us.length)) (fun c=>by simp at c) (fun _=>?_)
  show(pj us us).length<sizeLine∧_
  rw[tm]
  refine⟨by rw[xi0];exact sqz (by omega),?_⟩
  refine tQ (f:=fun u=>Tr.tup [u,u]) (fun _=>.bl true) (fun u hum N hN=>⟨rfl,u,rfl,hu u hum,hN⟩) ?_
  refine⟨us.map fun _=>true,by rw[xi_];rfl,?_⟩
  have e:((us.map fun _=>true).all id)=true:=by rw[xiw];intro x hx;obtain⟨_,_,rfl⟩:=xjl.mp hx;rfl
  show KK (.bl ((us.map fun _=>true).all id))
  rw[e];exact k
 ·refine⟨⟨rfl,rfl,by show min 0 0≤64;decide⟩,⟨rfl,rfl,by show min 0 0≤64;decide⟩,?_⟩
  refine xZ (b := !decide ((us.length:Int)=us.length)) (fun c=>by simp at c) (fun _=>?_)
  show(pj us us).length<sizeLine∧_
  rw[tm]
  refine⟨by rw[xi0];exact sqz (by omega),?_⟩
  refine tQ (f:=fun u=>Tr.tup [u,u]) (fun _=>.bl true) (fun u hum N hN=>⟨rfl,u,rfl,hu u hum,hN⟩) ?_
  refine⟨us.map fun _=>true,by rw[xi_];rfl,?_⟩
  have e:((us.map fun _=>true).all id)=true:=by rw[xiw];intro x hx;obtain⟨_,_,rfl⟩:=xjl.mp hx;rfl
  show KK (.bl ((us.map fun _=>true).all id))
  rw[e];exact k
theorem tO (B:Blt mg bn)(F:Fun K "_law_same" "_law_same" uh f fd)(m:mg "_law_same" = some (.ref f))(b:Binds K fd ["_law_found", "_law_due"] []):Own P w K mg base 6 "_law_same" ["_law_found", "_law_due"] (spT 2 false false xcm):=zH B F m b (zH B F m b (zH B F m b (zH B F m b (zH B F m b (xb8 F j4 m b)))))
end
end K61
namespace K61
open PySem L2 Trn
section
variable {P:Program} {w:World} {K:PySem.W.Frag} {mg:Str→Option Value} {base:Heap} {f:Addr} {fd:FuncData}
theorem sD (B:Blt mg bn)(F:Fun K "_law_ahead" "_law_ahead" vY f fd)(m:mg "_law_ahead" = some (.ref f))(b:Binds K fd ["_law_one", "_law_other"] [])(zO:Own P w K mg base 1 "_law_less" ["_law_one", "_law_other"] (spT 2 false false xaj)) :
  Own P w K mg base 2 "_law_ahead" ["_law_one", "_law_other"] (spT 2 false false oH):=by
 refine xJ F aF m b rfl (fun _ _ _ _ _ _ hr=>⟨_,_,
  (xg (yY (yg (uZ hr.units) (xE K 0) (xE K 1) (yf _)) (xj (xK (xm zO hr (xU (xE K 0) (xE K 1))))) xY)
  (xj (xK (xm zO hr (xU (xE K 0) (xE K 1)))))),
  (xl (yC (xS (xk jP xD xD)) (xF (xC (xG xD xD))) xT)
  (xF (xC (xG xD xD)))),fun ts KK hl h=>?_⟩)
 obtain⟨p,q,rfl,hp,hq,k⟩:=h
 refine⟨⟨rfl,rfl,by show min 1 1≤64;decide⟩,?_⟩
 refine xZ (b := !teq (fT p.1) (fT q.1)) (fun c=>?_) (fun c=>?_)
 ·rw[rz] at c
  have c:¬p.1=q.1:=by simpa using c
  unfold jn at k
  rw[if_neg c] at k
  exact⟨p.1,q.1,rfl,hp.1.mono (by decide),hq.1.mono (by decide),k⟩
 ·rw[rz] at c
  have c:p.1=q.1:=by simpa using c
  unfold jn at k
  rw[if_pos c] at k
  exact⟨p.2,q.2,rfl,hp.2.mono (by decide),hq.2.mono (by decide),k⟩
theorem tJ (B:Blt mg bn)(F:Fun K "_law_bend" "_law_bend" kL f fd)(m:mg "_law_bend" = some (.ref f))(b:Binds K fd ["_law_one", "_law_other", "_law_third"] [])(yV:Own P w K mg base 3 "_law_times" ["_law_one", "_law_other"] (spT 2 false false nO))(zw:Own P w K mg base 3 "_law_minus" ["_law_one", "_law_other"] (spT 2 false false xaJ)) :
  Own P w K mg base 4 "_law_bend" ["_law_one", "_law_other", "_law_third"] (spT 3 false false xak):=by
 refine xJ F jZ m b rfl (fun _ _ _ _ _ _ hr=>⟨_,_,
  (xg (zh 3 jZ.nd (xm yV hr (xU (xm zw hr (xU (xE K 1) (xE K 0))) (xm zw hr (xU (xE K 2) (xE K 0))))))
  (xj (xK (uI (wq K) (xm zw hr (xU (pv 3) (xm yV hr (xU (xm zw hr (xU (xE K 1) (xE K 0))) (xm zw hr (xU (xE K 2) (xE K 0))))))) xi (fun _ _=>rfl))))),
  (xl (yh (xC (xG (xC (xG xD xD)) (xC (xG xD xD)))))
  (xF (fh (xC (xG xf (xC (xG (xC (xG xD xD)) (xC (xG xD xD)))))) xu))),fun ts KK hl h=>?_⟩)
 obtain⟨p,q,w,rfl,hp,hq,hw,k⟩:=h
 have m:∀ {f g:F2},Fk 200 f→Fk 200 g→Fk 401 (fmin f g):=fun h1 h2=>h1.min h2
 have t:∀ {f g:F2},Fk 401 f→Fk 401 g→Fk 900 (pE f g):=fun h1 h2=>(h1.tim h2).mono (by decide)
 have u:∀ {k:Nat} {f:F2},Fk k f→k≤900→Fk 900 f:=fun h hk=>h.mono hk
 exact⟨q.1,p.1,rfl,u hq.1 (by decide),u hp.1 (by decide),w.2,p.2,rfl,u hw.2 (by decide),u hp.2 (by decide),_,_,rfl,u (m hq.1 hp.1) (by decide),u (m hw.2 hp.2) (by decide),
  q.2,p.2,rfl,u hq.2 (by decide),u hp.2 (by decide),w.1,p.1,rfl,u hw.1 (by decide),u hp.1 (by decide),_,_,rfl,u (m hq.2 hp.2) (by decide),u (m hw.1 hp.1) (by decide),
  _,_,rfl,t (m hq.1 hp.1) (m hw.2 hp.2),t (m hq.2 hp.2) (m hw.1 hp.1),k⟩
theorem sy (B:Blt mg bn)(F:Fun K "_law_chain" "_law_chain" qB f fd)(m:mg "_law_chain" = some (.ref f))(b:Binds K fd ["_law_places"] [])(kH:Own P w K mg base 4 "_law_bend" ["_law_one", "_law_other", "_law_third"] (spT 3 false false xak)) :
  Own P w K mg base 5 "_law_chain" ["_law_places"] (spT 1 false false c_):=by
 refine xJ F vp m b rfl (fun _ _ _ _ _ _ hr=>⟨_,_,
  (xg (zh 1 vp.nd (yU ui))
  (xg (ub PassesOwn.never rfl (zU K (pv 0)) (yP 2 vp.nd) (xg (sL PassesOwn.never (PW.pt (tu (yg xa4 (xr (yz K) rfl (B.get "len") wI (yJ (pv 1))) xi (yf _)) (fq (yg hV (xm kH hr (xR (uI (wq K) (pv 1) (w_ zq xi) (fun _ _=>rfl)) (xU (uI (wq K) (pv 1) (w_ zq xi) (fun _ _=>rfl)) (pv 2)))) xi (yf _))))) (xj (zg (xeX PySem.F.plainAttrs_list PySem.F.slot_list_pop PySem.F.type_list_pop xfl (pv 1)))))
  (xj (zg (fX PySem.F.plainAttrs_list PySem.F.slot_list_append PySem.F.type_list_append wJ (pv 1) (yJ (pv 2)))))))
  (xj (xK (pv 1))))),
  (xl (wC (vW zN))
  (xl (zQ (y_ xf) xn.g (xl (gR (g9 (xS (xk xce (yG uc (xM fw)) xu)) (xS (xk hU (xC (xP (xcU (zt xu)) (xG (xcU (zt xu)) xf))) xu))) xei)
  (v5 xf)))
  gk)),fun ts KK hl h=>?_⟩)
 obtain⟨ps,rfl,hp,hl',k⟩:=h
 have ba:∀ {i x},x∈Pol.chP (ps.take i)→xed x:=fun {i x} hx=>xdb (P:=fun x=>xed x) (fun q hq=>hp q (xjo hq)) x hx
 refine wx (all:=ps.map zf) (fun i τ=>∃x2:TV,τ=[.fz (.lst (ps.map zf)),.ow ((Pol.chP (ps.take i)).reverse.map zf),x2]) ⟨.un,rfl⟩ ?_ ?_
 ·rintro i x τ N hx ⟨x2,rfl⟩ hN
  obtain⟨p,hpi,rfl⟩:=uH hx
  have bp:=hp p (xjn hpi)
  have cl:=mU (ps.take i)
  have cl:(Pol.chP (ps.take i)).length≤1000:=by rw[xi6] at cl;omega
  have fold:=xa8 hpi
  have bs:∀x∈Pol.chP (ps.take i),xed x:=fun x hx=>ba hx
  show xdP _ _ _ ([.fz (.lst (ps.map zf)),.ow ((Pol.chP (ps.take i)).reverse.map zf),.fz (zf p)]:TSt)
  refine xW (fun τ=>τ=[.fz (.lst (ps.map zf)),.ow ((Pol.vH (Pol.chP (ps.take i)) p).reverse.map zf),.fz (zf p)]) ?_ (fun N3 hN3=>?_)
  ·rintro _ rfl
   have pl:=aV (p:=p) (s:=Pol.chP (ps.take i))
   refine⟨by rw[xi0,xi3];exact sqz (by omega),hN _ ⟨.fz (zf p),?_⟩⟩
   rw[fold,xjA,xi8]
   rfl
  generalize Pol.chP (ps.take i)=s0 at *
  refine fC (fun n τ=>∃s:List Pol.R3,n=s.length∧(∀x∈s,xed x)∧Pol.vH s p=Pol.vH s0 p∧τ=[.fz (.lst (ps.map zf)),.ow (s.reverse.map zf),.fz (zf p)]) _ ⟨s0,rfl,bs,rfl,rfl⟩ ?_
  rintro n τ N4 ⟨s,rfl,hs,e,rfl⟩ hN4
  have fin:s.length≤1→Pol.vH s p=s:=fun h=>by
   rcases s with _ | ⟨a,_ | ⟨b,r⟩⟩
   ·rfl
   ·rfl
   ·simp at h
  refine xZ (b:=decide ((((s.reverse.map zf).length:Nat):Int)>1)) (fun c=>?_) (fun c=>?_)
  rotate_left
  ·have c:=xj7 c
   rw[xi0,xi3] at c
   rw[←e,fin (by omega)] at hN3
   exact nJ (hN3 _ rfl)
  have c:=xj8 c
  rw[xi0,xi3] at c
  rcases s with _ | ⟨b,_ | ⟨a,s⟩⟩
  ·simp at c
  ·simp at c
  have at1:atT ((b::a::s).reverse.map zf) (-1)=some (zf b):=by
   rw[xjA,xi8];exact cK _ _
  have at2:atT ((b::a::s).reverse.map zf) (-2)=some (zf a):=by
   rw[xjA,xjA,xiy,xi8];exact l9 _ _ _
  show cM (atT ((b::a::s).reverse.map zf) (-2)) _
  rw[at2]
  show cM (atT ((b::a::s).reverse.map zf) (-1)) _
  rw[at1]
  have k200:∀ {x:Pol.R3},xed x→Pk 200 (plc x):=fun h=>⟨(dm h.1 h.2).1.mono (by decide),(dm h.1 h.2).2.mono (by decide)⟩
  have cr:=xaH (hs a (by simp)).1 (hs b (by simp)).1 bp.1
  refine⟨plc a,plc b,plc p,rfl,k200 (hs a (by simp)),k200 (hs b (by simp)),k200 bp,?_⟩
  refine xZ (b:=decide (bq (plc a) (plc b) (plc p)≤0)) (fun d=>?_) (fun d=>?_)
  ·have d:=xj8 d
   have d:=cr.mp d
   refine⟨by simp,?_⟩
   have el:((b::a::s).reverse.map zf).dropLast=(a::s).reverse.map zf:=by
    rw[xjA,xi8];simp
   show N4 [.fz (.lst (ps.map zf)),.ow (((b::a::s).reverse.map zf).dropLast),.fz (zf p)]
   rw[el]
   refine hN4 _ _ ?_ ⟨a::s,rfl,fun x hx=>hs x (xjg _ hx),?_,rfl⟩
   ·simp
   ·rw[←e]
    conv=>rhs;unfold Pol.vH
    rw[if_neg (by omega)]
  ·have d:=xj7 d
   have d:0<Pol.det a b p:=by
    have:¬Pol.det a b p≤0:=fun z=>d (cr.mpr z)
    omega
   have:Pol.vH (b::a::s) p=b::a::s:=by unfold Pol.vH;rw[if_pos d]
   rw[←e,this] at hN3
   exact hN3 _ rfl
 ·rintro τ ⟨x2,rfl⟩
  rw[xi0,xjG (xjK _)]
  exact k
theorem mC (B:Blt mg bn)(F:Fun K "_law_ring" "_law_ring" vk f fd)(m:mg "_law_ring" = some (.ref f))(b:Binds K fd ["_law_places"] [])(ux:Own P w K mg base 5 "_law_chain" ["_law_places"] (spT 1 false false c_))(v8:Own P w K mg base 2 "_law_ahead" ["_law_one", "_law_other"] (spT 2 false false oH)) :
  Own P w K mg base 6 "_law_ring" ["_law_places"] (spT 1 false false xcL):=by
 refine xJ F vO m b rfl (fun _ _ _ _ _ _ hr=>⟨_,_,
  (xg (zh 1 vO.nd (yU ui))
  (xg (ub PassesOwn.never rfl (zU K (pv 0)) (yI (i:=2) vO.nd rfl (Or.inr rfl)) (xj (yY (yg (xae hr.units) (pv 2) (pv 1) (by with_unfolding_all rfl)) (xj (zg (fX PySem.F.plainAttrs_list PySem.F.slot_list_insert PySem.F.type_list_insert rZ (pv 1) (xU (xr (yz K) rfl (B.get "len") wI (yJ (uj (za (N:=["_law_other", "_law_place"]) (tau:=[none,some 2]) (XN:=["_law_places", "_law_some", "_law_place"]) (xs:=xh vk) (by decide +kernel) rfl rfl) rfl (uN rfl) (zU K (pv 1)) (fun _ _ _ _=>(yI (i:=0) (show(["_law_other", "_law_place"]:List Str).Nodup by decide +kernel) rfl (Or.inl rfl))) (fun _ _ _ _=>(fb (zB (xm v8 hr (xU (pv 0) (pv 1)))))) (fun _ _ _ _=>(pv 0))))) (pv 2))))) xY)))
  (xg (yY (yg (kT K hr.units) (xr (yz K) rfl (B.get "len") wI (yJ (pv 1))) xi (yf _)) (xj (xK (pv 1))) xY)
  (xj (xK (xB (fx K) (qL (ph K) (xm ux hr (yJ (pv 1))) jE (kO (w_ zq xi))) (qL (ph K) (xm ux hr (yJ (xfq K (pv 1) (kO (w_ zq xi))))) jE (kO (w_ zq xi))))))))),
  (xl (wC (vW zN))
  (xl (zQ (y_ xf) xn.g (yC (xS (xk xfS xf fw)) (lJ (yG uc (xM (OkF.e (zL xao xn (yW (xC (xG xf xf))) xf)))) xf) xT))
  (xl (lC (i:=1) (yC (xS (xk jh (yG uc (xM xf)) xu)) (xF xf) xT))
  (xF (fJ (bQ (xC (xM xf)) qT (qM (zt xu))) (bQ (xC (xM (OkF.e (xdz xf (zt xu))))) qT (qM (zt xu)))))))),fun ts KK hl h=>?_⟩)
 obtain⟨ps,l,rfl,hm,hl',hr,k⟩:=h
 have inl:∀ {i v},v∈ps.take i→v∈l:=fun hv=>(hm _).mp (xjo hv)
 have pk:∀ {v},v∈l→Pk 900 (plc v):=fun {v} hv=>⟨(dm (hr.pos v hv) (hr.sm v hv)).1.mono (by decide),(dm (hr.pos v hv) (hr.sm v hv)).2.mono (by decide)⟩
 refine xW (fun τ=>τ=[.fz (.lst (ps.map zf)),.ow [],.un]) ?_ (fun N hN=>hN _ rfl)
 rintro _ rfl
 refine xW (fun τ=>∃(ss:List Pol.R3) (x2:TV),ss.Pairwise Pol.Ah∧(∀v,v∈ss↔v∈l)∧ss.length≤1000∧τ=[.fz (.lst (ps.map zf)),.ow (ss.map zf),x2]) ?_ (fun N hN=>?_)
 rotate_left
 ·refine qV (ps.map zf) (fun i τ=>∃(ss:List Pol.R3) (x2:TV),ss.Pairwise Pol.Ah∧(∀v,v∈ss↔v∈ps.take i)∧ss.length≤i∧τ=[.fz (.lst (ps.map zf)),.ow (ss.map zf),x2]) (fun KK h=>h) ⟨[],.un,.nil,fun v=>by simp,xjK _,rfl⟩ ?_ (fun τ h=>?_)
  rotate_left
  ·obtain⟨ss,x2,h1,h2,h3,e⟩:=h
   rw[xi0] at h2 h3
   rw[xjG (xjK _)] at h2
   exact hN _ ⟨ss,x2,h1,fun v=>(h2 v).trans (hm v),by omega,e⟩
  rintro i x τ N2 hx ⟨ss,x2,h1,h2,h3,rfl⟩ hN2
  obtain⟨p,hp,rfl⟩:=uH hx
  have hpl:=(hm p).mp (xjn hp)
  have hi:=(xiR.mp hp).1
  have tk1:ps.take (i+1)=ps.take i++[p]:=by rw[xjH,hp];rfl
  have sl:∀v∈ss,v∈l:=fun v hv=>inl ((h2 v).mp hv)
  refine⟨⟨rfl,gG ss,by show(2:Nat)≤60;decide⟩,?_⟩
  refine xZ (b := !((ss.map zf).any fun u=>teq u (zf p))) (fun c=>?_) (fun c=>?_)
  ·rw[bV hr.pos hr.prim sl hpl] at c
   have c:p∉ss:=by simpa using c
   refine⟨by rw[xi0];exact sqz (by omega),uz (fun v=>jn (plc v) (plc p)) zf (fun v hv N M h1 h0=>⟨plc v,plc p,rfl,pk (sl v hv),pk hpl,xZ h1 h0⟩) ?_⟩
   refine⟨uy ss p,?_,?_,?_,?_⟩
   ·rw[xi0];rfl
   ·rw[xi0];exact oI
   ·rw[xi0];exact sqz (by omega)
   ·have e:(ss.map zf).take (uy ss p)++[zf p]++(ss.map zf).drop (uy ss p)=(ss.take (uy ss p)++[p]++ss.drop (uy ss p)).map zf:=by
     rw[xi8,xi8,xjb,List.map_drop];rfl
    rw[e]
    refine hN2 _ ⟨_,_,sd (hr.pos p hpl) h1 (fun v hv=>hr.pos v (sl v hv)) (fun v hv=>hr.tot (sl v hv) hpl fun z=>c (by rw[←z];exact hv)),fun v=>?_,?_,rfl⟩
    ·rw[xd6,h2 v,tk1,xjc,xjq]
    ·rw[xiW,xiW,xi6,xiY,xi5];omega
  ·rw[bV hr.pos hr.prim sl hpl] at c
   have c:p∈ss:=by simpa using c
   refine hN2 _ ⟨ss,_,h1,fun v=>?_,by omega,rfl⟩
   rw[tk1,xjc,xjq,←h2 v]
   exact⟨fun z=>.inl z,fun z=>z.elim id fun e=>by rw[e];exact c⟩
 rintro _ ⟨ss,x2,h1,h2,h3,rfl⟩
 have ck:∀v∈ss,xed v:=fun v hv=>⟨hr.pos v ((h2 v).mp hv),hr.sm v ((h2 v).mp hv)⟩
 refine xW (fun τ=>τ=[.fz (.lst (ps.map zf)),.fz (.lst (ss.map zf)),x2]∧¬ss.length<3) ?_ (fun N hN=>?_)
 rotate_left
 ·refine xZ (b:=decide ((((ss.map zf).length:Nat):Int)<3)) (fun c=>?_) (fun c=>?_)
  ·have c:=xj8 c
   rw[xi0] at c
   rw[←xbR hr h1 h2 (by omega)] at k
   exact k
  ·have c:=xj7 c
   rw[xi0] at c
   exact hN _ ⟨rfl,by omega⟩
 rintro _ ⟨rfl,c3⟩
 have rm:=oF hr h1 h2 c3
 have a1:=mU ss
 have a2:=mU ss.reverse
 rw[xi3] at a2
 refine⟨ss,rfl,ck,h3,rfl,ss.reverse,by rw[List.map_reverse],fun p hp'=>ck p (List.mem_reverse.mp hp'),by rw[xi3];exact h3,?_⟩
 show xbS (.lst (j_ ((Pol.chP ss).reverse.map zf) none (some (-1)))) (.lst (j_ ((Pol.chP ss.reverse).reverse.map zf) none (some (-1)))) KK
 rw[lz,lz,xi0,xi0,xi3,xi3,←xjb,←xjb]
 refine⟨xcF (by simp only[xi0,xi6,xi3];omega),?_⟩
 rw[←xi8,rm]
 exact k
theorem fv (B:Blt mg bn)(F:Fun K "_law_corners" "_law_corners" wy f fd)(m:mg "_law_corners" = some (.ref f))(b:Binds K fd ["_law_rows"] [])(km:Own P w K mg base 6 "_law_ring" ["_law_places"] (spT 1 false false xcL))(vL:Own P w K mg base 3 "_law_cross" ["_law_one", "_law_other"] (spT 2 false false dR))(zS:Own P w K mg base 5 "_law_keeps" ["_law_row", "_law_place"] (spT 2 false false aQ)) :
  Own P w K mg base 7 "_law_corners" ["_law_rows"] (spT 1 false false ma):=by
 refine xJ F zy m b rfl (fun _ _ _ _ _ _ hr=>⟨_,_,
  (xg (zh 1 zy.nd (yU ui))
  (xg (ub PassesOwn.never rfl (je rfl (B.get "range") (yJ (xr (yz K) rfl (B.get "len") wI (yJ (pv 0))))) (yP 2 zy.nd) (xj (ub PassesOwn.never rfl (zU K (qL (ph K) (pv 0) (kO (xB zF (pv 2) xi)) jE)) (yP 3 zy.nd) (xg (u5 (i:=4) zy.nd rfl (Or.inr rfl) (xm vL hr (xU (uI (wq K) (pv 0) (pv 2) (fun _ _=>rfl)) (pv 3))))
  (xj (yY (PW.pt (tu (cQ (xdd (pv 4))) (fq (yg (uU hr.units) (uj (za (N:=["_law_row", "_law_place"]) (tau:=[none,some 4]) (XN:=["_law_rows", "_law_found", "_law_k", "_law_other", "_law_place"]) (xs:=xh wy) (by decide +kernel) rfl rfl) rfl (uN rfl) (zU K (pv 0)) (fun _ _ _ _=>(yI (i:=0) (show(["_law_row", "_law_place"]:List Str).Nodup by decide +kernel) rfl (Or.inl rfl))) (fun _ _ _ _=>(fb (zE (zB (xm zS hr (xU (pv 0) (pv 1))))))) (fun _ _ _ _=>(pv 0))) (yU ui) (yf _))))) (xj (zg (fX PySem.F.plainAttrs_list PySem.F.slot_list_append PySem.F.type_list_append wJ (pv 1) (yJ (pv 4))))) xY))))))
  (xj (xK (xm km hr (yJ (pv 1))))))),
  (xl (wC (vW zN))
  (xl (zQ (qQ (xM (yG uc (xM xf)))) xn.g (zQ (y_ (bQ xf (qM (xk wO xf xu)) qT)) xn.g (xl (yh (xC (xG (fh xf xf) xf)))
  (yC (g9 (yW (xdC xf)) (xS (xk os_eq (OkF.e (zL (y_ xf).c xn (yR (yW (xC (xG xf xf)))) xf)) (wN (b:=true) zN)))) (v5 xf) xT))))
  (xF (xC (xM fw))))),fun ts KK hl h=>?_⟩)
 obtain⟨rows,rfl,hr,k⟩:=h
 have ring:=hr.ring
 have rl:=hr.len
 have r3:∀r∈rows,B3k 10 r:=fun r hm=>wH (hr.fine.fr r hm)
 have cl:(kY rows).length≤900:=ring.len
 let W:Nat→Nat→List Pol.R3→Prop:=fun i j ps=>(∀v∈ps,v∈kY rows)∧ps.length≤i*8+j∧∀v∈kY rows,∀a b s t,a<b→rows[a]? = some s→rows[b]? = some t→Pol.val s v=0→Pol.val t v=0→Pol.turn s t≠0→(a<i∨a=i∧b<i+1+j)→v∈ps
 refine⟨⟨by rw[xi0];omega,by rw[xi0];omega⟩,?_⟩
 rw[xi0,xir]
 refine wx (fun i τ=>∃(ps:List Pol.R3) (x2 x3 x4:TV),τ=[.fz (.tup (rows.map trR)),.ow (ps.map zf),x2,x3,x4]∧W i 0 ps) ⟨[],_,_,_,rfl,by simp,by simp,?_⟩ ?_ ?_
 ·intro v hv a b s t hab ha hb e1 e2 hn hc
  omega
 ·rintro i x τ N hx ⟨ps,x2,x3,x4,rfl,hW⟩ hN
  have hi:i<rows.length:=by have:=(xiR.mp hx).1;rw[ur] at this;exact this
  rw[sJ hi] at hx
  cases hx
  have es:rows[i]? = some rows[i]:=xiP hi
  generalize egen:rows[i]=s at es
  have hs:=xjn es
  show xbr _ _ _ (j_ (rows.map trR) (some ((0:Int)+i+1)) none) _
  rw[show(0:Int)+(i:Int)+1=((i+1:Nat):Int) by omega,n_,←List.map_drop]
  refine wx (fun j τ=>∃(ps:List Pol.R3) (x3 x4:TV),τ=[.fz (.tup (rows.map trR)),.ow (ps.map zf),.fz (.int ((0:Int)+i)),x3,x4]∧W i j ps) ⟨ps,_,_,rfl,hW⟩ ?_ ?_
  ·rintro j y τ N2 hy ⟨ps,x3,x4,rfl,hW⟩ hN2
   obtain⟨t,ht,rfl⟩:=uH hy
   rw[List.getElem?_drop] at ht
   have htm:=xjn ht
   have hj:=(xiR.mp ht).1
   have at0:atT (rows.map trR) ((0:Int)+i)=some (trR s):=by rw[show(0:Int)+(i:Int)=((i:Nat):Int) by omega,fi,xiS,es];rfl
   show cM (atT (rows.map trR) ((0:Int)+i)) _
   rw[at0]
   have step:∀qs:List Pol.R3,(∀v∈qs,v∈kY rows)→(∀v∈ps,v∈qs)→qs.length≤ps.length+1→(∀v∈kY rows,Pol.val s v=0→Pol.val t v=0→Pol.turn s t≠0→v∈qs)→W i (j+1) qs:=fun qs h1 h2 h3 h4=>by
    refine⟨h1,by have:=hW.2.1;omega,fun v hv a b s' t' hab ha hb e1 e2 hn hc=>?_⟩
    by_cases q:a=i∧b=i+1+j
    ·obtain⟨rfl,rfl⟩:=q
     rw[es] at ha;rw[ht] at hb
     cases ha;cases hb
     exact h4 v hv e1 e2 hn
    ·exact h2 v (hW.2.2 v hv a b s' t' hab ha hb e1 e2 hn (by omega))
   refine⟨s,t,rfl,(r3 s hs).mono (by decide),(r3 t htm).mono (by decide),?_⟩
   by_cases hn:Pol.turn s t=0
   ·rw[tG hn]
    exact hN2 _ ⟨ps,_,_,rfl,step ps hW.1 (fun v h=>h) (by omega) (fun v hv e1 e2 h=>absurd hn h)⟩
   ·rw[dW hn]
    obtain⟨cz,c1,c2⟩:=Pol.u6 hn
    have cb:B3k 21 (Pol.yA s t):=by
     have S:=r3 s hs
     have T:=r3 t htm
     have m:∀ {x y z w:Int},Bk 10 x→Bk 10 y→Bk 10 z→Bk 10 w→Bk 21 (x*y-z*w):=fun h1 h2 h3 h4=>(h1.mul h2).sub (h3.mul h4)
     unfold Pol.yA Pol.turn
     split
     ·exact⟨⟨(m S.2 T.1.2 S.1.2 T.2).neg,(m S.1.1 T.2 S.2 T.1.1).neg⟩,(m S.1.1 T.1.2 S.1.2 T.1.1).neg⟩
     ·exact⟨⟨m S.2 T.1.2 S.1.2 T.2,m S.1.1 T.2 S.2 T.1.1⟩,m S.1.1 T.1.2 S.1.2 T.1.1⟩
    have pk:=dm cz cb
    refine⟨by rw[xi0];exact sqz (by omega),uz (f:=trR) (fun r=>!zC r (plc (Pol.yA s t))) trR (fun r hm N M h1 h0=>?_) ?_⟩
    ·refine⟨r,plc (Pol.yA s t),rfl,(r3 r hm).mono (by decide),pk.1.mono (by decide),pk.2.mono (by decide),?_⟩
     exact xZ (b := !zC r (plc (Pol.yA s t))) h1 h0
    ·dsimp only[xfJ,xds]
     refine nU (uT trR aW _) ?_
     rw[List.isEmpty_map,filter_empty]
     have ek:(rows.all fun r=>!!zC r (plc (Pol.yA s t)))=true↔∀r∈rows,Pol.val r (Pol.yA s t)≤0:=by
      rw[xiw]
      refine⟨fun h r hm=>?_,fun h r hm=>?_⟩
      ·have:=h r hm
       rw[Bool.not_not,dH r cz] at this
       exact xj8 this
      ·rw[Bool.not_not,dH r cz]
       exact xj3 (h r hm)
     refine xZ (b:=rows.all fun r=>!!zC r (plc (Pol.yA s t))) (fun c=>?_) (fun c=>?_)
     ·have c:=ek.mp c
      obtain⟨v,hv,e⟩:=hr.crossing hs htm hn c
      refine⟨by rw[xi0];exact sqz (by have:=hW.2.1;omega),?_⟩
      have e2:ps.map zf++[zf (Pol.yA s t)]=(ps++[v]).map zf:=by rw[e,xi8];rfl
      show N2 _
      rw[e2]
      refine hN2 _ ⟨ps++[v],_,_,rfl,step _ ?_ (fun w hw=>xjd _ hw) (by simp) (fun w hw e1 e2 _=>?_)⟩
      ·intro w hw
       rcases xjc.mp hw with q | q
       ·exact hW.1 w q
       ·rw[xjq.mp q];exact hv
      ·have e3:=(hr.tightPt hw hn e1 e2).1
       have:w=v:=by
        have p1:=hr.corner hw
        have p2:=hr.corner hv
        refine c7 p1.1.1 p2.1.1 p1.1.2.1 p2.1.2.1 ?_
        have e4:zf w=zf v:=e3.symm.trans e
        exact xfv e4
       rw[this];simp
     ·exact hN2 _ ⟨ps,_,_,rfl,step ps hW.1 (fun v h=>h) (by omega) (fun v hv e1 e2 _=>by
       have:=ek.mpr (hr.tightPt hv hn e1 e2).2
       rw[c] at this;cases this)⟩
  ·rintro τ ⟨ps,x3,x4,rfl,hW⟩
   refine hN _ ⟨ps,_,_,_,rfl,hW.1,?_,fun v hv a b s' t' hab ha hb e1 e2 hn hc=>?_⟩
   ·have:=hW.2.1
    rw[xi0,xiY] at this
    omega
   ·refine hW.2.2 v hv a b s' t' hab ha hb e1 e2 hn ?_
    have:=(xiR.mp hb).1
    rw[xi0,xiY]
    omega
 ·rintro τ ⟨ps,x2,x3,x4,rfl,hW⟩
  rw[ur] at hW
  refine⟨ps,kY rows,rfl,fun v=>⟨hW.1 v,fun hv=>?_⟩,by have:=hW.2.1;omega,ring,k⟩
  obtain⟨⟨_,_,hc⟩,_⟩:=hr.corner hv
  obtain⟨s,hs,t,ht,e1,e2,hn⟩:=hc.two
  obtain⟨a,ha,ea⟩:=xjk.mp hs
  obtain⟨b,hb,eb⟩:=xjk.mp ht
  have ha':rows[a]? = some s:=by rw[xiP ha,ea]
  have hb':rows[b]? = some t:=by rw[xiP hb,eb]
  rcases Nat.lt_trichotomy a b with q | q | q
  ·exact hW.2.2 v hv a b s t q ha' hb' e1 e2 hn (.inl ha)
  ·subst q
   rw[ha'] at hb'
   cases hb'
   unfold Pol.turn at hn
   grind
  ·exact hW.2.2 v hv b a t s q hb' ha' e2 e1 (fun z=>hn (by unfold Pol.turn at *;grind)) (.inl hb)
theorem ao (B:Blt mg bn)(F:Fun K "_law_value" "_law_value" qw f fd)(m:mg "_law_value" = some (.ref f))(b:Binds K fd ["_law_row", "_law_place"] [])(kK:Own P w K mg base 3 "_law_plus" ["_law_one", "_law_other"] (spT 2 false false xcC))(yV:Own P w K mg base 3 "_law_times" ["_law_one", "_law_other"] (spT 2 false false nO)) :
  Own P w K mg base 4 "_law_value" ["_law_row", "_law_place"] (spT 2 false false xaw):=by
 refine xJ F ay m b rfl (fun _ _ _ _ _ _ hr=>⟨_,_,
  (xj (xK (xm kK hr (xU (xm yV hr (xU (ym (xU (xE K 0) xi)) (xE K 1))) (xm yV hr (xU (ym (xU (xE K 0) xi)) (xE K 1))))))),
  (xF (xC (xG (xC (xG (yu (b:=true) (xG xD xu)) xD)) (xC (xG (yu (b:=true) (xG xD xu)) xD))))),fun ts KK hl h=>?_⟩)
 obtain⟨r,p,rfl,hr,hx,hy,k⟩:=h
 have o9:∀ {n:Int},Bk 200 n→Fk 900 (n,1):=fun h=>⟨h.mono (by decide),by show Bk 900 1;unfold Bk;decide,by show(0:Int)<1;decide⟩
 have t9:∀ {n:Int} {f:F2},Bk 200 n→Fk 600 f→Fk 900 (pE (n,1) f):=fun {n f} h h'=>by
  unfold pE
  exact rp (by have:=h'.pos;show 1*f.2≠0;omega) ((h.mul h'.top).mono (by decide)) (by show Bk 900 (1*f.2);rw[Int.one_mul];exact h'.bot.mono (by decide))
 rw[←xbM hx.pos hy.pos] at k
 exact⟨(r.1,1),p.1,rfl,o9 hr.1.1,hx.mono (by decide),(r.2.1,1),p.2,rfl,o9 hr.1.2,hy.mono (by decide),_,_,rfl,t9 hr.1.1 hx,t9 hr.1.2 hy,k⟩
theorem aL (B:Blt mg bn)(F:Fun K "_law_keeps" "_law_keeps" qj f fd)(m:mg "_law_keeps" = some (.ref f))(b:Binds K fd ["_law_row", "_law_place"] [])(zO:Own P w K mg base 1 "_law_less" ["_law_one", "_law_other"] (spT 2 false false xaj))(qb:Own P w K mg base 4 "_law_value" ["_law_row", "_law_place"] (spT 2 false false xaw)) :
  Own P w K mg base 5 "_law_keeps" ["_law_row", "_law_place"] (spT 2 false false aQ):=by
 refine xJ F sW m b rfl (fun _ _ _ _ _ _ hr=>⟨_,_,
  (xj (xK (xcK (xm zO hr (xU (ym (xU (xE K 0) xi)) (xm qb hr (xU (pv 0) (pv 1)))))))),
  (xF (lS (xC (xG (yu (b:=true) (xG xD xu)) (xC (xG xf xf)))))),fun ts KK hl h=>?_⟩)
 obtain⟨r,p,rfl,hr,hx,hy,k⟩:=h
 refine⟨r,p,rfl,hr.mono (by decide),hx.mono (by decide),hy.mono (by decide),(r.2.2,1),mG r p,rfl,⟨hr.2.mono (by decide),by show Bk 1000 1;unfold Bk;decide,by show(0:Int)<1;decide⟩,?_,?_⟩
 ·exact xb0 (c:=r.2.2) hr.1.1 hr.1.2 (show Pk 200 p from⟨hx,hy⟩) (by decide)
 rw[←nH] at k
 exact k
theorem aA (B:Blt mg bn)(F:Fun K "_law_cross" "_law_cross" vQ f fd)(m:mg "_law_cross" = some (.ref f))(b:Binds K fd ["_law_one", "_law_other"] [])(yH:Own P w K mg base 2 "_law_low" ["_law_top", "_law_bottom"] (spT 2 false false l6)) :
  Own P w K mg base 3 "_law_cross" ["_law_one", "_law_other"] (spT 2 false false dR):=by
 refine xJ F vj m b rfl (fun _ _ _ _ _ _ hr=>⟨_,_,
  (xg (zh 2 vj.nd (xB zA (xB xO (xE K 0) (xE K 1)) (xB xO (xE K 0) (xE K 1))))
  (xg (yY (yg (uU hr.units) (pv 2) xi (yf _)) (xj (xK cD)) xY)
  (xg (zh 3 vj.nd (xm yH hr (xU (xB zA (xB xO (xE K 0) (xE K 1)) (xB xO (xE K 0) (xE K 1))) (pv 2))))
  (xj (xK (ym (xU (pv 3) (xm yH hr (xU (xB zA (xB xO (xE K 0) (xE K 1)) (xB xO (xE K 0) (xE K 1))) (pv 2)))))))))),
  (xl (yh (xk zK (xk xX xD xD) (xk xX xD xD)))
  (xl (yC (xS (xk os_eq xf xu)) (xF (xbP (t:=Tr.non))) xT)
  (xl (yh (xC (xG (xk zK (xk xX xD xD) (xk xX xD xD)) xf)))
  (xF (yu (b:=true) (xG xf (xC (xG (xk zK (xk xX xD xD) (xk xX xD xD)) xf)))))))),fun ts KK hl h=>?_⟩)
 obtain⟨s,t,rfl,hs,ht,k⟩:=h
 refine⟨⟨hs.1.1.bd,ht.1.2.bd⟩,⟨hs.1.2.bd,ht.1.1.bd⟩,?_⟩
 refine xZ (b:=decide (Pol.turn s t=0)) (fun c=>?_) (fun c=>?_)
 ·rw[tG (xj8 c)] at k
  exact k
 ·have c:=xj7 c
  have bt:Bd (Pol.turn s t):=((hs.1.1.mul ht.1.2).sub (hs.1.2.mul ht.1.1)).bd
  rw[dW c,mW c] at k
  exact⟨⟨hs.2.bd,ht.1.2.bd⟩,⟨hs.1.2.bd,ht.2.bd⟩,_,_,rfl,c,bt,⟨hs.1.1.bd,ht.2.bd⟩,⟨hs.2.bd,ht.1.1.bd⟩,_,_,rfl,c,bt,k⟩
end
end K61
namespace K61
open PySem L2 Trn
section
variable {P:Program} {w:World} {K:PySem.W.Frag} {mg:Str→Option Value} {base:Heap} {f:Addr} {fd:FuncData}
theorem nz (B:Blt mg bn)(F:Fun K "_law_box" "_law_box" jS f fd)(m:mg "_law_box" = some (.ref f))(b:Binds K fd ["_law_state_here"] [])(xx:Own P w K mg base 1 "_law_take" ["_law_state_here", "_law_many"] (spT 1 true false mB)) :
  Own P w K mg base 2 "_law_box" ["_law_state_here"] (spT 0 true false cE):=by
 refine gI F yX m b rfl (fun _ _ _ _ _ _ hr=>⟨_,_,
  (xg (zh 1 yX.nd (yU ui))
  (xg (ub PassesOwn.never rfl (zU K (yU (xR (ym (xU xi xi)) (xR (ym (xU (w_ zq xi) xi)) (xU (ym (xU xi xi)) (ym (xU xi (w_ zq xi)))))))) (zm K (n:=2) rfl (xH (yP 2 yX.nd) (xH (yP 3 yX.nd) y7))) (xg (zh 4 yX.nd (xB zF xi (xm xx hr (xU (pv 0) xi))))
  (xj (zg (fX PySem.F.plainAttrs_list PySem.F.slot_list_append PySem.F.type_list_append wJ (pv 1) (yJ (ym (xR (xB xO (pv 2) (pv 4)) (xU (xB xO (pv 3) (pv 4)) (xm xx hr (xU (pv 0) (xB zF (xB xO xi (pv 4)) xi))))))))))))
  (xg (ub PassesOwn.never rfl (je rfl (B.get "range") (yJ (xm xx hr (xU (pv 0) xi)))) (yP 5 yX.nd) (xg (kh (i:=2) (j:=3) rfl yX.nd rfl rfl (by decide) rfl rfl (xU (xB zA (xm xx hr (xU (pv 0) xi)) xi) (xB zA (xm xx hr (xU (pv 0) xi)) xi)) (by rfl))
  (xg (yY (PW.pt (tu (yg (uU hr.units) (pv 2) xi (yf _)) (fq (yg (uU hr.units) (pv 3) xi (yf _))))) (xj (zh 2 yX.nd xi)) xY)
  (xg (kh (i:=6) (j:=7) rfl yX.nd rfl rfl (by decide) rfl rfl (xU (xB zA (xm xx hr (xU (pv 0) xi)) xi) (xB zA (xm xx hr (xU (pv 0) xi)) xi)) (by rfl))
  (xj (zg (fX PySem.F.plainAttrs_list PySem.F.slot_list_insert PySem.F.type_list_insert rZ (pv 1) (xU (xm xx hr (xU (pv 0) (xB zF (xr (yz K) rfl (B.get "len") wI (yJ (pv 1))) xi))) (ym (xR (pv 2) (xU (pv 3) (xB zA (xB zF (xB zF (xB xO (pv 2) (pv 6)) (xB xO (pv 3) (pv 7))) (xm xx hr (xU (pv 0) xi))) xi))))))))))))
  (xj (xK (pv 1)))))),
  (xl (wC (vW zN))
  (xl (zQ (y_ (wN (b:=true) (xP (yu (b:=true) (xG xu xu)) (xP (yu (b:=true) (xG (zt xu) xu)) (xG (yu (b:=true) (xG xu xu)) (yu (b:=true) (xG xu (zt xu)))))))) (zi (xt xn (xt xn yE))).g (xl (yh (xk wO xu (yw (xM xu))))
  (v5 (yu (b:=true) (xP (xk xX xf xf) (xG (xk xX xf xf) (yw (xM (xk wO (xk xX xu xf) xu)))))))))
  (xl (zQ (qQ (xM (yw (xM xu)))) xn.g (xl (uG (xG (xk zK (yw (xM xu)) xu) (xk zK (yw (xM xu)) xu)))
  (xl (yC (g9 (xS (xk os_eq xf xu)) (xS (xk os_eq xf xu))) (yh xu) xT)
  (xl (uG (xG (xk zK (yw (xM xu)) xu) (xk zK (yw (xM xu)) xu)))
  (lJ (yw (xM (xk wO (yG uc (xM fw)) xu))) (yu (b:=true) (xP xf (xG xf (xk zK (xk wO (xk wO (xk xX xf xf) (xk xX xf xf)) (yw (xM xu))) xu)))))))))
  gk))),fun ts KK hl h=>?_⟩)
 obtain⟨rfl,k⟩:=h
 refine xW (fun τ=>τ=[.st,.ow [],.un,.un,.un,.un,.un,.un]) ?_ (fun N hN=>hN _ rfl)
 rintro _ rfl
 refine xW (fun τ=>∃(rows:List Pol.R3) (x2 x3 x4:TV),τ=[.st,.ow (rows.map trR),x2,x3,x4,.un,.un,.un]∧xdR 4 rows) ?_ (fun N hN=>?_)
 rotate_left
 ·refine qV (oG.map dT) (fun i τ=>∃(rows:List Pol.R3) (x2 x3 x4:TV),τ=[.st,.ow (rows.map trR),x2,x3,x4,.un,.un,.un]∧xdR i rows) (fun KK h=>h) ⟨[],_,_,_,rfl,rfl,fun j r d h=>by simp at h⟩ ?_ (fun τ ⟨rows,x2,x3,x4,e,h⟩=>hN _ ⟨rows,x2,x3,x4,e,h⟩)
  rintro i it τ N2 hx ⟨rows,x2,x3,x4,rfl,hu⟩ hN2
  obtain⟨d,hd,rfl⟩:=uH hx
  have ds:=nW hd
  have hi:i<4:=(xiR.mp hd).1
  refine⟨rfl,tk (by decide),fun r a1 a2=>⟨zM (by omega) (by omega),zM (by omega) (by omega),zM (by omega) (by omega),tk (by omega),fun q a5 a6=>⟨by rw[xi0,hu.1];exact sqz (by omega),?_⟩⟩⟩
  have st:=hu.step hd (b:=1+r) (c:=q) (by omega)
  have e:rows.map trR++[Tr.tup [.int (d.1*(1+r)),.int (d.2*(1+r)),.int q]]=(rows++[(d.1*(1+r),d.2*(1+r),q)]).map trR:=by rw[xi8];rfl
  show N2 [.st,.ow (rows.map trR++[Tr.tup [.int (d.1*(1+r)),.int (d.2*(1+r)),.int q]]),_,_,_,_,_,_]
  rw[e]
  exact hN2 _ ⟨_,_,_,_,rfl,st⟩
 rintro _ ⟨four,x2,x3,x4,rfl,hB⟩
 have L0:=hB.lf
 have fl:=hB.1
 refine xW (fun τ=>∃(rows:List Pol.R3) (x2 x3 x4 x5 x6 x7:TV),τ=[.st,.ow (rows.map trR),x2,x3,x4,x5,x6,x7]∧LF0 rows∧rows.length≤7) ?_ (fun N hN=>?_)
 ·rintro _ ⟨rows,x2,x3,x4,x5,x6,x7,rfl,h,h7⟩
  exact k rows h h7
 refine⟨tk (by decide),fun n n0 n4=>⟨⟨by omega,by omega⟩,?_⟩⟩
 refine wx (fun i τ=>∃(rows:List Pol.R3) (x2 x3 x4 x5 x6 x7:TV),τ=[.st,.ow (rows.map trR),x2,x3,x4,x5,x6,x7]∧LF0 rows∧rows.length=4+i) ⟨four,_,_,_,_,_,_,rfl,L0,fl⟩ ?_ (fun τ ⟨rows,x2,x3,x4,x5,x6,x7,e,h,h4⟩=>hN _ ⟨rows,x2,x3,x4,x5,x6,x7,e,h,by rw[ur] at h4;omega⟩)
 rintro i it τ N2 hx ⟨rows,x2,x3,x4,x5,x6,x7,rfl,h0,hl⟩ hN2
 have hi:i<n.toNat:=by have:=(xiR.mp hx).1;rw[ur] at this;exact this
 show xdP _ _ _ ([.st,.ow (rows.map trR),x2,x3,x4,.fz it,x6,x7]:TSt)
 refine xW (fun τ=>∃a b:Int,τ=[.st,.ow (rows.map trR),.fz (.int a),.fz (.int b),x4,.fz it,x6,x7]∧((-4≤a∧a≤4)∧(-4≤b∧b≤4))) ?_ (fun N3 hN3=>⟨tk (by decide),fun a a0 a1=>⟨tk (by decide),fun b b0 b1=>hN3 _ ⟨a-4,b-4,rfl,by omega⟩⟩⟩)
 rintro _ ⟨a,b,rfl,hab⟩
 refine xW (fun τ=>∃a b:Int,τ=[.st,.ow (rows.map trR),.fz (.int a),.fz (.int b),x4,.fz it,x6,x7]∧((-4≤a∧a≤4)∧(-4≤b∧b≤4))∧(a≠0∨b≠0)) ?_ (fun N3 hN3=>?_)
 rotate_left
 ·refine xZ (b:=decide (a=0)) (fun c=>?_) (fun c=>?_)
  ·refine xZ (b:=decide (b=0)) (fun d=>?_) (fun d=>?_)
   ·exact hN3 _ ⟨3,b,rfl,by omega,.inl (by decide)⟩
   ·exact hN3 _ ⟨a,b,rfl,by omega,.inr (xj7 d)⟩
  ·exact nJ (hN3 _ ⟨a,b,rfl,by omega,.inl (xj7 c)⟩)
 rintro _ ⟨a,b,rfl,hab,hne⟩
 refine xW (fun τ=>∃x y:Int,τ=[.st,.ow (rows.map trR),.fz (.int a),.fz (.int b),x4,.fz it,.fz (.int x),.fz (.int y)]∧((-2≤x∧x≤2)∧(-2≤y∧y≤2))) ?_ (fun N3 hN3=>⟨tk (by decide),fun a a0 a1=>⟨tk (by decide),fun b b0 b1=>hN3 _ ⟨a-2,b-2,rfl,by omega⟩⟩⟩)
 rintro _ ⟨x,y,rfl,hxy⟩
 have ml:(rows.map trR).length=rows.length:=xi0 _
 refine⟨tk (by rw[ml];omega),fun kk k0 k1=>⟨zM (by omega) (by omega),zM (by omega) (by omega),tk (by decide),fun t t0 t4=>?_⟩⟩
 rw[ml] at k1
 have m1:=dQ hab.1.1 hab.1.2 hxy.1.1 hxy.1.2 (by decide) (by decide)
 have m2:=dQ hab.2.1 hab.2.2 hxy.2.1 hxy.2.2 (by decide) (by decide)
 refine⟨kk.toNat,by rw[xis k0],by rw[ml];omega,by rw[ml];exact sqz (by omega),?_⟩
 have e:(rows.map trR).take kk.toNat++[Tr.tup [.int a,.int b,.int (a*x+b*y+t-1)]]++(rows.map trR).drop kk.toNat=(rows.take kk.toNat++[(a,b,a*x+b*y+t-1)]++rows.drop kk.toNat).map trR:=by
  rw[xi8,xi8,xjb,List.map_drop];rfl
 show N2 [.st,.ow ((rows.map trR).take kk.toNat++[Tr.tup [.int a,.int b,.int (a*x+b*y+t-1)]]++(rows.map trR).drop kk.toNat),_,_,_,_,_,_]
 rw[e]
 refine hN2 _ ⟨_,_,_,_,_,_,_,rfl,h0.ins ?_ (by omega) _,?_⟩
 ·unfold Extra
  simp only
  omega
 ·simp only[xiW,xi6,xiY,xi5]
  omega
theorem sU (B:Blt mg bn)(F:Fun K "_law_spike" "_law_spike" qu f fd)(m:mg "_law_spike" = some (.ref f))(b:Binds K fd ["_law_state_here"] [])(xx:Own P w K mg base 1 "_law_take" ["_law_state_here", "_law_many"] (spT 1 true false mB)) :
  Own P w K mg base 2 "_law_spike" ["_law_state_here"] (spT 0 true false cE):=by
 refine gI F vi m b rfl (fun _ _ _ _ _ _ hr=>⟨_,_,
  (xg (zh 1 vi.nd (xB zF xi (xm xx hr (xU (pv 0) xi))))
  (xg (zh 2 vi.nd (yU (xR (ym (xR (w_ zq xi) (xU xi xi))) (xU (ym (xR xi (xU (xB xO (w_ zq xi) (pv 1)) xi))) (ym (xR xi (xU (xB xO xi (pv 1)) (xB xO xi (pv 1)))))))))
  (xg (yY (yg (uU hr.units) (xm xx hr (xU (pv 0) xi)) xi (yf _)) (xj (zg (fX PySem.F.plainAttrs_list PySem.F.slot_list_append PySem.F.type_list_append wJ (pv 2) (yJ (ym (xR (xm xx hr (xU (pv 0) xi)) (xU (xB zF xi (xm xx hr (xU (pv 0) xi))) (xB zF xi (xm xx hr (xU (pv 0) xi)))))))))) xY)
  (xj (xK (pv 2)))))),
  (xl (yh (xk wO xu (yw (xM xu))))
  (xl (wC (vW (xP (yu (b:=true) (xP (zt xu) (xG xu xu))) (xG (yu (b:=true) (xP xu (xG (xk xX (zt xu) xf) xu))) (yu (b:=true) (xP xu (xG (xk xX xu xf) (xk xX xu xf))))))))
  (xl (yC (xS (xk os_eq (yw (xM xu)) xu)) (v5 (yu (b:=true) (xP (yw (xM xu)) (xG (xk wO xu (yw (xM xu))) (xk wO xu (yw (xM xu))))))) xT)
  gk))),fun ts KK hl h=>?_⟩)
 obtain⟨rfl,k⟩:=h
 refine xW (fun τ=>∃l:Int,(1≤l∧l≤4)∧τ=[.st,.fz (.int l),.un]) ?_ (fun N hN=>⟨tk (by decide),fun r r0 r1=>hN _ ⟨1+r,by omega,rfl⟩⟩)
 rintro _ ⟨l,hl2,rfl⟩
 refine xW (fun τ=>τ=[.st,.fz (.int l),.ow ([(-1,0,0),(1,-2*l,0),(1,2*l,2*l)].map trR)]) ?_ (fun N hN=>⟨zM (by omega) (by omega),zM (by omega) (by omega),zM (by omega) (by omega),hN _ rfl⟩)
 rintro _ rfl
 have L0:=xbu (k:=l) hl2.1 (by omega)
 refine xW (fun τ=>∃rows,(LF0 rows∧rows.length≤7)∧τ=[.st,.fz (.int l),.ow (rows.map trR)]) ?_ (fun N hN=>?_)
 ·rintro _ ⟨rows,h,rfl⟩
  exact k rows h.1 h.2
 refine⟨tk (by decide),fun r r0 r2=>?_⟩
 refine xZ (b:=decide (r=1)) (fun _=>?_) (fun _=>hN _ ⟨_,⟨L0,by simp⟩,rfl⟩)
 refine⟨tk (by decide),fun a a0 a3=>⟨tk (by decide),fun b b0 b2=>⟨tk (by decide),fun c c0 c4=>⟨sqz (by show(3:Nat)≤1000000;decide),hN _ ⟨[(-1,0,0),(1,-2*l,0),(1,2*l,2*l)]++[(a,1+b,1+c)],⟨L0.grow (by simp) (by simp) (fun r hr=>xjd _ hr) (fun r hr=>(xjc.mp hr).imp id fun z=>?_),by simp⟩,rfl⟩⟩⟩⟩⟩
 rw[xjq.mp z]
 unfold Extra
 simp only
 omega
theorem sA (B:Blt mg bn)(F:Fun K "_law_field" "_law_field" qA f fd)(m:mg "_law_field" = some (.ref f))(b:Binds K fd ["_law_state_here"] [])(jQ:Own P w K mg base 2 "_law_box" ["_law_state_here"] (spT 0 true false cE))(xx:Own P w K mg base 1 "_law_take" ["_law_state_here", "_law_many"] (spT 1 true false mB))(ql:Own P w K mg base 2 "_law_spike" ["_law_state_here"] (spT 0 true false cE)) :
  Own P w K mg base 3 "_law_field" ["_law_state_here"] (spT 0 true false b_):=by
 refine gI F yn m b rfl (fun _ _ _ _ _ _ hr=>⟨_,_,
  (xg (zh 1 yn.nd (xm jQ hr (yJ (pv 0))))
  (xg (yY (yg (uU hr.units) (xm xx hr (xU (pv 0) xi)) xi (yf _)) (xj (zh 1 yn.nd (xm ql hr (yJ (pv 0))))) xY)
  (xg (zh 2 yn.nd (xm xx hr (xU (pv 0) xi)))
  (xg (kh (i:=3) (j:=4) rfl yn.nd rfl rfl (by decide) rfl rfl (xU (xB zA (xm xx hr (xU (pv 0) xi)) xi) (xB zA (xm xx hr (xU (pv 0) xi)) xi)) (by rfl))
  (xg (zh 5 yn.nd (yU ui))
  (xg (ub PassesOwn.never rfl (zU K (pv 1)) (zm K (n:=3) rfl (xH (yP 6 yn.nd) (xH (yP 7 yn.nd) (xH (yP 8 yn.nd) y7)))) (xg (yY (yg (uU hr.units) (xB aI (pv 2) xi) xi (yf _)) (xj (kh (i:=6) (j:=7) rfl yn.nd rfl rfl (by decide) rfl rfl (xU (pv 7) (pv 6)) (by rfl))) xY)
  (xg (kh (i:=6) (j:=7) rfl yn.nd rfl rfl (by decide) rfl rfl (xU (xB xO (pv 6) (uI (wq K) (yU (xU xi (w_ zq xi))) (xB aI (xB vg (pv 2) xi) xi) (fun _ _=>rfl))) (xB xO (pv 7) (uI (wq K) (yU (xU xi (w_ zq xi))) (xB vg (pv 2) xi) (fun _ _=>rfl)))) (by rfl))
  (xj (zg (fX PySem.F.plainAttrs_list PySem.F.slot_list_append PySem.F.type_list_append wJ (pv 5) (yJ (ym (xR (pv 6) (xU (pv 7) (xB zF (xB zF (pv 8) (xB xO (pv 6) (pv 3))) (xB xO (pv 7) (pv 4)))))))))))))
  (xj (xK (qy (ku K) rfl (B.get "tuple") uk (yJ (pv 5))))))))))),
  (xl (yh (yw (b:=true) zN))
  (xl (yC (xS (xk os_eq (yw (xM xu)) xu)) (yh (yw (b:=true) zN)) xT)
  (xl (yh (yw (xM xu)))
  (xl (uG (xG (xk zK (yw (xM xu)) xu) (xk zK (yw (xM xu)) xu)))
  (xl (wC (vW zN))
  (xl (zQ (y_ xf) (zi (xt xn (xt xn (xt xn yE)))).g (xl (yC (xS (xk os_eq (xk cT xf xu) xu)) (uG (xG xf xf)) xT)
  (xl (uG (xG (xk xX xf (fh (wN (b:=true) (xG xu (zt xu))) (xk cT (xk ju xf xu) xu))) (xk xX xf (fh (wN (b:=true) (xG xu (zt xu))) (xk ju xf xu)))))
  (v5 (yu (b:=true) (xP xf (xG xf (xk wO (xk wO xf (xk xX xf xf)) (xk xX xf xf)))))))))
  (xF xee))))))),fun ts KK hl h=>?_⟩)
 obtain⟨rfl,k⟩:=h
 refine xW (fun τ=>∃rows,(LF0 rows∧rows.length≤7)∧τ=[.st,.fz (.lst (rows.map trR)),.un,.un,.un,.un,.un,.un,.un]) ?_ (fun N hN=>⟨rfl,fun rows h h7=>hN _ ⟨rows,⟨h,h7⟩,rfl⟩⟩)
 rintro _ ⟨rows,h0,rfl⟩
 refine xW (fun τ=>∃rows,(LF0 rows∧rows.length≤7)∧τ=[.st,.fz (.lst (rows.map trR)),.un,.un,.un,.un,.un,.un,.un]) ?_ (fun N hN=>⟨tk (by decide),fun r r0 r1=>xZ (b:=decide (r=0)) (fun _=>⟨rfl,fun rows h h7=>hN _ ⟨rows,⟨h,h7⟩,rfl⟩⟩) (fun _=>hN _ ⟨rows,h0,rfl⟩)⟩)
 clear h0
 rintro _ ⟨rows,⟨h0,h7⟩,rfl⟩
 refine xW (fun τ=>∃w:Int,(0≤w∧w<8)∧τ=[.st,.fz (.lst (rows.map trR)),.fz (.int w),.un,.un,.un,.un,.un,.un]) ?_ (fun N hN=>⟨tk (by decide),fun w w0 w8=>hN _ ⟨w,⟨w0,w8⟩,rfl⟩⟩)
 rintro _ ⟨w,hw,rfl⟩
 refine xW (fun τ=>∃u v:Int,((-2≤u∧u≤2)∧(-2≤v∧v≤2))∧τ=[.st,.fz (.lst (rows.map trR)),.fz (.int w),.fz (.int u),.fz (.int v),.un,.un,.un,.un]) ?_ (fun N hN=>⟨tk (by decide),fun a a0 a1=>⟨tk (by decide),fun b b0 b1=>hN _ ⟨a-2,b-2,by omega,rfl⟩⟩⟩)
 rintro _ ⟨u,v,huv,rfl⟩
 refine xW (fun τ=>τ=[.st,.fz (.lst (rows.map trR)),.fz (.int w),.fz (.int u),.fz (.int v),.ow [],.un,.un,.un]) ?_ (fun N hN=>hN _ rfl)
 rintro _ rfl
 have w8:w=0∨w=1∨w=2∨w=3∨w=4∨w=5∨w=6∨w=7:=by omega
 obtain⟨s,hs,es⟩:∃s:Int,(s=1∨s = -1)∧atT [Tr.int 1,Tr.int (-1)] ((w.fdiv 2).fmod 2)=some (.int s):=by
  rcases w8 with rfl | rfl | rfl | rfl | rfl | rfl | rfl | rfl<;>first | exact⟨1,.inl rfl,rfl⟩ | exact⟨-1,.inr rfl,rfl⟩
 obtain⟨t,ht,et⟩:∃s:Int,(s=1∨s = -1)∧atT [Tr.int 1,Tr.int (-1)] (w.fdiv 4)=some (.int s):=by
  rcases w8 with rfl | rfl | rfl | rfl | rfl | rfl | rfl | rfl<;>first | exact⟨1,.inl rfl,rfl⟩ | exact⟨-1,.inr rfl,rfl⟩
 have LFx:=(h0.turned (decide (w.fmod 2=1)) hs ht).moved (u:=u) (v:=v) (by omega) (by omega)
 rw[xi_] at LFx
 refine xW (fun τ=>∃x6 x7 x8:TV,τ=[.st,.fz (.lst (rows.map trR)),.fz (.int w),.fz (.int u),.fz (.int v),.ow ((rows.map (hJ u v ∘ gf (decide (w.fmod 2=1)) s t)).map trR),x6,x7,x8]) ?_ (fun N hN=>?_)
 ·rintro _ ⟨x6,x7,x8,rfl⟩
  exact k _ LFx (by rw[xi0];exact h7)
 refine qV (rows.map trR) (fun i τ=>∃x6 x7 x8:TV,τ=[.st,.fz (.lst (rows.map trR)),.fz (.int w),.fz (.int u),.fz (.int v),.ow (((rows.take i).map (hJ u v ∘ gf (decide (w.fmod 2=1)) s t)).map trR),x6,x7,x8]) (fun KK h=>h) ⟨_,_,_,rfl⟩ ?_ (fun τ ⟨x6,x7,x8,e⟩=>hN _ ⟨x6,x7,x8,by rw[e,xi0,xjG (xjK _)]⟩)
 rintro i it τ N2 hx ⟨x6,x7,x8,rfl⟩ hN2
 obtain⟨r,hr,rfl⟩:=uH hx
 have sm:=h0.sm r (xjn hr)
 have l8:=h0.l8
 refine⟨rfl,?_⟩
 dsimp only[xa5,xbK,eName,xfY]
 show xdP _ _ _ ([.st,.fz (.lst (rows.map trR)),.fz (.int w),.fz (.int u),.fz (.int v),.ow (((rows.take i).map (hJ u v ∘ gf (decide (w.fmod 2=1)) s t)).map trR),.fz (.int r.1),.fz (.int r.2.1),.fz (.int r.2.2)]:TSt)
 refine xW (fun τ=>∃a b:Int,(a=(if decide (w.fmod 2=1)=true then r.2.1 else r.1)∧b=(if decide (w.fmod 2=1)=true then r.1 else r.2.1))∧τ=[.st,.fz (.lst (rows.map trR)),.fz (.int w),.fz (.int u),.fz (.int v),.ow (((rows.take i).map (hJ u v ∘ gf (decide (w.fmod 2=1)) s t)).map trR),.fz (.int a),.fz (.int b),.fz (.int r.2.2)]) ?_ (fun N3 hN3=>⟨(show(2:Int)≠0 by decide),xZ (b:=decide (w.fmod 2=1)) (fun c=>hN3 _ ⟨r.2.1,r.1,by rw[c];exact⟨rfl,rfl⟩,rfl⟩) (fun c=>hN3 _ ⟨r.1,r.2.1,by rw[c];exact⟨rfl,rfl⟩,rfl⟩)⟩)
 rintro _ ⟨a,b',⟨ea,eb⟩,rfl⟩
 have ab:(-14≤a∧a≤14)∧(-14≤b'∧b'≤14):=by
  rw[ea,eb]
  split<;>omega
 have s1:-1≤s∧s≤1:=by omega
 have t1:-1≤t∧t≤1:=by omega
 have as:=dQ ab.1.1 ab.1.2 s1.1 s1.2 (by decide) (by decide)
 have bt:=dQ ab.2.1 ab.2.2 t1.1 t1.2 (by decide) (by decide)
 have tr:hJ u v (gf (decide (w.fmod 2=1)) s t r)=(a*s,b'*t,r.2.2+a*s*u+b'*t*v):=by
  unfold hJ gf
  rw[ea,eb]
  split<;>rfl
 refine xW (fun τ=>τ=[.st,.fz (.lst (rows.map trR)),.fz (.int w),.fz (.int u),.fz (.int v),.ow (((rows.take i).map (hJ u v ∘ gf (decide (w.fmod 2=1)) s t)).map trR),.fz (.int (a*s)),.fz (.int (b'*t)),.fz (.int r.2.2)]) ?_ (fun N3 hN3=>?_)
 rotate_left
 ·refine⟨⟨(show(2:Int)≠0 by decide),gz (by decide)⟩,(show(2:Int)≠0 by decide),?_⟩
  show cM (atT [Tr.int 1,Tr.int (-1)] ((w.fdiv 2).fmod 2)) _
  rw[es]
  refine⟨zM (by omega) (by omega),⟨(show(4:Int)≠0 by decide),gz (by decide)⟩,?_⟩
  show cM (atT [Tr.int 1,Tr.int (-1)] (w.fdiv 4)) _
  rw[et]
  exact⟨zM (by omega) (by omega),hN3 _ rfl⟩
 rintro _ rfl
 refine⟨zM (by omega) (by omega),zM (by omega) (by omega),by simp only[xi0,xi6];exact sqz (by omega),hN2 _ ⟨.fz (.int (a*s)),.fz (.int (b'*t)),.fz (.int r.2.2),?_⟩⟩
 rw[xjH,hr]
 simp only[xi8,Option.toList,xi9,xja,Function.comp,tr]
 rfl
end
end K61
namespace K61
open PySem L2 Trn
section
variable {P:Program} {w:World} {K:PySem.W.Frag} {mg:Str→Option Value} {base:Heap} {f:Addr} {fd:FuncData}
theorem fZ (B:Blt mg bn)(F:Fun K "_law_within" "_law_within" wY f fd)(m:mg "_law_within" = some (.ref f))(b:Binds K fd ["_law_one", "_law_other"] [])(uD:Own P w K mg base 7 "_law_corners" ["_law_rows"] (spT 1 false false ma))(zS:Own P w K mg base 5 "_law_keeps" ["_law_row", "_law_place"] (spT 2 false false aQ)) :
  Own P w K mg base 8 "_law_within" ["_law_one", "_law_other"] (spT 2 false false kW):=by
 refine xJ F q9 m b rfl (fun _ _ _ _ _ _ hr=>⟨_,_,
  (xg (u5 (i:=2) q9.nd rfl (Or.inr rfl) (xm uD hr (yJ (pv 0))))
  (xj (xK (zZ (uU hr.units) (xa0 (l_ (N:=["_law_row", "_law_places"]) (tau:=[none,some 2]) (XN:=["_law_one", "_law_other", "_law_places"]) (xs:=xh wY) (by decide +kernel) rfl rfl) rfl (uN rfl) (zU K (pv 1)) (fun _ _ _ _=>(yI (i:=0) (show(["_law_row", "_law_places"]:List Str).Nodup by decide +kernel) rfl (Or.inr rfl))) (fun _ _ _ _=>(fb (yg (uZ hr.units) (uj (za (N:=["_law_place", "_law_row"]) (tau:=[none,some 0]) (XN:=["_law_row", "_law_places"]) (xs:=_) (by kernel_rfl) rfl rfl) rfl (uN rfl) (zU K (pv 1)) (fun _ _ _ _=>(yI (i:=0) (show(["_law_place", "_law_row"]:List Str).Nodup by decide +kernel) rfl (Or.inl rfl))) (fun _ _ _ _=>(fb (zE (zB (xm zS hr (xU (pv 1) (pv 0))))))) (fun _ _ _ _=>(pv 0))) (yU ui) (yf _)))) (fun _ _ _ _=>(pv 0))) (yU ui) (yf _))))),
  (xl (yh (xC (xM xf)))
  (xF (xk os_eq (OkF.e (zL (y_ xf).c xn (xS (xk jP (OkF.e (zL (y_ xf).c xn (yR (yW (xC (xG xf xf)))) xf)) (wN (b:=true) zN))) xf)) (wN (b:=true) zN)))),fun ts KK hl h=>?_⟩)
 obtain⟨rows,others,rfl,hf,hg,k⟩:=h
 have FR:=xb3.fr hf
 have cl:=bJ FR
 have l8:=(xb3 hg).1.2
 refine xW (fun τ=>τ=[.fz (.tup (rows.map trR)),.fz (.tup (others.map trR)),.fz (.lst ((kY rows).map zf))]) ?_ (fun N hN=>⟨rows,rfl,FR,hN _ rfl⟩)
 rintro _ rfl
 refine⟨by rw[xi0];exact sqz (by omega),uz (fun r=>!((kY rows).all fun v=>zC r (plc v))) trR (fun r hr N M h1 h0=>?_) ?_⟩
 ·have S:=wH ((xb3 hg).2.1 r hr).2
  refine⟨by rw[xi0];exact sqz (by omega),uz (fun v=>!zC r (plc v)) zf (fun v hv N M h1 h0=>?_) ?_⟩
  ·have P:=FR.pk2 hv
   exact⟨r,plc v,rfl,S.mono (by decide),P.1.mono (by decide),P.2.mono (by decide),xZ (b := !zC r (plc v)) h1 h0⟩
  ·dsimp only[xfJ,xds]
   refine nU (gG _) ?_
   rw[List.isEmpty_map,filter_empty]
   have e:((kY rows).all fun v=>!!zC r (plc v))=(kY rows).all fun v=>zC r (plc v):=by congr 1;funext v;rw[Bool.not_not]
   rw[e]
   exact xZ h1 h0
 ·dsimp only[xfJ,xds]
  refine nU (uT trR aW _) ?_
  rw[List.isEmpty_map,filter_empty]
  have e:(others.all fun r=>!!((kY rows).all fun v=>zC r (plc v)))=inB rows others:=by
   unfold inB
   rw[xa3]
   congr 1;funext r;rw[Bool.not_not]
  rw[e]
  exact k
theorem kA (B:Blt mg bn)(F:Fun K "_law_sides_right" "_law_sides_right" yq f fd)(m:mg "_law_sides_right" = some (.ref f))(b:Binds K fd ["_law_state_here", "_law_field_here"] [])(xx:Own P w K mg base 1 "_law_take" ["_law_state_here", "_law_many"] (spT 1 true false mB)){a_NoField:Addr}(yZ:∀base,Mod K mg base→Own P w K mg base 12 "_law_refused" ["_law_call"] (lu P w K mg base 11 a_NoField 0)){a_NoNumber:Addr}(yB:∀base,Mod K mg base→Own P w K mg base 12 "_law_refused" ["_law_call"] (lu P w K mg base 11 a_NoNumber 6))(ug:Own P w K mg base 6 "_law_same" ["_law_found", "_law_due"] (spT 2 false false xcm))(lV:Own P w K mg base 10 "side" ["field", "k"] (spT 2 false false xex))(ox_side__NoField:∀base,Mod K mg base→cj P w K mg base 10 "side" ["field", "k"] (spX 2 a_NoField xcR))(ox_side__NoNumber:∀base,Mod K mg base→cj P w K mg base 10 "side" ["field", "k"] (spX 2 a_NoNumber xc3))(og__law_take:∀base,Mod K mg base→Own P w K mg base 1 "_law_take" ["_law_state_here", "_law_many"] (spT 1 true false mB)){c T:Addr}(hfd:fd.code=.ref c)(hT:xeo K=some (T,("_law_sides_right.<locals>.<lambda>" : Str)))(hTg:mainGlobals≠T)(hC:PySem.W.CodeHd base c T)(hB:base.BuiltinsAt mg T) :
  Own P w K mg base 13 "_law_sides_right" ["_law_state_here", "_law_field_here"] (xaZ K 1 false xaN):=by
 refine oU F hfd yi m b rfl (g:=8) rfl (by decide +kernel) (fun A outer s H E hr=>⟨_,_,
  (xg (ub PassesOwn.never rfl (mO K rfl (B.get "enumerate") (yJ (pv 1))) (zm K (n:=2) rfl (xH (yP 2 yi.nd) (xH (zm K (n:=3) rfl (xH (yP 3 yi.nd) (xH (yP 4 yi.nd) (xH (yP 5 yi.nd) y7)))) y7))) (xj (yY (zE (zB (xm ug hr (xU (xm lV hr (xU (pv 1) (pv 2))) (xB (fx K) (pv 1) (ym (yJ (ym (xR (xB zA xi (pv 3)) (xU (xB zA xi (pv 4)) (xB zA xi (pv 5)))))))))))) (xj (xK vC)) xY)))
  (xg (u5 (i:=6) yi.nd rfl (Or.inr rfl) (xB (fx K) (pv 1) (xB (xba K) (qL (ph K) (pv 1) jE (kO xi)) (xB zA xi (xr (yz K) rfl (B.get "len") wI (yJ (pv 1)))))))
  (xg (u5 (i:=7) yi.nd rfl (Or.inr rfl) (uI (wq K) (yU (xR (xr (yz K) rfl (B.get "len") wI (yJ (pv 1))) (xR (w_ zq xi) (xR vC (xR cD (xR xar (xU (ym (yJ xi)) (xB xap xi xi)))))))) (xm xx hr (xU (pv 0) xi)) (fun _ _=>rfl)))
  (xg (yY (yg (uZ hr.units) (jD (N:=["_law_field_here", "_law_bad"]) (tau:=[1,7]) yB hr (fun _ _ _ _ _ _ _ _ _ M hr'=>fk (ox_side__NoNumber _ M) hr' sk (xU (pv 0) (pv 1))) (by kernel_rfl) rfl hC hTg hB rfl rfl rfl rfl (by repeat' constructor) (fun _=>rfl) (fun _ _ _=>rfl) (by decide) (by decide) rfl rfl rfl) (yU (yJ xi)) (yf _)) (xj (xK vC)) xY)
  (xg (yY (yg (uZ hr.units) (jD (N:=["_law_eight"]) (tau:=[6]) yB hr (fun _ _ _ _ _ _ _ _ _ M hr'=>fk (ox_side__NoNumber _ M) hr' sk (xU (pv 0) xi)) (by kernel_rfl) rfl hC hTg hB rfl rfl rfl rfl (by repeat' constructor) (fun _=>rfl) (fun _ _ _=>rfl) (by decide) (by decide) rfl rfl rfl) (yU (yJ xi)) (yf _)) (xj (xK vC)) xY)
  (xj (xK (zZ (uU hr.units) (jD (N:=["_law_eight", "_law_state_here"]) (tau:=[6,0]) yZ hr (fun _ _ _ _ _ _ _ _ _ M hr'=>fk (ox_side__NoField _ M) hr' sk (xU (pv 0) (xm (og__law_take _ M) hr' (xU (pv 1) xi)))) (by kernel_rfl) rfl hC hTg hB rfl rfl rfl rfl (by repeat' constructor) (fun _=>rfl) (fun _ _ _=>rfl) (by decide) (by decide) rfl rfl rfl) (yU (yJ xi)) (yf _))))))))),
  (xl (zQ (aE (xM xf)) (zi (xt xn (xt (zi (xt xn (xt xn (xt xn yE)))) yE))).g (yC (yR (yW (xC (xG (xC (xG xf xf)) (fJ xf (yu (b:=true) (xM (yu (b:=true) (xP (xk zK xu xf) (xG (xk zK xu xf) (xk zK xu xf))))))))))) (xF qc) xT))
  (xl (yh (fJ xf (xbQ (bQ xf qT (qM xu)) (xk zK xu (yG uc (xM xf))))))
  (xl (yh (fh (wN (b:=true) (xP (yG uc (xM xf)) (xP (zt xu) (xP qc (xP (xbP (t:=Tr.non)) (xP (xbP (t:=Tr.str _)) (xG (yu (b:=true) (xM xu)) (xk xeF xu xu)))))))) (yw (xM xu))))
  (xl (yC (xS (xk jP (OkF.e (vN (ix:=8) hT (xG xf xf))) (wN (b:=true) (xM xu)))) (xF qc) xT)
  (xl (yC (xS (xk jP (OkF.e (vN (ix:=8) hT (xG xf xu))) (wN (b:=true) (xM xu)))) (xF qc) xT)
  (xF (xk os_eq (OkF.e (vN (ix:=8) hT (xG xf (yw (xM xu))))) (wN (b:=true) (xM xu))))))))),fun ns ts KK hl h=>?_⟩)
 obtain⟨rows,rfl,hF,l7,k⟩:=h
 have l3:=hF.l3
 have hf:=hF.isf
 have ml:(rows.map trR).length=rows.length:=xi0 _
 have isf:∀r∈rows,xy (rows++[xbs r])=true:=fun r hr=>(hF.snoc l7 (hF.smr hr).neg).isf
 refine xW (fun τ=>∃x2 x3 x4 x5:TV,τ=[.st,.fz (.tup (rows.map trR)),x2,x3,x4,x5,.un,.un,.sc ns]) ?_ (fun N hN=>?_)
 rotate_left
 ·refine qV (vK (rows.map trR)) (fun i τ=>∃x2 x3 x4 x5:TV,τ=[.st,.fz (.tup (rows.map trR)),x2,x3,x4,x5,.un,.un,.sc ns]) (fun KK h=>h) ⟨_,_,_,_,rfl⟩ ?_ (fun τ h=>hN _ h)
  rintro i x τ N2 hx ⟨x2,x3,x4,x5,rfl⟩ hN2
  have hi:=(xiR.mp hx).1
  rw[show(vK (rows.map trR)).length=rows.length from(wG 0 _).trans ml] at hi
  have hr:rows[i]? = some rows[i]:=xiP hi
  have hm:=xiV hi
  generalize rows[i]=r at hr hm
  rw[show(vK (rows.map trR))[i]? = some (.tup [.int ((0+i:Nat):Int),trR r]) from vX (by rw[xiS,hr];rfl),xjV] at hx
  cases hx
  refine⟨rfl,rfl,?_⟩
  refine⟨rows,i,r,rfl,hf,hr,isf r hm,?_⟩
  refine⟨xcF (by show(rows.map trR).length+1≤_;rw[ml];omega),.tup ((rows++[xbs r]).map trR),?_,?_,hN2 _ ⟨_,_,_,_,rfl⟩⟩
  ·rw[xi8]
   unfold xbs
   simp only[←Int.zero_sub]
   rfl
  ·refine(xcy (d:=1) (by rw[xi0,xiW];simp;omega) fun u hu=>?_).up.up
   obtain⟨q,_,rfl⟩:=xjl.mp hu
   exact xcy (by simp) fun u hu=>by
    simp only[xjf,xjv,xj9] at hu
    rcases hu with rfl | rfl | rfl<;>exact xfH _ _
 rintro _ ⟨x2,x3,x4,x5,rfl⟩
 obtain⟨h8,e8⟩:=hF.eight
 refine xW (fun τ=>τ=[.st,.fz (.tup (rows.map trR)),x2,x3,x4,x5,.fz (.tup ((eight rows).map trR)),.un,.sc ns]) ?_ (fun N hN=>?_)
 rotate_left
 ·have c1:j_ (rows.map trR) none (some 1)=[trR (rows.getD 0 (0,0,0))]:=by
   refine(xcr _ 1).trans ?_
   cases rows with
   | nil=>simp at l3
   | cons a t=>rfl
  have en:((8:Int)-((rows.map trR).length:Nat)).toNat=8-rows.length:=by rw[ml];omega
  refine⟨?_,⟨?_,?_⟩,?_,?_,hN _ ?_⟩
  ·show j_ (rows.map trR) none (some 1)≠[]
   rw[c1];simp
  ·show(1:Int)≤8-((rows.map trR).length:Nat)
   rw[ml];omega
  ·show(8:Int)-((rows.map trR).length:Nat)<2 ^ 63
   rw[ml];omega
  ·show(j_ (rows.map trR) none (some 1)).length*((8:Int)-((rows.map trR).length:Nat)).toNat≤sizeLine
   rw[c1,en]
   exact xcF (by simp;omega)
  ·show(rows.map trR).length+(List.replicate ((8:Int)-((rows.map trR).length:Nat)).toNat (j_ (rows.map trR) none (some 1))).flatten.length≤sizeLine
   rw[c1,en,aw,xi2,ml]
   exact xcF (by omega)
  show([.st,.fz (.tup (rows.map trR)),x2,x3,x4,x5,.fz (.tup (rows.map trR++(List.replicate ((8:Int)-((rows.map trR).length:Nat)).toNat (j_ (rows.map trR) none (some 1))).flatten)),.un,.sc ns]:TSt)=_
  rw[c1,en,aw]
  unfold eight
  rw[xi8,List.map_replicate]
 rintro _ rfl
 refine xW (fun τ=>∃t:Tr,xgN rows.length t∧τ=[.st,.fz (.tup (rows.map trR)),x2,x3,x4,x5,.fz (.tup ((eight rows).map trR)),.fz t,.sc ns]) ?_ (fun N hN=>?_)
 rotate_left
 ·refine⟨⟨by decide,by decide,by decide⟩,tk (by decide),fun q q0 q7=>?_⟩
  have go:∀l:List Tr,l.length=7→(∀t∈l,xgN rows.length t)→cM (atT l q) (fun t=>xgh 7 (dC t) { nx:=N,rt:=KK } ([.st,.fz (.tup (rows.map trR)),x2,x3,x4,x5,.fz (.tup ((eight rows).map trR)),.un,.sc ns]:TSt)):=fun l hl hb=>by
   rw[xcO q0]
   have:q.toNat<l.length:=by omega
   rw[xiP this]
   exact hN _ ⟨_,hb _ (xiV this),rfl⟩
  refine go [.int (rows.map trR).length,.int (-1),.bl true,.non,.str "0", .tup [.int 0],.int (10 ^ (29:Int).toNat)] rfl fun t ht=>?_
  simp only[xjf,xjv,xj9] at ht
  rcases ht with rfl | rfl | rfl | rfl | rfl | rfl | rfl
  ·show ¬_
   rw[ml];omega
  ·show ¬_
   omega
  ·rfl
  ·rfl
  ·rfl
  ·rfl
  ·show ¬_
   have:(10:Int) ^ (29:Int).toNat>100:=by decide
   omega
 rintro _ ⟨t,hb,rfl⟩
 refine xW (fun τ=>τ=[.st,.fz (.tup (rows.map trR)),x2,x3,x4,x5,.fz (.tup ((eight rows).map trR)),.fz t,.sc ns]) ?_ (fun N hN=>⟨⟨_,rfl⟩,rfl,⟨rows,t,rfl,hf,hb⟩,sQ 6,hN _ rfl⟩)
 rintro _ rfl
 refine xW (fun τ=>τ=[.st,.fz (.tup (rows.map trR)),x2,x3,x4,x5,.fz (.tup ((eight rows).map trR)),.fz t,.sc ns]) ?_ (fun N hN=>⟨⟨_,rfl⟩,rfl,⟨eight rows,.int 8,rfl,h8.isf,by rw[e8];show ¬_;omega⟩,sQ 6,hN _ rfl⟩)
 rintro _ rfl
 exact⟨⟨_,rfl⟩,rfl,⟨tk (by decide),fun q q0 q8=>⟨eight rows,q,rfl,h8.isf,e8,q0,q8⟩⟩,sQ 0,k⟩
end
end K61
namespace K61
open PySem L2 Trn
section
variable {P:Program} {w:World} {K:PySem.W.Frag} {mg:Str→Option Value} {base:Heap} {f:Addr} {fd:FuncData}
theorem xe8 (B:Blt mg bn)(F:Fun K "law" "law" fP f fd)(vV:Own P w K mg base 2 "_law_state" ["_law_script", "_law_k"] (nt K))(um:Own P w K mg base 3 "_law_field" ["_law_state_here"] (spT 0 true false b_))(wa:Own P w K mg base 13 "_law_sides_right" ["_law_state_here", "_law_field_here"] (xaZ K 1 false xaN))(kM:Own P w K mg base 10 "is_within" ["one", "other"] (spT 2 false false kW))(xx:Own P w K mg base 1 "_law_take" ["_law_state_here", "_law_many"] (spT 1 true false mB))(ve:Own P w K mg base 8 "_law_within" ["_law_one", "_law_other"] (spT 2 false false kW)){c:Addr}(hfd:fd.code=.ref c) :
  dz P w K mg base CX0 14 f fd ["_law_script"] (gJ K):=by
 refine oP F hfd jq rfl (fun A outer s H E hr=>⟨_,_,
  (xg (ub PassesOwn.never rfl (je rfl (B.get "range") (yJ (xr (xaT rfl) rfl (B.get "max") xfg (xU xi (xr (lH rfl) rfl (B.get "min") xfX (xU (xr (yz K) rfl (B.get "len") wI (yJ (pv 0))) xi)))))) (yP 1 jq.nd) (xg (zh 2 jq.nd (xm vV hr (xU (pv 0) (pv 1))))
  (xg (kh (i:=3) (j:=4) rfl jq.nd rfl rfl (by decide) rfl rfl (xU (xm um hr (yJ (pv 2))) (xm um hr (yJ (pv 2)))) (by rfl))
  (xg (yY (zE (zB (xm wa hr (xU (pv 2) (pv 3))))) (xj (xK vC)) xY)
  (xg (kh (i:=5) (j:=6) rfl jq.nd rfl rfl (by decide) rfl rfl (xU (xB zA (xm xx hr (xU (pv 2) xi)) xi) (xB (fx K) xi (xm xx hr (xU (pv 2) xi)))) (by rfl))
  (xg (zh 7 jq.nd (xB (fx K) (pv 3) (ym (yJ (ym (xR (pv 5) (xU (pv 6) (xB zA (xm xx hr (xU (pv 2) xi)) xi))))))))
  (xj (ub PassesOwn.never rfl (zU K (yU (xR (ym (xU (pv 3) (pv 4))) (xR (ym (xU (pv 4) (pv 3))) (xR (ym (xU (pv 3) (pv 7))) (xU (ym (xU (pv 7) (pv 3))) (ym (xU (pv 3) (pv 3))))))))) (zm K (n:=2) rfl (xH (yP 8 jq.nd) (xH (yP 9 jq.nd) y7))) (xg (zh 10 jq.nd (xm kM hr (xU (pv 8) (pv 9))))
  (xj (yY (PW.pt (fE (zE (zB (xr zY rfl (B.get "isinstance") xI (xU (pv 10) (zX (v:=V.ty "bool") rfl (B.get "bool") sj rfl))))) (qY (yg (uZ hr.units) (pv 10) (xm ve hr (xU (pv 8) (pv 9))) (yf _))))) (xj (xK vC)) xY)))))))))))
  (xj (xK vC))),
  (xl (zQ (qQ (xM (yG xdL (xG xu (yG xdB (xG xbf xu)))))) xn.g (xl (xam xf)
  (xl (uG (xG (yw (b:=true) zN) (yw (b:=true) zN)))
  (xl (yC (yR (yW (xdE (j:=0) (xM xf)))) (xF qc) xT)
  (xl (uG (xG (xk zK (yw (xM xu)) xu) (fJ xu (yw (xM xu)))))
  (xl (yh (fJ xf (yu (b:=true) (xM (yu (b:=true) (xP xf (xG xf (xk zK (yw (xM xu)) xu))))))))
  (zQ (y_ (wN (b:=true) (xP (yu (b:=true) (xG xf xf)) (xP (yu (b:=true) (xG xf xf)) (xP (yu (b:=true) (xG xf xf)) (xG (yu (b:=true) (xG xf xf)) (yu (b:=true) (xG xf xf)))))))) (zi (xt xn (xt xn yE))).g (xl (yh (xC (xG xf xf)))
  (yC (qz (yR (yW (qh xf))) (xS (xk jP xf (xC (xG xf xf))))) (xF qc) xT)))))))))
  (xF qc)),fun ns hl=>?_⟩)
 refine xW (fun τ=>True) (fun τ _=>rfl) (fun N hN=>?_)
 refine qV _ (fun i τ=>∃(x1 x2 x3 x4 x5 x6 x7 x8 x9 x10:TV),τ=[.sc ns,x1,x2,x3,x4,x5,x6,x7,x8,x9,x10]) (fun KK h=>fun _=>⟨⟨by split<;>split<;>omega,by split<;>split<;>omega⟩,h⟩) ⟨_,_,_,_,_,_,_,_,_,_,rfl⟩ ?_ (fun τ _=>hN _ trivial)
 rintro i x τ N2 hx ⟨x1,x2,x3,x4,x5,x6,x7,x8,x9,x10,rfl⟩ hN2
 have hi:=(xiR.mp hx).1
 rw[ur] at hi
 rw[sJ hi] at hx
 cases hx
 dsimp only[xa5,xbK,eName,xfY]
 have hk:(0:Int)≤(0:Int)+i:=by omega
 generalize (0:Int)+i=kk at hk
 show xdP _ _ _ ([.sc ns,.fz (.int kk),x2,x3,x4,x5,x6,x7,x8,x9,x10]:TSt)
 refine xW (fun τ=>τ=[.sc ns,.fz (.int kk),.st,x3,x4,x5,x6,x7,x8,x9,x10]) ?_ (fun N hN=>⟨hk,hN _ rfl⟩)
 rintro _ rfl
 refine xW (fun τ=>∃rows others,(LF rows∧rows.length≤7)∧LF others∧τ=[.sc ns,.fz (.int kk),.st,.fz (.tup (rows.map trR)),.fz (.tup (others.map trR)),x5,x6,x7,x8,x9,x10]) ?_ (fun N hN=>⟨rfl,fun rows hF h7=>⟨rfl,fun others hG _=>hN _ ⟨rows,others,⟨hF,h7⟩,hG,rfl⟩⟩⟩)
 rintro _ ⟨rows,others,⟨hF,h7⟩,hG,rfl⟩
 refine xW (fun τ=>τ=[.sc ns,.fz (.int kk),.st,.fz (.tup (rows.map trR)),.fz (.tup (others.map trR)),x5,x6,x7,x8,x9,x10]) ?_ (fun N hN=>⟨⟨_,rfl⟩,rows,rfl,hF,h7,hN _ rfl⟩)
 rintro _ rfl
 refine xW (fun τ=>∃a b:Int,((-3≤a∧a≤3)∧(1≤b∧b≤3))∧τ=[.sc ns,.fz (.int kk),.st,.fz (.tup (rows.map trR)),.fz (.tup (others.map trR)),.fz (.int a),.fz (.int b),x7,x8,x9,x10]) ?_ (fun N hN=>⟨tk (by decide),fun a a0 a1=>⟨tk (by decide),fun b b0 b1=>hN _ ⟨a-3,1+b,by omega,rfl⟩⟩⟩)
 rintro _ ⟨a,b',hab,rfl⟩
 refine xW (fun τ=>∃more,LF more∧τ=[.sc ns,.fz (.int kk),.st,.fz (.tup (rows.map trR)),.fz (.tup (others.map trR)),.fz (.int a),.fz (.int b'),.fz (.tup (more.map trR)),x8,x9,x10]) ?_ (fun N hN=>?_)
 rotate_left
 ·refine⟨tk (by decide),fun c c0 c1=>⟨xcF (by show(rows.map trR).length+1≤_;rw[xi0];omega),hN _ ⟨rows++[(a,b',c-4)],hF.snoc h7 (by unfold SmR;simp only;omega),?_⟩⟩⟩
  rw[xi8]
  rfl
 rintro _ ⟨more,hM,rfl⟩
 have hL:∀x∈([(rows,others),(others,rows),(rows,more),(more,rows),(rows,rows)]:List (List Pol.R3×List Pol.R3)),LF x.1∧LF x.2:=fun x hx=>by
  simp only[xjf,xjv,xj9] at hx
  rcases hx with rfl | rfl | rfl | rfl | rfl
  ·exact⟨hF,hG⟩
  ·exact⟨hG,hF⟩
  ·exact⟨hF,hM⟩
  ·exact⟨hM,hF⟩
  ·exact⟨hF,hF⟩
 refine qV (([(rows,others),(others,rows),(rows,more),(more,rows),(rows,rows)]:List (List Pol.R3×List Pol.R3)).map fun x:List Pol.R3×List Pol.R3=>Tr.tup [.tup (x.1.map trR),.tup (x.2.map trR)]) (fun j τ=>∃y8 y9 y10:TV,τ=[.sc ns,.fz (.int kk),.st,.fz (.tup (rows.map trR)),.fz (.tup (others.map trR)),.fz (.int a),.fz (.int b'),.fz (.tup (more.map trR)),y8,y9,y10]) (fun KK h=>h) ⟨_,_,_,rfl⟩ ?_ (fun τ ⟨y8,y9,y10,e⟩=>hN2 _ ⟨_,_,_,_,_,_,_,_,_,_,e⟩)
 rintro j x τ N3 hx ⟨y8,y9,y10,rfl⟩ hN3
 obtain⟨⟨p,q⟩,hp,rfl⟩:=uH hx
 obtain⟨hp1,hq1⟩:=hL _ (xjn hp)
 have hp1:=hp1.isf
 have hq1:=hq1.isf
 refine⟨rfl,?_⟩
 dsimp only[xa5,xbK,eName,xfY]
 show xdP _ _ _ ([.sc ns,.fz (.int kk),.st,.fz (.tup (rows.map trR)),.fz (.tup (others.map trR)),.fz (.int a),.fz (.int b'),.fz (.tup (more.map trR)),.fz (.tup (p.map trR)),.fz (.tup (q.map trR)),y10]:TSt)
 refine xW (fun τ=>τ=[.sc ns,.fz (.int kk),.st,.fz (.tup (rows.map trR)),.fz (.tup (others.map trR)),.fz (.int a),.fz (.int b'),.fz (.tup (more.map trR)),.fz (.tup (p.map trR)),.fz (.tup (q.map trR)),.fz (.bl (inB p q))]) ?_ (fun N hN=>⟨p,q,rfl,hp1,hq1,hN _ rfl⟩)
 rintro _ rfl
 refine⟨p,q,rfl,hp1,hq1,⟨rfl,rfl,by show min 0 0≤64;decide⟩,?_⟩
 have e:teq (.bl (inB p q)) (.bl (inB p q))=true:=by cases inB p q<;>rfl
 exact xZ (b := !teq (.bl (inB p q)) (.bl (inB p q))) (fun c=>by rw[e] at c;cases c) (fun _=>hN3 _ ⟨_,_,_,rfl⟩)
end
end K61
namespace K61
open PySem L2 Trn
theorem all_mk {l:PySem.W.OpenLaw}{w:World}{K:PySem.W.Frag}{h:Heap}{mg:Str→Option Value}{fa:Addr}{fn c T:Addr}{od an:Option Addr}{sl:Array (Option Value)}{oc kV dc pm ct:Value}{a_CutError a_NoField a_NoWeights a_NoCut a_Nothing a_NoTurn a_NoCorner a_NoNumber a_NoText a_NoLine a_NoDeed:Addr}{tc1:Tok}{cL fS:Addr}{oS aS:Option Addr}{sS:Array (Option Value)}{cS kS dS pS tS:Value}(X:K.In h)(G:h.Ns mainGlobals mg)(hfa:mg "law" = some (.ref fa))
  (d1:DD K "is_whole" jC) (d2:DD K "greatest_divisor" wd) (d3:DD K "beyond" sT) (d4:DD K "is_ahead" jY) (d5:DD K "turn_to" gE) (d6:DD K "is_near" kU) (d7:DD K "_law_divisor" uC) (d8:DD K "_law_less" kP) (d9:DD K "_law_take" kD) (d10:DD K "_law_cell_at" uM) (d11:DD K "are_whole" vz) (d12:DD K "lowest" si) (d13:DD K "where_crossed" we) (d14:DD K "from_least" qt) (d15:DD K "furthest" jy) (d16:DD K "points_back" vc) (d17:DD K "_law_low" jT) (d18:DD K "_law_ahead" vY) (d19:DD K "_law_state" qf) (d20:DD K "_law_box" jS) (d21:DD K "_law_spike" qu) (d22:DD K "plus" xac) (d23:DD K "times" nR) (d24:DD K "places_of" vf) (d25:DD K "cut_piece" kJ) (d26:DD K "is_row" aa) (d27:DD K "go_round" jw) (d28:DD K "_law_cross" vQ) (d29:DD K "_law_plus" kj) (d30:DD K "_law_times" v_) (d31:DD K "_law_minus" v7) (d32:DD K "_law_field" qA) (d33:DD K "cut_down" jz) (d34:DD K "value" m6) (d35:DD K "is_field_row" uK) (d36:DD K "_law_value" qw) (d37:DD K "_law_bend" kL) (d38:DD K "piece_left" qC) (d39:DD K "keeps" nM) (d40:DD K "_law_keeps" qj) (d41:DD K "_law_chain" qB) (d42:DD K "corners_left" uL) (d43:DD K "_law_ring" vk) (d44:DD K "_law_same" uh) (d45:DD K "is_field" uS) (d46:DD K "_law_corners" wy) (d47:DD K "need_field" uw) (d48:DD K "_law_within" wY) (d49:DD K "corners" gQ) (d50:DD K "as_field" qK) (d51:DD K "side" rK) (d52:DD K "is_within" vn) (d53:DD K "_law_refused" wA)
  (aN:PySem.W.nsIn K mainGlobals "law" = some (some (.ref fn))) (ln:K.lookup fn=some ⟨oc,od,.func (PySem.W.fnOf "law" "law" (wu fP) (yQ fP) (xh fP) .none kV dc pm an (.ref cL) ct),sl⟩) (cn:PySem.W.codeIn K (.ref cL) "law" = true) (kn:PySem.W.keepIn K (.ref fn)=true)
  (aX:PySem.W.nsIn K mainGlobals "_law_sides_right" = some (some (.ref fS))) (lX:K.lookup fS=some ⟨cS,oS,.func (PySem.W.fnOf "_law_sides_right" "_law_sides_right" (wu yq) (yQ yq) (xh yq) .none kS dS pS aS (.ref c) tS),sS⟩) (cX:PySem.W.codeIn K (.ref c) "_law_sides_right" = true) (kX:PySem.W.keepIn K (.ref fS)=true)
  (z1:PySem.W.nsIn K mainGlobals "len" = some none)
  (z2:PySem.W.nsIn K mainGlobals "range" = some none)
  (z3:PySem.W.nsIn K mainGlobals "max" = some none)
  (z4:PySem.W.nsIn K mainGlobals "min" = some none)
  (z5:PySem.W.nsIn K mainGlobals "abs" = some none)
  (z6:PySem.W.nsIn K mainGlobals "isinstance" = some none)
  (z7:PySem.W.nsIn K mainGlobals "tuple" = some none)
  (z8:PySem.W.nsIn K mainGlobals "list" = some none)
  (z9:PySem.W.nsIn K mainGlobals "int" = some none)
  (z10:PySem.W.nsIn K mainGlobals "bool" = some none)
  (z11:PySem.W.nsIn K mainGlobals "str" = some none)
  (z12:PySem.W.nsIn K mainGlobals "dict" = some none)
  (z13:PySem.W.nsIn K mainGlobals "all" = some none)
  (z14:PySem.W.nsIn K mainGlobals "zip" = some none)
  (z15:PySem.W.nsIn K mainGlobals "enumerate" = some none)
  (z16:PySem.W.nsIn K mainGlobals "ValueError" = some none)
  (y1:PySem.W.nsIn K mainGlobals "FAR" = some (some (.int 60001 tc1)))
  (k_CutError:PySem.W.nsIn K mainGlobals "CutError" = some (some (.ref a_CutError)))
  (k_NoField:PySem.W.nsIn K mainGlobals "NoField" = some (some (.ref a_NoField)))
  (k_NoWeights:PySem.W.nsIn K mainGlobals "NoWeights" = some (some (.ref a_NoWeights)))
  (k_NoCut:PySem.W.nsIn K mainGlobals "NoCut" = some (some (.ref a_NoCut)))
  (k_Nothing:PySem.W.nsIn K mainGlobals "Nothing" = some (some (.ref a_Nothing)))
  (k_NoTurn:PySem.W.nsIn K mainGlobals "NoTurn" = some (some (.ref a_NoTurn)))
  (k_NoCorner:PySem.W.nsIn K mainGlobals "NoCorner" = some (some (.ref a_NoCorner)))
  (k_NoNumber:PySem.W.nsIn K mainGlobals "NoNumber" = some (some (.ref a_NoNumber)))
  (k_NoText:PySem.W.nsIn K mainGlobals "NoText" = some (some (.ref a_NoText)))
  (k_NoLine:PySem.W.nsIn K mainGlobals "NoLine" = some (some (.ref a_NoLine)))
  (k_NoDeed:PySem.W.nsIn K mainGlobals "NoDeed" = some (some (.ref a_NoDeed)))
  (Z_NoField:ng K a_NoField) (e_NoField:PySem.W.exmOne K (.ref a_NoField) (.ref a_CutError)=some true) (v_NoField:PySem.W.kitOne K (.ref a_NoField) (.type "ValueError")=some true) (x_NoField:PySem.W.excIn K a_NoField xf4 "ValueError.__new__" = true)
  (i_NoField_NoField:PySem.W.kitOne K (.ref a_NoField) (.ref a_NoField)=some (decide (0=0))) (i_NoField_NoWeights:PySem.W.kitOne K (.ref a_NoField) (.ref a_NoWeights)=some (decide (0=1))) (i_NoField_NoCut:PySem.W.kitOne K (.ref a_NoField) (.ref a_NoCut)=some (decide (0=2))) (i_NoField_Nothing:PySem.W.kitOne K (.ref a_NoField) (.ref a_Nothing)=some (decide (0=3))) (i_NoField_NoTurn:PySem.W.kitOne K (.ref a_NoField) (.ref a_NoTurn)=some (decide (0=4))) (i_NoField_NoCorner:PySem.W.kitOne K (.ref a_NoField) (.ref a_NoCorner)=some (decide (0=5))) (i_NoField_NoNumber:PySem.W.kitOne K (.ref a_NoField) (.ref a_NoNumber)=some (decide (0=6))) (i_NoField_NoText:PySem.W.kitOne K (.ref a_NoField) (.ref a_NoText)=some (decide (0=7))) (i_NoField_NoLine:PySem.W.kitOne K (.ref a_NoField) (.ref a_NoLine)=some (decide (0=8))) (i_NoField_NoDeed:PySem.W.kitOne K (.ref a_NoField) (.ref a_NoDeed)=some (decide (0=9)))
  (Z_NoNumber:ng K a_NoNumber) (e_NoNumber:PySem.W.exmOne K (.ref a_NoNumber) (.ref a_CutError)=some true) (v_NoNumber:PySem.W.kitOne K (.ref a_NoNumber) (.type "ValueError")=some true) (x_NoNumber:PySem.W.excIn K a_NoNumber xf4 "ValueError.__new__" = true)
  (i_NoNumber_NoField:PySem.W.kitOne K (.ref a_NoNumber) (.ref a_NoField)=some (decide (6=0))) (i_NoNumber_NoWeights:PySem.W.kitOne K (.ref a_NoNumber) (.ref a_NoWeights)=some (decide (6=1))) (i_NoNumber_NoCut:PySem.W.kitOne K (.ref a_NoNumber) (.ref a_NoCut)=some (decide (6=2))) (i_NoNumber_Nothing:PySem.W.kitOne K (.ref a_NoNumber) (.ref a_Nothing)=some (decide (6=3))) (i_NoNumber_NoTurn:PySem.W.kitOne K (.ref a_NoNumber) (.ref a_NoTurn)=some (decide (6=4))) (i_NoNumber_NoCorner:PySem.W.kitOne K (.ref a_NoNumber) (.ref a_NoCorner)=some (decide (6=5))) (i_NoNumber_NoNumber:PySem.W.kitOne K (.ref a_NoNumber) (.ref a_NoNumber)=some (decide (6=6))) (i_NoNumber_NoText:PySem.W.kitOne K (.ref a_NoNumber) (.ref a_NoText)=some (decide (6=7))) (i_NoNumber_NoLine:PySem.W.kitOne K (.ref a_NoNumber) (.ref a_NoLine)=some (decide (6=8))) (i_NoNumber_NoDeed:PySem.W.kitOne K (.ref a_NoNumber) (.ref a_NoDeed)=some (decide (6=9)))
  (hct:xeo K=some (T,("_law_sides_right.<locals>.<lambda>" : Str))) (hTg:mainGlobals≠T) (cC:∀h,K.In h→PySem.W.CodeHd h c T) (bA:∀h,Mod K mg h→h.BuiltinsAt mg T) :
  ∃fd:FuncData,(∀(s:Shared) (v:Value),BindsTo s fd ⟨[v],[]⟩ [("_law_script", v)])∧∀base:Heap,Mod K mg base→dz l.prog w K mg base CX0 14 fa fd ["_law_script"] (gJ K):=by
 have e:=hfa.symm.trans (PySem.W.mg_of X G aN)
 cases e
 obtain⟨f1,e1,a1,F1⟩:=d1
 obtain⟨f2,e2,a2,F2⟩:=d2
 obtain⟨f3,e3,a3,F3⟩:=d3
 obtain⟨f4,e4,a4,F4⟩:=d4
 obtain⟨f5,e5,a5,F5⟩:=d5
 obtain⟨f6,e6,a6,F6⟩:=d6
 obtain⟨f7,e7,a7,F7⟩:=d7
 obtain⟨f8,e8,a8,F8⟩:=d8
 obtain⟨f9,e9,a9,F9⟩:=d9
 obtain⟨f10,e10,a10,F10⟩:=d10
 obtain⟨f11,e11,a11,F11⟩:=d11
 obtain⟨f12,e12,a12,F12⟩:=d12
 obtain⟨f13,e13,a13,F13⟩:=d13
 obtain⟨f14,e14,a14,F14⟩:=d14
 obtain⟨f15,e15,a15,F15⟩:=d15
 obtain⟨f16,e16,a16,F16⟩:=d16
 obtain⟨f17,e17,a17,F17⟩:=d17
 obtain⟨f18,e18,a18,F18⟩:=d18
 obtain⟨f19,e19,a19,F19⟩:=d19
 obtain⟨f20,e20,a20,F20⟩:=d20
 obtain⟨f21,e21,a21,F21⟩:=d21
 obtain⟨f22,e22,a22,F22⟩:=d22
 obtain⟨f23,e23,a23,F23⟩:=d23
 obtain⟨f24,e24,a24,F24⟩:=d24
 obtain⟨f25,e25,a25,F25⟩:=d25
 obtain⟨f26,e26,a26,F26⟩:=d26
 obtain⟨f27,e27,a27,F27⟩:=d27
 obtain⟨f28,e28,a28,F28⟩:=d28
 obtain⟨f29,e29,a29,F29⟩:=d29
 obtain⟨f30,e30,a30,F30⟩:=d30
 obtain⟨f31,e31,a31,F31⟩:=d31
 obtain⟨f32,e32,a32,F32⟩:=d32
 obtain⟨f33,e33,a33,F33⟩:=d33
 obtain⟨f34,e34,a34,F34⟩:=d34
 obtain⟨f35,e35,a35,F35⟩:=d35
 obtain⟨f36,e36,a36,F36⟩:=d36
 obtain⟨f37,e37,a37,F37⟩:=d37
 obtain⟨f38,e38,a38,F38⟩:=d38
 obtain⟨f39,e39,a39,F39⟩:=d39
 obtain⟨f40,e40,a40,F40⟩:=d40
 obtain⟨f41,e41,a41,F41⟩:=d41
 obtain⟨f42,e42,a42,F42⟩:=d42
 obtain⟨f43,e43,a43,F43⟩:=d43
 obtain⟨f44,e44,a44,F44⟩:=d44
 obtain⟨f45,e45,a45,F45⟩:=d45
 obtain⟨f46,e46,a46,F46⟩:=d46
 obtain⟨f47,e47,a47,F47⟩:=d47
 obtain⟨f48,e48,a48,F48⟩:=d48
 obtain⟨f49,e49,a49,F49⟩:=d49
 obtain⟨f50,e50,a50,F50⟩:=d50
 obtain⟨f51,e51,a51,F51⟩:=d51
 obtain⟨f52,e52,a52,F52⟩:=d52
 obtain⟨f53,e53,a53,F53⟩:=d53
 have a54:=aX
 have F54:=oZ (st:=yq) lX cX kX
 have FL:=oZ (st:=fP) ln cn kn
 have b1:=zI (p1 := "thing") F1 fun _ _ _ _ _ _ _=>rfl
 have b2:=yL (p1 := "one") (p2 := "other") F2 fun _ _ _ _ _ _ _ _=>rfl
 have b3:=yL (p1 := "row") (p2 := "corner") F3 fun _ _ _ _ _ _ _ _=>rfl
 have b4:=yL (p1 := "one") (p2 := "other") F4 fun _ _ _ _ _ _ _ _=>rfl
 have b5:=yL (p1 := "one") (p2 := "other") F5 fun _ _ _ _ _ _ _ _=>rfl
 have b6:=zI (p1 := "place") F6 fun _ _ _ _ _ _ _=>rfl
 have b7:=yL (p1 := "_law_one") (p2 := "_law_other") F7 fun _ _ _ _ _ _ _ _=>rfl
 have b8:=yL (p1 := "_law_one") (p2 := "_law_other") F8 fun _ _ _ _ _ _ _ _=>rfl
 have b9:=yL (p1 := "_law_state_here") (p2 := "_law_many") F9 fun _ _ _ _ _ _ _ _=>rfl
 have b10:=yL (p1 := "_law_script") (p2 := "_law_k") F10 fun _ _ _ _ _ _ _ _=>rfl
 have b11:=zI (p1 := "things") F11 fun _ _ _ _ _ _ _=>rfl
 have b12:=yL (p1 := "top") (p2 := "bottom") F12 fun _ _ _ _ _ _ _ _=>rfl
 have b13:=oD (p1 := "row") (p2 := "one") (p3 := "other") F13 fun _ _ _ _ _ _ _ _ _=>rfl
 have b14:=zI (p1 := "piece") F14 fun _ _ _ _ _ _ _=>rfl
 have b15:=oD (p1 := "first") (p2 := "rows") (p3 := "sign") F15 fun _ _ _ _ _ _ _ _ _=>rfl
 have b16:=yL (p1 := "first") (p2 := "rows") F16 fun _ _ _ _ _ _ _ _=>rfl
 have b17:=yL (p1 := "_law_top") (p2 := "_law_bottom") F17 fun _ _ _ _ _ _ _ _=>rfl
 have b18:=yL (p1 := "_law_one") (p2 := "_law_other") F18 fun _ _ _ _ _ _ _ _=>rfl
 have b19:=yL (p1 := "_law_script") (p2 := "_law_k") F19 fun _ _ _ _ _ _ _ _=>rfl
 have b20:=zI (p1 := "_law_state_here") F20 fun _ _ _ _ _ _ _=>rfl
 have b21:=zI (p1 := "_law_state_here") F21 fun _ _ _ _ _ _ _=>rfl
 have b22:=yL (p1 := "one") (p2 := "other") F22 fun _ _ _ _ _ _ _ _=>rfl
 have b23:=yL (p1 := "whole") (p2 := "fraction") F23 fun _ _ _ _ _ _ _ _=>rfl
 have b24:=zI (p1 := "piece") F24 fun _ _ _ _ _ _ _=>rfl
 have b25:=yL (p1 := "piece") (p2 := "row") F25 fun _ _ _ _ _ _ _ _=>rfl
 have b26:=zI (p1 := "thing") F26 fun _ _ _ _ _ _ _=>rfl
 have b27:=zI (p1 := "rows") F27 fun _ _ _ _ _ _ _=>rfl
 have b28:=yL (p1 := "_law_one") (p2 := "_law_other") F28 fun _ _ _ _ _ _ _ _=>rfl
 have b29:=yL (p1 := "_law_one") (p2 := "_law_other") F29 fun _ _ _ _ _ _ _ _=>rfl
 have b30:=yL (p1 := "_law_one") (p2 := "_law_other") F30 fun _ _ _ _ _ _ _ _=>rfl
 have b31:=yL (p1 := "_law_one") (p2 := "_law_other") F31 fun _ _ _ _ _ _ _ _=>rfl
 have b32:=zI (p1 := "_law_state_here") F32 fun _ _ _ _ _ _ _=>rfl
 have b33:=yL (p1 := "piece") (p2 := "rows") F33 fun _ _ _ _ _ _ _ _=>rfl
 have b34:=yL (p1 := "row") (p2 := "place") F34 fun _ _ _ _ _ _ _ _=>rfl
 have b35:=zI (p1 := "thing") F35 fun _ _ _ _ _ _ _=>rfl
 have b36:=yL (p1 := "_law_row") (p2 := "_law_place") F36 fun _ _ _ _ _ _ _ _=>rfl
 have b37:=oD (p1 := "_law_one") (p2 := "_law_other") (p3 := "_law_third") F37 fun _ _ _ _ _ _ _ _ _=>rfl
 have b38:=zI (p1 := "rows") F38 fun _ _ _ _ _ _ _=>rfl
 have b39:=yL (p1 := "row") (p2 := "place") F39 fun _ _ _ _ _ _ _ _=>rfl
 have b40:=yL (p1 := "_law_row") (p2 := "_law_place") F40 fun _ _ _ _ _ _ _ _=>rfl
 have b41:=zI (p1 := "_law_places") F41 fun _ _ _ _ _ _ _=>rfl
 have b42:=zI (p1 := "rows") F42 fun _ _ _ _ _ _ _=>rfl
 have b43:=zI (p1 := "_law_places") F43 fun _ _ _ _ _ _ _=>rfl
 have b44:=yL (p1 := "_law_found") (p2 := "_law_due") F44 fun _ _ _ _ _ _ _ _=>rfl
 have b45:=zI (p1 := "thing") F45 fun _ _ _ _ _ _ _=>rfl
 have b46:=zI (p1 := "_law_rows") F46 fun _ _ _ _ _ _ _=>rfl
 have b47:=zI (p1 := "thing") F47 fun _ _ _ _ _ _ _=>rfl
 have b48:=yL (p1 := "_law_one") (p2 := "_law_other") F48 fun _ _ _ _ _ _ _ _=>rfl
 have b49:=zI (p1 := "field") F49 fun _ _ _ _ _ _ _=>rfl
 have b50:=zI (p1 := "rows") F50 fun _ _ _ _ _ _ _=>rfl
 have b51:=yL (p1 := "field") (p2 := "k") F51 fun _ _ _ _ _ _ _ _=>rfl
 have b52:=yL (p1 := "one") (p2 := "other") F52 fun _ _ _ _ _ _ _ _=>rfl
 have b53:=zI (p1 := "_law_call") F53 fun _ _ _ _ _ _ _=>rfl
 have b54:=yL (p1 := "_law_state_here") (p2 := "_law_field_here") F54 fun _ _ _ _ _ _ _ _=>rfl
 have B:Blt mg bn:=⟨fun x hx=>by
  simp only[bn,xjf,xjv,xj9] at hx
  rcases hx with rfl | rfl | rfl | rfl | rfl | rfl | rfl | rfl | rfl | rfl | rfl | rfl | rfl | rfl | rfl | rfl
  ·exact PySem.W.mg_none_of X G z1
  ·exact PySem.W.mg_none_of X G z2
  ·exact PySem.W.mg_none_of X G z3
  ·exact PySem.W.mg_none_of X G z4
  ·exact PySem.W.mg_none_of X G z5
  ·exact PySem.W.mg_none_of X G z6
  ·exact PySem.W.mg_none_of X G z7
  ·exact PySem.W.mg_none_of X G z8
  ·exact PySem.W.mg_none_of X G z9
  ·exact PySem.W.mg_none_of X G z10
  ·exact PySem.W.mg_none_of X G z11
  ·exact PySem.W.mg_none_of X G z12
  ·exact PySem.W.mg_none_of X G z13
  ·exact PySem.W.mg_none_of X G z14
  ·exact PySem.W.mg_none_of X G z15
  ·exact PySem.W.mg_none_of X G z16⟩
 have dj:=PySem.W.mg_of X G y1
 have m_CutError:=PySem.W.mg_of X G k_CutError
 have m_NoField:=PySem.W.mg_of X G k_NoField
 have m_NoWeights:=PySem.W.mg_of X G k_NoWeights
 have m_NoCut:=PySem.W.mg_of X G k_NoCut
 have m_Nothing:=PySem.W.mg_of X G k_Nothing
 have m_NoTurn:=PySem.W.mg_of X G k_NoTurn
 have m_NoCorner:=PySem.W.mg_of X G k_NoCorner
 have m_NoNumber:=PySem.W.mg_of X G k_NoNumber
 have m_NoText:=PySem.W.mg_of X G k_NoText
 have m_NoLine:=PySem.W.mg_of X G k_NoLine
 have m_NoDeed:=PySem.W.mg_of X G k_NoDeed
 refine⟨PySem.W.fnOf "law" "law" (wu fP) (yQ fP) (xh fP) .none kV dc pm an (.ref cL) ct,fun s v=>.of_eq rfl,fun base M=>?_⟩
 have yM:=fun z (M:Mod K mg z)=>nk (P:=l.prog) (w:=w) (base:=z) B F1 (PySem.W.mg_of X G a1) b1
 have yo:=fun z (M:Mod K mg z)=>kQ (P:=l.prog) (w:=w) (base:=z) B F2 (PySem.W.mg_of X G a2) b2
 have w4:=fun z (M:Mod K mg z)=>o_ (P:=l.prog) (w:=w) (base:=z) B F3 (PySem.W.mg_of X G a3) b3
 have jX:=fun z (M:Mod K mg z)=>nv (P:=l.prog) (w:=w) (base:=z) B F4 (PySem.W.mg_of X G a4) b4
 have zJ:=fun z (M:Mod K mg z)=>pL (P:=l.prog) (w:=w) (base:=z) B F5 (PySem.W.mg_of X G a5) b5
 have fO:=fun z (M:Mod K mg z)=>pM (P:=l.prog) (w:=w) (base:=z) B F6 (PySem.W.mg_of X G a6) b6
 have uO:=fun z (M:Mod K mg z)=>gM (P:=l.prog) (w:=w) (base:=z) B F7 (PySem.W.mg_of X G a7) b7
 have zO:=fun z (M:Mod K mg z)=>rD (P:=l.prog) (w:=w) (base:=z) B F8 (PySem.W.mg_of X G a8) b8
 have xx:=fun(base:Heap) (M:Mod K mg base)=>oT (mw (P:=l.prog) (w:=w) (base:=base) F9 (PySem.W.mg_of X G a9) b9)
 have uQ:=fun z (M:Mod K mg z)=>gS (P:=l.prog) (w:=w) (base:=z) B F10 (PySem.W.mg_of X G a10) b10
 have kF:=fun z (M:Mod K mg z)=>tN (P:=l.prog) (w:=w) (base:=z) B F11 (PySem.W.mg_of X G a11) b11 (yM z M)
 have wB:=fun z (M:Mod K mg z)=>xaq (P:=l.prog) (w:=w) (base:=z) B F12 (PySem.W.mg_of X G a12) b12 (yo z M)
 have ue:=fun z (M:Mod K mg z)=>h_ (P:=l.prog) (w:=w) (base:=z) B F13 (PySem.W.mg_of X G a13) b13 (yo z M) (w4 z M)
 have qE:=fun z (M:Mod K mg z)=>aj (P:=l.prog) (w:=w) (base:=z) B F14 (PySem.W.mg_of X G a14) b14 (jX z M)
 have qF:=fun z (M:Mod K mg z)=>nN (P:=l.prog) (w:=w) (base:=z) B F15 (PySem.W.mg_of X G a15) b15 (zJ z M)
 have va:=fun z (M:Mod K mg z)=>fQ (P:=l.prog) (w:=w) (base:=z) B F16 (PySem.W.mg_of X G a16) b16 (zJ z M)
 have yH:=fun z (M:Mod K mg z)=>mM (P:=l.prog) (w:=w) (base:=z) B F17 (PySem.W.mg_of X G a17) b17 (uO z M)
 have v8:=fun z (M:Mod K mg z)=>sD (P:=l.prog) (w:=w) (base:=z) B F18 (PySem.W.mg_of X G a18) b18 (zO z M)
 have vV:=fun z (M:Mod K mg z)=>sf (P:=l.prog) (w:=w) (base:=z) F19 (PySem.W.mg_of X G a19) b19 (uQ z M)
 have jQ:=fun z (M:Mod K mg z)=>nz (P:=l.prog) (w:=w) (base:=z) B F20 (PySem.W.mg_of X G a20) b20 (xx z M)
 have ql:=fun z (M:Mod K mg z)=>sU (P:=l.prog) (w:=w) (base:=z) B F21 (PySem.W.mg_of X G a21) b21 (xx z M)
 have xaC:=fun z (M:Mod K mg z)=>xd9 (P:=l.prog) (w:=w) (base:=z) B F22 (PySem.W.mg_of X G a22) b22 (wB z M)
 have s_:=fun z (M:Mod K mg z)=>xcc (P:=l.prog) (w:=w) (base:=z) B F23 (PySem.W.mg_of X G a23) b23 (wB z M)
 have kI:=fun z (M:Mod K mg z)=>tX (P:=l.prog) (w:=w) (base:=z) B F24 (PySem.W.mg_of X G a24) b24 (wB z M) (qE z M)
 have ko:=fun z (M:Mod K mg z)=>tx (P:=l.prog) (w:=w) (base:=z) B F25 (PySem.W.mg_of X G a25) b25 (ue z M) (w4 z M)
 have sH:=fun z (M:Mod K mg z)=>xal (P:=l.prog) (w:=w) (base:=z) B F26 (PySem.W.mg_of X G a26) b26 (kF z M)
 have jL:=fun z (M:Mod K mg z)=>mV (P:=l.prog) (w:=w) (base:=z) B F27 (PySem.W.mg_of X G a27) b27 (qF z M) (va z M) (zJ z M)
 have vL:=fun z (M:Mod K mg z)=>aA (P:=l.prog) (w:=w) (base:=z) B F28 (PySem.W.mg_of X G a28) b28 (yH z M)
 have kK:=fun z (M:Mod K mg z)=>r9 (P:=l.prog) (w:=w) (base:=z) B F29 (PySem.W.mg_of X G a29) b29 (yH z M)
 have yV:=fun z (M:Mod K mg z)=>aZ (P:=l.prog) (w:=w) (base:=z) B F30 (PySem.W.mg_of X G a30) b30 (yH z M)
 have zw:=fun z (M:Mod K mg z)=>ar (P:=l.prog) (w:=w) (base:=z) B F31 (PySem.W.mg_of X G a31) b31 (yH z M)
 have um:=fun z (M:Mod K mg z)=>sA (P:=l.prog) (w:=w) (base:=z) B F32 (PySem.W.mg_of X G a32) b32 (jQ z M) (xx z M) (ql z M)
 have jK:=fun z (M:Mod K mg z)=>mT (P:=l.prog) (w:=w) (base:=z) B F33 (PySem.W.mg_of X G a33) b33 (ko z M)
 have mI:=fun z (M:Mod K mg z)=>xb9 (P:=l.prog) (w:=w) (base:=z) B F34 (PySem.W.mg_of X G a34) b34 (xaC z M) (s_ z M)
 have uE:=fun z (M:Mod K mg z)=>g6 (P:=l.prog) (w:=w) (base:=z) B F35 (PySem.W.mg_of X G a35) b35 (sH z M)
 have qb:=fun z (M:Mod K mg z)=>ao (P:=l.prog) (w:=w) (base:=z) B F36 (PySem.W.mg_of X G a36) b36 (kK z M) (yV z M)
 have kH:=fun z (M:Mod K mg z)=>tJ (P:=l.prog) (w:=w) (base:=z) B F37 (PySem.W.mg_of X G a37) b37 (yV z M) (zw z M)
 have qa:=fun z (M:Mod K mg z)=>sY (P:=l.prog) (w:=w) (base:=z) B F38 (PySem.W.mg_of X G a38) b38 dj (jK z M)
 have nB:=fun z (M:Mod K mg z)=>xbA (P:=l.prog) (w:=w) (base:=z) B F39 (PySem.W.mg_of X G a39) b39 (mI z M)
 have zS:=fun z (M:Mod K mg z)=>aL (P:=l.prog) (w:=w) (base:=z) B F40 (PySem.W.mg_of X G a40) b40 (zO z M) (qb z M)
 have ux:=fun z (M:Mod K mg z)=>sy (P:=l.prog) (w:=w) (base:=z) B F41 (PySem.W.mg_of X G a41) b41 (kH z M)
 have ze:=fun z (M:Mod K mg z)=>g_ (P:=l.prog) (w:=w) (base:=z) B F42 (PySem.W.mg_of X G a42) b42 (kI z M) (qa z M)
 have km:=fun z (M:Mod K mg z)=>mC (P:=l.prog) (w:=w) (base:=z) B F43 (PySem.W.mg_of X G a43) b43 (ux z M) (v8 z M)
 have ug:=fun z (M:Mod K mg z)=>tO (P:=l.prog) (w:=w) (base:=z) B F44 (PySem.W.mg_of X G a44) b44
 have w9:=fun z (M:Mod K mg z)=>nr (P:=l.prog) (w:=w) (base:=z) B F45 (PySem.W.mg_of X G a45) b45 (jL z M) (fO z M) (ze z M) (uE z M)
 have uD:=fun z (M:Mod K mg z)=>fv (P:=l.prog) (w:=w) (base:=z) B F46 (PySem.W.mg_of X G a46) b46 (km z M) (vL z M) (zS z M)
 have xV:=fun z (M:Mod K mg z)=>sV (P:=l.prog) (w:=w) (base:=z) B F47 (PySem.W.mg_of X G a47) b47 (w9 z M)
 have ox_need_field__NoField:=fun(base:Heap) (M:Mod K mg base)=>vA (P:=l.prog) (w:=w) (base:=base) B F47 (PySem.W.mg_of X G a47) b47 (tZ M m_NoField x_NoField) (w9 base M)
 have ve:=fun z (M:Mod K mg z)=>fZ (P:=l.prog) (w:=w) (base:=z) B F48 (PySem.W.mg_of X G a48) b48 (uD z M) (zS z M)
 have fG:=fun z (M:Mod K mg z)=>pK (P:=l.prog) (w:=w) (base:=z) B F49 (PySem.W.mg_of X G a49) b49 (xV z M) (ze z M)
 have jA:=fun z (M:Mod K mg z)=>m9 (P:=l.prog) (w:=w) (base:=z) B F50 (PySem.W.mg_of X G a50) b50 (xV z M)
 have ox_as_field__NoField:=fun(base:Heap) (M:Mod K mg base)=>vT (P:=l.prog) (w:=w) (base:=base) B F50 (PySem.W.mg_of X G a50) b50 (ox_need_field__NoField base M)
 have lV:=fun z (M:Mod K mg z)=>xda (P:=l.prog) (w:=w) (base:=z) B F51 (PySem.W.mg_of X G a51) b51 (xV z M) (jA z M) (yM z M)
 have ox_side__NoField:=fun(base:Heap) (M:Mod K mg base)=>jv (P:=l.prog) (w:=w) (base:=base) B F51 (PySem.W.mg_of X G a51) b51 (yM base M) (xV base M) (ox_as_field__NoField base M)
 have ox_side__NoNumber:=fun(base:Heap) (M:Mod K mg base)=>jk (P:=l.prog) (w:=w) (base:=base) B F51 (PySem.W.mg_of X G a51) b51 (tZ M m_NoNumber x_NoNumber) (yM base M) (xV base M)
 have kM:=fun z (M:Mod K mg z)=>t8 (P:=l.prog) (w:=w) (base:=z) B F52 (PySem.W.mg_of X G a52) b52 (fG z M) (xV z M) (nB z M)
 have yZ:=fun z (M:Mod K mg z)=>qd (kl:=11) (j:=0) (P:=l.prog) (w:=w) (base:=z) B F53 (PySem.W.mg_of X G a53) b53 (by decide) Z_NoField m_CutError e_NoField v_NoField m_NoField i_NoField_NoField m_NoWeights i_NoField_NoWeights m_NoCut i_NoField_NoCut m_Nothing i_NoField_Nothing m_NoTurn i_NoField_NoTurn m_NoCorner i_NoField_NoCorner m_NoNumber i_NoField_NoNumber m_NoText i_NoField_NoText m_NoLine i_NoField_NoLine m_NoDeed i_NoField_NoDeed
 have yB:=fun z (M:Mod K mg z)=>qd (kl:=11) (j:=6) (P:=l.prog) (w:=w) (base:=z) B F53 (PySem.W.mg_of X G a53) b53 (by decide) Z_NoNumber m_CutError e_NoNumber v_NoNumber m_NoField i_NoNumber_NoField m_NoWeights i_NoNumber_NoWeights m_NoCut i_NoNumber_NoCut m_Nothing i_NoNumber_Nothing m_NoTurn i_NoNumber_NoTurn m_NoCorner i_NoNumber_NoCorner m_NoNumber i_NoNumber_NoNumber m_NoText i_NoNumber_NoText m_NoLine i_NoNumber_NoLine m_NoDeed i_NoNumber_NoDeed
 have wa:=fun z (M:Mod K mg z)=>kA (P:=l.prog) (w:=w) (base:=z) B F54 (PySem.W.mg_of X G a54) b54 (xx z M) yZ yB (ug z M) (lV z M) ox_side__NoField ox_side__NoNumber xx rfl hct hTg (cC z M.kin) (bA z M)
 exact xe8 B FL (vV base M) (um base M) (wa base M) (kM base M) (xx base M) (ve base M) rfl
end K61
namespace K61
open PySem L2 Trn
def ke (k:Str)(t:Nat)(v:Value):Str×Nat×Value:=(k,t,v)
def kd (P:Params)(n:Nat)(l:List (Str×Nat×Value)):Obj:=⟨.type "dict", none,.dict ⟨l.map fun e=>⟨PyData.keyHash P e.1,.str e.1 e.2.1,e.2.2⟩⟩ n,#[]⟩
def kf (x:Str)(st:Stmt)(cd:Nat)(m:Str)(t:Nat):Obj:=⟨.type "function", none,.func (PySem.W.fnOf x x (wu st) (yQ st) (xh st) .none .none .none (.str m t) none (.ref cd) .none),#[]⟩
def kp (x:Str)(st:Stmt):Obj:=⟨.none,none,.func { name:=x,qualname:=x,params:=wu st,body:=.stmts (yQ st),scope:=xh st,globals:=0,closure:=[],defaults:=.none,kwdefaults:=.none },#[]⟩
def kc (x:Str)(a l n m c d:Nat)(u v:Value)(e t f:Nat):Obj:=⟨.type "code", none,.fields ⟨[.str x a,.str x (a+1),.str "/claim/cut.py" (a+2),.int l 0,.int n 0,.int 0 0,.int 0 0,.int m 0,.ref c,.bool true,.int 181 0,.ref d,.none,u,v,.ref e,.int t 0,.int l 0,.str "/claim/cut.py" f]⟩,#[]⟩
def k0:Obj:=⟨.none,none,.fields ⟨[]⟩,#[]⟩
def k1 (l:List Value):Obj:=⟨.type "tuple", none,.seq ⟨l⟩ 0,#[]⟩
def tp (p:Program)(i:Nat):Stmt:=p.main.body.getD i (.Pass ⟨0,0,0,0⟩)
def tq:List (Int×Nat):=[(2,20),(4,33),(6,45),(8,57),(10,69),(12,81),(14,93),(16,105),(18,117),(20,129),(22,141),(25,153),(27,158),(29,165),(34,172),(37,179),(39,186),(43,193),(45,200),(47,207),(51,212),(53,219),(64,226),(68,231),(73,238),(79,245),(82,252),(86,259),(88,266),(91,273),(93,280),(102,287),(108,294),(114,299),(120,306),(125,311),(127,318),(131,325),(135,332),(139,339),(145,344),(150,351),(154,358),(159,365),(165,372),(167,379),(169,386),(171,393),(173,400),(175,407),(179,414),(181,421),(184,428),(191,433),(199,438),(207,443),(215,450),(224,455),(237,462),(241,469),(246,476),(258,483),(264,490),(277,495),(280,502),(291,509)]
def tl (n:Nat):Obj:=⟨.none,none,.fields ⟨(tq.take n).flatMap fun x=>[.int x.1 0,.int 0 0,.ref x.2]⟩,#[]⟩
def kx (n:Str)(b a s m p q:Nat):Obj:=⟨.type "type", none,.cls { name:=n,bases:=[.ref b],mro:=[.ref a,.ref b,.type "ValueError", .type "Exception", .type "BaseException", .type "object"],ns:=s,qualname:=n,hasDict:=true,slotNames:=[],subclasses:=[],abstract:=false,hasDel:=false },⟨[some (.ref m),none,some (.str n p),some (.str n q),some (.builtin "ValueError.__new__"),some (.bool true)]⟩⟩
def ky (x:Str)(a b c:Nat)(l:Int)(d e:Nat)(i j:Int)(k:Nat):Obj:=⟨.type "code", none,.fields ⟨[.str x a,.str x b,.str "/claim/cut.py" c,.int l 0,.int 0 0,.int 0 0,.int 0 0,.int 0 0,.ref d,.bool false,.int 181 0,.ref e,.none,.none,.none,.none,.int i 0,.int j 0,.str "/claim/cut.py" k]⟩,#[]⟩
def kz (a b c:Nat)(x:Str)(d e:Nat):Obj:=⟨.type "frame", none,.plain,⟨[some (.ref a),some (.ref b),some (.ref c),none,some (.str x d),none,some (.ref e)]⟩⟩
def kv (x:String)(v:Value):Obj:=⟨.type "builtin_function_or_method", none,.fields ⟨[.builtin x,v]⟩,#[]⟩
def kq (a:Nat)(x:Str)(b c:Nat)(y:Str)(d e:Nat)(i:Int)(f g h:Nat):List (Str×Nat×Value):=ke "__module__" a (.str x b)::ke "__qualname__" c (.str y d)::ke "__firstlineno__" e (.int i f)::ke "__static_attributes__" g (.ref h)::[]
def kr (a:Nat)(x:Str)(b e:Nat)(i:Int)(f g h d:Nat):List (Str×Nat×Value):=ke "__module__" a (.str x b)::ke "__firstlineno__" e (.int i f)::ke "__static_attributes__" g (.ref h)::ke "__doc__" d .none::[]
def lw:Str := "law_roundcuts_k61_sides_and_fields_in_fields"
def lw1:Str := "roundcuts.errors"
def lw2:Str := "roundcuts.fields"
def lw3:Str := "roundcuts.fractions"
def lw4:Str := "roundcuts.moves"
def lw5:Str := "roundcuts.pieces"
def lw6:Str := "roundcuts.rows"
def mn:List (Str×Nat×Value):=ke "__name__" 165 (.str lw 631)::ke "__doc__" 166 .none::ke "__package__" 167 .none::ke "__loader__" 168 (.builtin "__main__.__loader__#opaque")::ke "__spec__" 169 .none::ke "__annotations__" 170 (.ref 6)::ke "__builtins__" 171 (.ref 4)::ke "__file__" 173 (.str "/claim/cut.py" 172)::ke "__cached__" 174 .none::ke "CutError" 206 (.ref 24)::ke "NoField" 222 (.ref 37)::ke "NoWeights" 238 (.ref 49)::ke "NoCut" 254 (.ref 61)::ke "Nothing" 270 (.ref 73)::ke "NoTurn" 286 (.ref 85)::ke "NoCorner" 302 (.ref 97)::ke "NoNumber" 318 (.ref 109)::ke "NoText" 334 (.ref 121)::ke "NoLine" 350 (.ref 133)::ke "NoDeed" 366 (.ref 145)::ke "is_whole" 375 (.ref 154)::ke "are_whole" 381 (.ref 159)::ke "greatest_divisor" 389 (.ref 166)::ke "lowest" 398 (.ref 173)::ke "plus" 406 (.ref 180)::ke "times" 414 (.ref 187)::ke "FAR" 418 (.int 60001 417)::ke "corners_left" 425 (.ref 194)::ke "piece_left" 432 (.ref 201)::ke "cut_down" 441 (.ref 208)::ke "places_of" 447 (.ref 213)::ke "cut_piece" 460 (.ref 220)::ke "beyond" 474 (.ref 227)::ke "where_crossed" 480 (.ref 232)::ke "from_least" 490 (.ref 239)::ke "is_ahead" 498 (.ref 246)::ke "is_row" 507 (.ref 253)::ke "value" 515 (.ref 260)::ke "keeps" 525 (.ref 267)::ke "turn_to" 533 (.ref 274)::ke "go_round" 543 (.ref 281)::ke "furthest" 554 (.ref 288)::ke "points_back" 563 (.ref 295)::ke "is_field" 571 (.ref 300)::ke "is_field_row" 581 (.ref 307)::ke "is_near" 587 (.ref 312)::ke "need_field" 594 (.ref 319)::ke "corners" 603 (.ref 326)::ke "as_field" 613 (.ref 333)::ke "side" 624 (.ref 340)::ke "is_within" 630 (.ref 345)::ke "_law_divisor" 640 (.ref 352)::ke "_law_low" 649 (.ref 359)::ke "_law_cross" 659 (.ref 366)::ke "_law_less" 667 (.ref 373)::ke "_law_plus" 675 (.ref 380)::ke "_law_times" 683 (.ref 387)::ke "_law_value" 691 (.ref 394)::ke "_law_keeps" 699 (.ref 401)::ke "_law_ahead" 707 (.ref 408)::ke "_law_minus" 715 (.ref 415)::ke "_law_bend" 725 (.ref 422)::ke "_law_chain" 734 (.ref 429)::ke "_law_ring" 740 (.ref 434)::ke "_law_corners" 746 (.ref 439)::ke "_law_same" 752 (.ref 444)::ke "_law_take" 762 (.ref 451)::ke "_law_refused" 768 (.ref 456)::ke "_law_cell_at" 776 (.ref 463)::ke "_law_state" 785 (.ref 470)::ke "_law_box" 799 (.ref 477)::ke "_law_spike" 808 (.ref 484)::ke "_law_field" 823 (.ref 491)::ke "_law_within" 829 (.ref 496)::ke "_law_sides_right" 845 (.ref 503)::ke "law" 862 (.ref 510)::[]
def ob (p:Program)(P:Params):List Obj:=k1 [] ::
 tl 66 ::
 ky "<module>" 182 183 184 1 11 12 185 1 186 ::
 kz 13 3 3 "__main__" 164 0 ::
 k1 [(.type "ValueError")] ::
 kv "type.__prepare__" (.type "type") ::
 kd P 4 (kq 196 lw1 187 198 "CutError" 197 200 2 199 201 22) ::
 k1 [] ::
 k0 ::
 ky "CutError" 191 192 193 2 18 19 194 2 195 ::
 kz 20 3 17 lw1 187 0 ::
 k1 [] ::
 kd P 3 (ke "__module__" 196 (.str lw1 187)::ke "__firstlineno__" 200 (.int 2 199)::ke "__static_attributes__" 201 (.ref 22)::ke "__weakref__" 203 (.ref 25)::ke "__doc__" 204 .none::[]) ::
 ⟨(.type "type"),none,.cls { name := "CutError", bases:=[(.type "ValueError")],mro:=[(.ref 24),(.type "ValueError"),(.type "Exception"),(.type "BaseException"),(.type "object")],ns:=23,qualname := "CutError", hasDict:=true,slotNames:=[],subclasses:=[(.ref 37),(.ref 49),(.ref 61),(.ref 73),(.ref 85),(.ref 97),(.ref 109),(.ref 121),(.ref 133),(.ref 145)],abstract:=false,hasDel:=false },⟨[some (.ref 15),none,some (.str "CutError" 189),some (.str "CutError" 197),some (.builtin "ValueError.__new__"),some (.bool true)]⟩⟩ ::
 ⟨(.type "getset_descriptor"),none,.fields ⟨[(.str "__weakref__" 202),(.ref 24),(.builtin "ExceptionGroup.__weakref__"),.none]⟩,#[]⟩ ::
 ⟨(.type "super"),none,.fields ⟨[(.ref 24),(.ref 24),(.ref 24)]⟩,#[]⟩ ::
 kv "object.__init_subclass__" (.ref 24) ::
 k1 [(.ref 24)] ::
 kv "type.__prepare__" (.type "type") ::
 kd P 4 (kq 214 lw1 187 216 "NoField" 215 218 4 217 219 35) ::
 k1 [] ::
 k0 ::
 ky "NoField" 209 210 211 4 31 32 212 4 213 ::
 kz 33 3 30 lw1 187 0 ::
 k1 [] ::
 kd P 2 (kr 214 lw1 187 218 4 217 219 35 220) ::
 kx "NoField" 24 37 36 28 207 215 ::
 ⟨(.type "super"),none,.fields ⟨[(.ref 37),(.ref 37),(.ref 37)]⟩,#[]⟩ ::
 kv "object.__init_subclass__" (.ref 37) ::
 k1 [(.ref 24)] ::
 kv "type.__prepare__" (.type "type") ::
 kd P 4 (kq 230 lw1 187 232 "NoWeights" 231 234 6 233 235 47) ::
 k1 [] ::
 k0 ::
 ky "NoWeights" 225 226 227 6 43 44 228 6 229 ::
 kz 45 3 42 lw1 187 0 ::
 k1 [] ::
 kd P 2 (kr 230 lw1 187 234 6 233 235 47 236) ::
 kx "NoWeights" 24 49 48 40 223 231 ::
 ⟨(.type "super"),none,.fields ⟨[(.ref 49),(.ref 49),(.ref 49)]⟩,#[]⟩ ::
 kv "object.__init_subclass__" (.ref 49) ::
 k1 [(.ref 24)] ::
 kv "type.__prepare__" (.type "type") ::
 kd P 4 (kq 246 lw1 187 248 "NoCut" 247 250 8 249 251 59) ::
 k1 [] ::
 k0 ::
 ky "NoCut" 241 242 243 8 55 56 244 8 245 ::
 kz 57 3 54 lw1 187 0 ::
 k1 [] ::
 kd P 2 (kr 246 lw1 187 250 8 249 251 59 252) ::
 kx "NoCut" 24 61 60 52 239 247 ::
 ⟨(.type "super"),none,.fields ⟨[(.ref 61),(.ref 61),(.ref 61)]⟩,#[]⟩ ::
 kv "object.__init_subclass__" (.ref 61) ::
 k1 [(.ref 24)] ::
 kv "type.__prepare__" (.type "type") ::
 kd P 4 (kq 262 lw1 187 264 "Nothing" 263 266 10 265 267 71) ::
 k1 [] ::
 k0 ::
 ky "Nothing" 257 258 259 10 67 68 260 10 261 ::
 kz 69 3 66 lw1 187 0 ::
 k1 [] ::
 kd P 2 (kr 262 lw1 187 266 10 265 267 71 268) ::
 kx "Nothing" 24 73 72 64 255 263 ::
 ⟨(.type "super"),none,.fields ⟨[(.ref 73),(.ref 73),(.ref 73)]⟩,#[]⟩ ::
 kv "object.__init_subclass__" (.ref 73) ::
 k1 [(.ref 24)] ::
 kv "type.__prepare__" (.type "type") ::
 kd P 4 (kq 278 lw1 187 280 "NoTurn" 279 282 12 281 283 83) ::
 k1 [] ::
 k0 ::
 ky "NoTurn" 273 274 275 12 79 80 276 12 277 ::
 kz 81 3 78 lw1 187 0 ::
 k1 [] ::
 kd P 2 (kr 278 lw1 187 282 12 281 283 83 284) ::
 kx "NoTurn" 24 85 84 76 271 279 ::
 ⟨(.type "super"),none,.fields ⟨[(.ref 85),(.ref 85),(.ref 85)]⟩,#[]⟩ ::
 kv "object.__init_subclass__" (.ref 85) ::
 k1 [(.ref 24)] ::
 kv "type.__prepare__" (.type "type") ::
 kd P 4 (kq 294 lw1 187 296 "NoCorner" 295 298 14 297 299 95) ::
 k1 [] ::
 k0 ::
 ky "NoCorner" 289 290 291 14 91 92 292 14 293 ::
 kz 93 3 90 lw1 187 0 ::
 k1 [] ::
 kd P 2 (kr 294 lw1 187 298 14 297 299 95 300) ::
 kx "NoCorner" 24 97 96 88 287 295 ::
 ⟨(.type "super"),none,.fields ⟨[(.ref 97),(.ref 97),(.ref 97)]⟩,#[]⟩ ::
 kv "object.__init_subclass__" (.ref 97) ::
 k1 [(.ref 24)] ::
 kv "type.__prepare__" (.type "type") ::
 kd P 4 (kq 310 lw1 187 312 "NoNumber" 311 314 16 313 315 107) ::
 k1 [] ::
 k0 ::
 ky "NoNumber" 305 306 307 16 103 104 308 16 309 ::
 kz 105 3 102 lw1 187 0 ::
 k1 [] ::
 kd P 2 (kr 310 lw1 187 314 16 313 315 107 316) ::
 kx "NoNumber" 24 109 108 100 303 311 ::
 ⟨(.type "super"),none,.fields ⟨[(.ref 109),(.ref 109),(.ref 109)]⟩,#[]⟩ ::
 kv "object.__init_subclass__" (.ref 109) ::
 k1 [(.ref 24)] ::
 kv "type.__prepare__" (.type "type") ::
 kd P 4 (kq 326 lw1 187 328 "NoText" 327 330 18 329 331 119) ::
 k1 [] ::
 k0 ::
 ky "NoText" 321 322 323 18 115 116 324 18 325 ::
 kz 117 3 114 lw1 187 0 ::
 k1 [] ::
 kd P 2 (kr 326 lw1 187 330 18 329 331 119 332) ::
 kx "NoText" 24 121 120 112 319 327 ::
 ⟨(.type "super"),none,.fields ⟨[(.ref 121),(.ref 121),(.ref 121)]⟩,#[]⟩ ::
 kv "object.__init_subclass__" (.ref 121) ::
 k1 [(.ref 24)] ::
 kv "type.__prepare__" (.type "type") ::
 kd P 4 (kq 342 lw1 187 344 "NoLine" 343 346 20 345 347 131) ::
 k1 [] ::
 k0 ::
 ky "NoLine" 337 338 339 20 127 128 340 20 341 ::
 kz 129 3 126 lw1 187 0 ::
 k1 [] ::
 kd P 2 (kr 342 lw1 187 346 20 345 347 131 348) ::
 kx "NoLine" 24 133 132 124 335 343 ::
 ⟨(.type "super"),none,.fields ⟨[(.ref 133),(.ref 133),(.ref 133)]⟩,#[]⟩ ::
 kv "object.__init_subclass__" (.ref 133) ::
 k1 [(.ref 24)] ::
 kv "type.__prepare__" (.type "type") ::
 kd P 4 (kq 358 lw1 187 360 "NoDeed" 359 362 22 361 363 143) ::
 k1 [] ::
 k0 ::
 ky "NoDeed" 353 354 355 22 139 140 356 22 357 ::
 kz 141 3 138 lw1 187 0 ::
 k1 [] ::
 kd P 2 (kr 358 lw1 187 362 22 361 363 143 364) ::
 kx "NoDeed" 24 145 144 136 351 359 ::
 ⟨(.type "super"),none,.fields ⟨[(.ref 145),(.ref 145),(.ref 145)]⟩,#[]⟩ ::
 kv "object.__init_subclass__" (.ref 145) ::
 k1 [] ::
 k0 ::
 k1 [(.str "thing" 372)] ::
 k1 [] ::
 kp "is_whole" (tp p 13) ::
 kc "is_whole" 369 25 1 3 148 149 (.ref 150) (.ref 151) 152 373 374 ::
 kf "is_whole" (tp p 13) 153 lw3 367 ::
 k1 [] ::
 k0 ::
 kp "are_whole" (tp p 14) ::
 kc "are_whole" 376 27 1 3 155 156 .none .none 157 379 380 ::
 kf "are_whole" (tp p 14) 158 lw3 367 ::
 k1 [] ::
 k0 ::
 k1 [(.str "one" 385),(.str "other" 386)] ::
 k1 [] ::
 kp "greatest_divisor" (tp p 15) ::
 kc "greatest_divisor" 382 29 2 3 160 161 (.ref 162) (.ref 163) 164 387 388 ::
 kf "greatest_divisor" (tp p 15) 165 lw3 367 ::
 k1 [] ::
 k0 ::
 k1 [(.str "top" 393),(.str "bottom" 394),(.str "shared" 395)] ::
 k1 [] ::
 kp "lowest" (tp p 16) ::
 kc "lowest" 390 34 2 3 167 168 (.ref 169) (.ref 170) 171 396 397 ::
 kf "lowest" (tp p 16) 172 lw3 367 ::
 k1 [] ::
 k0 ::
 k1 [(.str "one" 402),(.str "other" 403)] ::
 k1 [] ::
 kp "plus" (tp p 17) ::
 kc "plus" 399 37 2 3 174 175 (.ref 176) (.ref 177) 178 404 405 ::
 kf "plus" (tp p 17) 179 lw3 367 ::
 k1 [] ::
 k0 ::
 k1 [(.str "whole" 410),(.str "fraction" 411)] ::
 k1 [] ::
 kp "times" (tp p 18) ::
 kc "times" 407 39 2 3 181 182 (.ref 183) (.ref 184) 185 412 413 ::
 kf "times" (tp p 18) 186 lw3 367 ::
 k1 [] ::
 k0 ::
 k1 [(.str "rows" 422)] ::
 k1 [] ::
 kp "corners_left" (tp p 21) ::
 kc "corners_left" 419 43 1 3 188 189 (.ref 190) (.ref 191) 192 423 424 ::
 kf "corners_left" (tp p 21) 193 lw5 415 ::
 k1 [] ::
 k0 ::
 k1 [(.str "rows" 429)] ::
 k1 [] ::
 kp "piece_left" (tp p 22) ::
 kc "piece_left" 426 45 1 3 195 196 (.ref 197) (.ref 198) 199 430 431 ::
 kf "piece_left" (tp p 22) 200 lw5 415 ::
 k1 [] ::
 k0 ::
 k1 [(.str "piece" 436),(.str "rows" 437),(.str "row" 438)] ::
 k1 [] ::
 kp "cut_down" (tp p 23) ::
 kc "cut_down" 433 47 2 3 202 203 (.ref 204) (.ref 205) 206 439 440 ::
 kf "cut_down" (tp p 23) 207 lw5 415 ::
 k1 [] ::
 k0 ::
 kp "places_of" (tp p 24) ::
 kc "places_of" 442 51 1 3 209 210 .none .none 211 445 446 ::
 kf "places_of" (tp p 24) 212 lw5 415 ::
 k1 [] ::
 k0 ::
 k1 [(.str "piece" 451),(.str "row" 452),(.str "left" 453),(.str "at" 454),(.str "corner" 455),(.str "before" 456),(.str "crossing" 457)] ::
 k1 [] ::
 kp "cut_piece" (tp p 25) ::
 kc "cut_piece" 448 53 2 3 214 215 (.ref 216) (.ref 217) 218 458 459 ::
 kf "cut_piece" (tp p 25) 219 lw5 415 ::
 k1 [] ::
 k0 ::
 k1 [(.str "row" 464),(.str "corner" 465),(.str "a" 466),(.str "b" 467),(.str "c" 468),(.str "x" 469),(.str "y" 470),(.str "bottom" 471)] ::
 k1 [] ::
 kp "beyond" (tp p 26) ::
 kc "beyond" 461 64 2 3 221 222 (.ref 223) (.ref 224) 225 472 473 ::
 kf "beyond" (tp p 26) 226 lw5 415 ::
 k1 [] ::
 k0 ::
 kp "where_crossed" (tp p 27) ::
 kc "where_crossed" 475 68 3 3 228 229 .none .none 230 478 479 ::
 kf "where_crossed" (tp p 27) 231 lw5 415 ::
 k1 [] ::
 k0 ::
 k1 [(.str "piece" 484),(.str "start" 485),(.str "at" 486),(.str "corner" 487)] ::
 k1 [] ::
 kp "from_least" (tp p 28) ::
 kc "from_least" 481 73 1 3 233 234 (.ref 235) (.ref 236) 237 488 489 ::
 kf "from_least" (tp p 28) 238 lw5 415 ::
 k1 [] ::
 k0 ::
 k1 [(.str "one" 494),(.str "other" 495)] ::
 k1 [] ::
 kp "is_ahead" (tp p 29) ::
 kc "is_ahead" 491 79 2 3 240 241 (.ref 242) (.ref 243) 244 496 497 ::
 kf "is_ahead" (tp p 29) 245 lw5 415 ::
 k1 [] ::
 k0 ::
 k1 [(.str "thing" 504)] ::
 k1 [] ::
 kp "is_row" (tp p 31) ::
 kc "is_row" 501 82 1 3 247 248 (.ref 249) (.ref 250) 251 505 506 ::
 kf "is_row" (tp p 31) 252 lw6 499 ::
 k1 [] ::
 k0 ::
 k1 [(.str "row" 511),(.str "place" 512)] ::
 k1 [] ::
 kp "value" (tp p 32) ::
 kc "value" 508 86 2 3 254 255 (.ref 256) (.ref 257) 258 513 514 ::
 kf "value" (tp p 32) 259 lw6 499 ::
 k1 [] ::
 k0 ::
 k1 [(.str "row" 519),(.str "place" 520),(.str "top" 521),(.str "bottom" 522)] ::
 k1 [] ::
 kp "keeps" (tp p 33) ::
 kc "keeps" 516 88 2 3 261 262 (.ref 263) (.ref 264) 265 523 524 ::
 kf "keeps" (tp p 33) 266 lw6 499 ::
 k1 [] ::
 k0 ::
 k1 [(.str "one" 529),(.str "other" 530)] ::
 k1 [] ::
 kp "turn_to" (tp p 34) ::
 kc "turn_to" 526 91 2 3 268 269 (.ref 270) (.ref 271) 272 531 532 ::
 kf "turn_to" (tp p 34) 273 lw6 499 ::
 k1 [] ::
 k0 ::
 k1 [(.str "rows" 537),(.str "first" 538),(.str "left" 539),(.str "right" 540)] ::
 k1 [] ::
 kp "go_round" (tp p 35) ::
 kc "go_round" 534 93 1 3 275 276 (.ref 277) (.ref 278) 279 541 542 ::
 kf "go_round" (tp p 35) 280 lw6 499 ::
 k1 [] ::
 k0 ::
 k1 [(.str "first" 547),(.str "rows" 548),(.str "sign" 549),(.str "last" 550),(.str "row" 551)] ::
 k1 [] ::
 kp "furthest" (tp p 36) ::
 kc "furthest" 544 102 3 3 282 283 (.ref 284) (.ref 285) 286 552 553 ::
 kf "furthest" (tp p 36) 287 lw6 499 ::
 k1 [] ::
 k0 ::
 k1 [(.str "first" 558),(.str "rows" 559),(.str "row" 560)] ::
 k1 [] ::
 kp "points_back" (tp p 37) ::
 kc "points_back" 555 108 2 3 289 290 (.ref 291) (.ref 292) 293 561 562 ::
 kf "points_back" (tp p 37) 294 lw6 499 ::
 k1 [] ::
 k0 ::
 kp "is_field" (tp p 39) ::
 kc "is_field" 566 114 1 3 296 297 .none .none 298 569 570 ::
 kf "is_field" (tp p 39) 299 lw2 564 ::
 k1 [] ::
 k0 ::
 k1 [(.str "thing" 575),(.str "a" 576),(.str "b" 577),(.str "c" 578)] ::
 k1 [] ::
 kp "is_field_row" (tp p 40) ::
 kc "is_field_row" 572 120 1 3 301 302 (.ref 303) (.ref 304) 305 579 580 ::
 kf "is_field_row" (tp p 40) 306 lw2 564 ::
 k1 [] ::
 k0 ::
 kp "is_near" (tp p 41) ::
 kc "is_near" 582 125 1 3 308 309 .none .none 310 585 586 ::
 kf "is_near" (tp p 41) 311 lw2 564 ::
 k1 [] ::
 k0 ::
 k1 [(.str "thing" 591)] ::
 k1 [] ::
 kp "need_field" (tp p 42) ::
 kc "need_field" 588 127 1 3 313 314 (.ref 315) (.ref 316) 317 592 593 ::
 kf "need_field" (tp p 42) 318 lw2 564 ::
 k1 [] ::
 k0 ::
 k1 [(.str "field" 600)] ::
 k1 [] ::
 kp "corners" (tp p 44) ::
 kc "corners" 597 131 1 3 320 321 (.ref 322) (.ref 323) 324 601 602 ::
 kf "corners" (tp p 44) 325 "roundcuts.corners" 595 ::
 k1 [] ::
 k0 ::
 k1 [(.str "rows" 609),(.str "field" 610)] ::
 k1 [] ::
 kp "as_field" (tp p 46) ::
 kc "as_field" 606 135 1 3 327 328 (.ref 329) (.ref 330) 331 611 612 ::
 kf "as_field" (tp p 46) 332 lw4 604 ::
 k1 [] ::
 k0 ::
 k1 [(.str "field" 617),(.str "k" 618),(.str "a" 619),(.str "b" 620),(.str "c" 621)] ::
 k1 [] ::
 kp "side" (tp p 47) ::
 kc "side" 614 139 2 3 334 335 (.ref 336) (.ref 337) 338 622 623 ::
 kf "side" (tp p 47) 339 lw4 604 ::
 k1 [] ::
 k0 ::
 kp "is_within" (tp p 48) ::
 kc "is_within" 625 145 2 3 341 342 .none .none 343 628 629 ::
 kf "is_within" (tp p 48) 344 lw4 604 ::
 k1 [] ::
 k0 ::
 k1 [(.str "_law_one" 636),(.str "_law_other" 637)] ::
 k1 [] ::
 kp "_law_divisor" (tp p 50) ::
 kc "_law_divisor" 633 150 2 3 346 347 (.ref 348) (.ref 349) 350 638 639 ::
 kf "_law_divisor" (tp p 50) 351 lw 631 ::
 k1 [] ::
 k0 ::
 k1 [(.str "_law_top" 644),(.str "_law_bottom" 645),(.str "_law_by" 646)] ::
 k1 [] ::
 kp "_law_low" (tp p 51) ::
 kc "_law_low" 641 154 2 3 353 354 (.ref 355) (.ref 356) 357 647 648 ::
 kf "_law_low" (tp p 51) 358 lw 631 ::
 k1 [] ::
 k0 ::
 k1 [(.str "_law_one" 653),(.str "_law_other" 654),(.str "_law_by" 655),(.str "_law_x" 656)] ::
 k1 [] ::
 kp "_law_cross" (tp p 52) ::
 kc "_law_cross" 650 159 2 3 360 361 (.ref 362) (.ref 363) 364 657 658 ::
 kf "_law_cross" (tp p 52) 365 lw 631 ::
 k1 [] ::
 k0 ::
 k1 [(.str "_law_one" 663),(.str "_law_other" 664)] ::
 k1 [] ::
 kp "_law_less" (tp p 53) ::
 kc "_law_less" 660 165 2 3 367 368 (.ref 369) (.ref 370) 371 665 666 ::
 kf "_law_less" (tp p 53) 372 lw 631 ::
 k1 [] ::
 k0 ::
 k1 [(.str "_law_one" 671),(.str "_law_other" 672)] ::
 k1 [] ::
 kp "_law_plus" (tp p 54) ::
 kc "_law_plus" 668 167 2 3 374 375 (.ref 376) (.ref 377) 378 673 674 ::
 kf "_law_plus" (tp p 54) 379 lw 631 ::
 k1 [] ::
 k0 ::
 k1 [(.str "_law_one" 679),(.str "_law_other" 680)] ::
 k1 [] ::
 kp "_law_times" (tp p 55) ::
 kc "_law_times" 676 169 2 3 381 382 (.ref 383) (.ref 384) 385 681 682 ::
 kf "_law_times" (tp p 55) 386 lw 631 ::
 k1 [] ::
 k0 ::
 k1 [(.str "_law_row" 687),(.str "_law_place" 688)] ::
 k1 [] ::
 kp "_law_value" (tp p 56) ::
 kc "_law_value" 684 171 2 3 388 389 (.ref 390) (.ref 391) 392 689 690 ::
 kf "_law_value" (tp p 56) 393 lw 631 ::
 k1 [] ::
 k0 ::
 k1 [(.str "_law_row" 695),(.str "_law_place" 696)] ::
 k1 [] ::
 kp "_law_keeps" (tp p 57) ::
 kc "_law_keeps" 692 173 2 3 395 396 (.ref 397) (.ref 398) 399 697 698 ::
 kf "_law_keeps" (tp p 57) 400 lw 631 ::
 k1 [] ::
 k0 ::
 k1 [(.str "_law_one" 703),(.str "_law_other" 704)] ::
 k1 [] ::
 kp "_law_ahead" (tp p 58) ::
 kc "_law_ahead" 700 175 2 3 402 403 (.ref 404) (.ref 405) 406 705 706 ::
 kf "_law_ahead" (tp p 58) 407 lw 631 ::
 k1 [] ::
 k0 ::
 k1 [(.str "_law_one" 711),(.str "_law_other" 712)] ::
 k1 [] ::
 kp "_law_minus" (tp p 59) ::
 kc "_law_minus" 708 179 2 3 409 410 (.ref 411) (.ref 412) 413 713 714 ::
 kf "_law_minus" (tp p 59) 414 lw 631 ::
 k1 [] ::
 k0 ::
 k1 [(.str "_law_one" 719),(.str "_law_other" 720),(.str "_law_third" 721),(.str "_law_ahead_here" 722)] ::
 k1 [] ::
 kp "_law_bend" (tp p 60) ::
 kc "_law_bend" 716 181 3 3 416 417 (.ref 418) (.ref 419) 420 723 724 ::
 kf "_law_bend" (tp p 60) 421 lw 631 ::
 k1 [] ::
 k0 ::
 k1 [(.str "_law_places" 729),(.str "_law_found" 730),(.str "_law_place" 731)] ::
 k1 [] ::
 kp "_law_chain" (tp p 61) ::
 kc "_law_chain" 726 184 1 3 423 424 (.ref 425) (.ref 426) 427 732 733 ::
 kf "_law_chain" (tp p 61) 428 lw 631 ::
 k1 [] ::
 k0 ::
 kp "_law_ring" (tp p 62) ::
 kc "_law_ring" 735 191 1 3 430 431 .none .none 432 738 739 ::
 kf "_law_ring" (tp p 62) 433 lw 631 ::
 k1 [] ::
 k0 ::
 kp "_law_corners" (tp p 63) ::
 kc "_law_corners" 741 199 1 3 435 436 .none .none 437 744 745 ::
 kf "_law_corners" (tp p 63) 438 lw 631 ::
 k1 [] ::
 k0 ::
 kp "_law_same" (tp p 64) ::
 kc "_law_same" 747 207 2 3 440 441 .none .none 442 750 751 ::
 kf "_law_same" (tp p 64) 443 lw 631 ::
 k1 [] ::
 k0 ::
 k1 [(.str "_law_state_here" 756),(.str "_law_many" 757),(.str "_law_found" 758),(.str "_law_stirred" 759)] ::
 k1 [] ::
 kp "_law_take" (tp p 65) ::
 kc "_law_take" 753 215 2 3 445 446 (.ref 447) (.ref 448) 449 760 761 ::
 kf "_law_take" (tp p 65) 450 lw 631 ::
 k1 [] ::
 k0 ::
 kp "_law_refused" (tp p 66) ::
 kc "_law_refused" 763 224 1 3 452 453 .none .none 454 766 767 ::
 kf "_law_refused" (tp p 66) 455 lw 631 ::
 k1 [] ::
 k0 ::
 k1 [(.str "_law_script" 772),(.str "_law_k" 773)] ::
 k1 [] ::
 kp "_law_cell_at" (tp p 67) ::
 kc "_law_cell_at" 769 237 2 3 457 458 (.ref 459) (.ref 460) 461 774 775 ::
 kf "_law_cell_at" (tp p 67) 462 lw 631 ::
 k1 [] ::
 k0 ::
 k1 [(.str "_law_script" 780),(.str "_law_k" 781),(.str "_law_cell" 782)] ::
 k1 [] ::
 kp "_law_state" (tp p 68) ::
 kc "_law_state" 777 241 2 3 464 465 (.ref 466) (.ref 467) 468 783 784 ::
 kf "_law_state" (tp p 68) 469 lw 631 ::
 k1 [] ::
 k0 ::
 k1 [(.str "_law_state_here" 789),(.str "_law_rows" 790),(.str "_law_a" 791),(.str "_law_b" 792),(.str "_law_many" 793),(.str "_law_turn" 794),(.str "_law_x" 795),(.str "_law_y" 796)] ::
 k1 [] ::
 kp "_law_box" (tp p 69) ::
 kc "_law_box" 786 246 1 3 471 472 (.ref 473) (.ref 474) 475 797 798 ::
 kf "_law_box" (tp p 69) 476 lw 631 ::
 k1 [] ::
 k0 ::
 k1 [(.str "_law_state_here" 803),(.str "_law_long" 804),(.str "_law_rows" 805)] ::
 k1 [] ::
 kp "_law_spike" (tp p 70) ::
 kc "_law_spike" 800 258 1 3 478 479 (.ref 480) (.ref 481) 482 806 807 ::
 kf "_law_spike" (tp p 70) 483 lw 631 ::
 k1 [] ::
 k0 ::
 k1 [(.str "_law_state_here" 812),(.str "_law_rows" 813),(.str "_law_way" 814),(.str "_law_u" 815),(.str "_law_v" 816),(.str "_law_found" 817),(.str "_law_a" 818),(.str "_law_b" 819),(.str "_law_c" 820)] ::
 k1 [] ::
 kp "_law_field" (tp p 71) ::
 kc "_law_field" 809 264 1 3 485 486 (.ref 487) (.ref 488) 489 821 822 ::
 kf "_law_field" (tp p 71) 490 lw 631 ::
 k1 [] ::
 k0 ::
 kp "_law_within" (tp p 72) ::
 kc "_law_within" 824 277 2 3 492 493 .none .none 494 827 828 ::
 kf "_law_within" (tp p 72) 495 lw 631 ::
 k1 [] ::
 k0 ::
 k1 [(.str "_law_state_here" 833),(.str "_law_field_here" 834),(.str "_law_number" 835),(.str "_law_a" 836),(.str "_law_b" 837),(.str "_law_c" 838)] ::
 k1 [(.str "_law_state_here" 839),(.str "_law_field_here" 840),(.str "_law_bad" 841),(.str "_law_eight" 842)] ::
 kp "_law_sides_right" (tp p 73) ::
 kc "_law_sides_right" 830 280 2 3 497 498 (.ref 499) (.ref 500) 501 843 844 ::
 kf "_law_sides_right" (tp p 73) 502 lw 631 ::
 k1 [] ::
 k0 ::
 k1 [(.str "_law_script" 849),(.str "_law_k" 850),(.str "_law_state_here" 851),(.str "_law_field_here" 852),(.str "_law_other" 853),(.str "_law_a" 854),(.str "_law_b" 855),(.str "_law_more" 856),(.str "_law_one" 857),(.str "_law_two" 858),(.str "_law_found" 859)] ::
 k1 [] ::
 kp "law" (tp p 74) ::
 kc "law" 846 291 1 3 504 505 (.ref 506) (.ref 507) 508 860 861 ::
 kf "law" (tp p 74) 509 lw 631::[]
def hp (p:Program)(P:Params)(n:Nat)(m:List (Str×Nat×Value))(e:Nat)(c:List (Nat×Obj)):List Obj:=c.foldl (fun l x=>l.set x.1 x.2) ((PySem.W.boot_heap P).objs.toList.set 3 (kd P e m)++(ob p P).take n)
def sh (p:Program)(w:World)(os:OsState)(n:Nat)(m:List (Str×Nat×Value))(e:Nat)(c:List (Nat×Obj))(k:Nat):Shared:=⟨⟨⟨hp p w.params n m e c⟩,{}⟩,⟨[]⟩,{},k,os⟩
def hf (p:Program)(P:Params):Heap:=⟨⟨hp p P 500 mn 76 []⟩,{}⟩
abbrev as:List Addr:=[3,4,23,24,36,37,48,49,60,61,72,73,84,85,96,97,108,109,120,121,132,133,144,145,153,154,158,159,165,166,172,173,179,180,186,187,193,194,200,201,207,208,212,213,219,220,226,227,231,232,238,239,245,246,252,253,259,260,266,267,273,274,280,281,287,288,294,295,299,300,306,307,311,312,318,319,325,326,332,333,339,340,344,345,351,352,358,359,365,366,372,373,379,380,386,387,393,394,400,401,407,408,414,415,421,422,428,429,433,434,438,439,443,444,450,451,455,456,462,463,469,470,476,477,483,484,490,491,495,496,502,503,505,509,510]
def Kp (p:Program)(P:Params):PySem.W.Frag:=as.map fun a=>(a,(hp p P 500 mn 76 []).getD a k0)
abbrev pg:Program:=PySem.Challenge.pw_roundcuts_k61_sides_and_fields_in_fields
abbrev K (P:Params):PySem.W.Frag:=Kp pg P
abbrev ah:List Addr:=498::as
def Kh (p:Program)(P:Params):PySem.W.Frag:=ah.map fun a=>(a,(hp p P 500 mn 76 []).getD a k0)
theorem xgQ (p:Program)(P:Params):ah=(Kh p P).map (·.1):=by unfold Kh;rw[xi_];exact(List.map_id _).symm
abbrev Hk (p:Program):PySem.W.Hook:=PySem.W.kHook (Kh p) ah (xgQ p)
abbrev keep:List Nat:=[1,2,3,4,5,6,7,8,9,10,11,13,14,15,16,17,18,20,21,22,23,24,25,26,27,28,29,31,32,33,34,35,36,37,39,40,41,42,44,46,47,48,50,51,52,53,54,55,56,57,58,59,60,61,62,63,64,65,66,67,68,69,70,71,72,73,74]
abbrev vw:Program:=PySem.W.view pg keep
theorem dk {P:Params}{x:Str}{st:Stmt}{f cd t:Nat}{m:Str}(a:PySem.W.nsIn (K P) mainGlobals x=some (some (.ref f)))(l:(K P).lookup f=some (kf x st cd m t))(c:PySem.W.codeIn (K P) (.ref cd) x=true):DD (K P) x st :=
 dd a l c (by unfold PySem.W.keepIn;dsimp only;rw[l];rfl)
theorem dl {P:Params}{x:Str}{st:Stmt}(f cd:Nat)(m:Str)(t:Nat)(a:PySem.W.nsIn (K P) mainGlobals x=some (some (.ref f)):=by kernel_rfl)(l:(K P).lookup f=some (kf x st cd m t):=by kernel_rfl)(c:PySem.W.codeIn (K P) (.ref cd) x=true:=by kernel_rfl):DD (K P) x st:=dk a l c
end K61
set_option maxHeartbeats 0 in
lay_quick PySem.Challenge.pw_roundcuts_k61_sides_and_fields_in_fields
namespace K61
open PySem L2 Trn PySem.W
abbrev tb:=PySem.W.Fast.tw14364793385576792824
abbrev p':=PySem.W.Fast.tw5666495627455836993
abbrev v':=view p' keep
abbrev im:=PySem.W.Fast.tw5923862056798008813 p'.main.body
abbrev ann:Option Value:=some (.ref 6)
abbrev q:Pos:=⟨0,0,0,0⟩
abbrev bd:=behindTheImports p'
abbrev env:Env:={ scope:=p'.main.scope,locals:=mainNs,globals:=mainNs,cells:=[],code:=(.ref 13),frame:=some 14 }
abbrev cb:Code:=.body bd env
theorem r0 (w:World)(os:OsState):topGo tb p' w 11 ann 12 ⟨boot_heap w.params,⟨[]⟩,boot_drawn,boot_toks,os⟩ (topStub p')=some ((sh p' w os 4 ((mn.take 9).set 0 (ke "__name__" 165 (.str "__main__" 164))) 9 [(12,k0)] 187),⟨denote tb cb,cb,⟨0,0,0,0⟩,[topFrame q]⟩):=by kernel_rfl
theorem r1 (w:World)(os:OsState):segRun tb p' w 11 ann 1 1 (sh p' w os 4 ((mn.take 9).set 0 (ke "__name__" 165 (.str "__main__" 164))) 9 [(12,k0)] 187) (blockOf bd env cb ⟨0,0,0,0⟩ [topFrame q])=some (.next,(sh p' w os 4 ((mn.take 9).set 0 (ke "__name__" 165 (.str "__main__" 164))) 9 [(12,k0)] 187),cb,⟨0,0,0,0⟩):=by kernel_rfl
theorem c0 (w:World)(os:OsState):segRun tb p' w 11 ann 1 626 (sh p' w os 4 ((mn.take 9).set 0 (ke "__name__" 165 (.str "__main__" 164))) 9 [(12,k0)] 187) (piecesOf ((bd.drop 0).take 4) env cb ⟨0,0,0,0⟩ [topFrame q])=some (.next,(sh p' w os 41 ((mn.take 12).set 0 (ke "__name__" 165 (.str lw1 187))) 12 [(12,tl 3),(24,⟨(.type "type"),none,.cls { name := "CutError", bases:=[(.type "ValueError")],mro:=[(.ref 24),(.type "ValueError"),(.type "Exception"),(.type "BaseException"),(.type "object")],ns:=23,qualname := "CutError", hasDict:=true,slotNames:=[],subclasses:=[(.ref 37),(.ref 49)],abstract:=false,hasDel:=false },⟨[some (.ref 15),none,some (.str "CutError" 189),some (.str "CutError" 197),some (.builtin "ValueError.__new__"),some (.bool true)]⟩⟩)] 239),cb,⟨6,0,7,8⟩):=by kernel_rfl
theorem c1 (w:World)(os:OsState):segRun tb p' w 11 ann 1 643 (sh p' w os 41 ((mn.take 12).set 0 (ke "__name__" 165 (.str lw1 187))) 12 [(12,tl 3),(24,⟨(.type "type"),none,.cls { name := "CutError", bases:=[(.type "ValueError")],mro:=[(.ref 24),(.type "ValueError"),(.type "Exception"),(.type "BaseException"),(.type "object")],ns:=23,qualname := "CutError", hasDict:=true,slotNames:=[],subclasses:=[(.ref 37),(.ref 49)],abstract:=false,hasDel:=false },⟨[some (.ref 15),none,some (.str "CutError" 189),some (.str "CutError" 197),some (.builtin "ValueError.__new__"),some (.bool true)]⟩⟩)] 239) (piecesOf ((bd.drop 4).take 3) env cb ⟨6,0,7,8⟩ [topFrame q])=some (.next,(sh p' w os 77 ((mn.take 15).set 0 (ke "__name__" 165 (.str lw1 187))) 15 [(12,tl 6),(24,⟨(.type "type"),none,.cls { name := "CutError", bases:=[(.type "ValueError")],mro:=[(.ref 24),(.type "ValueError"),(.type "Exception"),(.type "BaseException"),(.type "object")],ns:=23,qualname := "CutError", hasDict:=true,slotNames:=[],subclasses:=[(.ref 37),(.ref 49),(.ref 61),(.ref 73),(.ref 85)],abstract:=false,hasDel:=false },⟨[some (.ref 15),none,some (.str "CutError" 189),some (.str "CutError" 197),some (.builtin "ValueError.__new__"),some (.bool true)]⟩⟩)] 287),cb,⟨12,0,13,8⟩):=by kernel_rfl
theorem c2 (w:World)(os:OsState):segRun tb p' w 11 ann 1 643 (sh p' w os 77 ((mn.take 15).set 0 (ke "__name__" 165 (.str lw1 187))) 15 [(12,tl 6),(24,⟨(.type "type"),none,.cls { name := "CutError", bases:=[(.type "ValueError")],mro:=[(.ref 24),(.type "ValueError"),(.type "Exception"),(.type "BaseException"),(.type "object")],ns:=23,qualname := "CutError", hasDict:=true,slotNames:=[],subclasses:=[(.ref 37),(.ref 49),(.ref 61),(.ref 73),(.ref 85)],abstract:=false,hasDel:=false },⟨[some (.ref 15),none,some (.str "CutError" 189),some (.str "CutError" 197),some (.builtin "ValueError.__new__"),some (.bool true)]⟩⟩)] 287) (piecesOf ((bd.drop 7).take 3) env cb ⟨12,0,13,8⟩ [topFrame q])=some (.next,(sh p' w os 113 ((mn.take 18).set 0 (ke "__name__" 165 (.str lw1 187))) 18 [(12,tl 9),(24,⟨(.type "type"),none,.cls { name := "CutError", bases:=[(.type "ValueError")],mro:=[(.ref 24),(.type "ValueError"),(.type "Exception"),(.type "BaseException"),(.type "object")],ns:=23,qualname := "CutError", hasDict:=true,slotNames:=[],subclasses:=[(.ref 37),(.ref 49),(.ref 61),(.ref 73),(.ref 85),(.ref 97),(.ref 109),(.ref 121)],abstract:=false,hasDel:=false },⟨[some (.ref 15),none,some (.str "CutError" 189),some (.str "CutError" 197),some (.builtin "ValueError.__new__"),some (.bool true)]⟩⟩)] 335),cb,⟨18,0,19,8⟩):=by kernel_rfl
theorem c3 (w:World)(os:OsState):segRun tb p' w 11 ann 1 701 (sh p' w os 113 ((mn.take 18).set 0 (ke "__name__" 165 (.str lw1 187))) 18 [(12,tl 9),(24,⟨(.type "type"),none,.cls { name := "CutError", bases:=[(.type "ValueError")],mro:=[(.ref 24),(.type "ValueError"),(.type "Exception"),(.type "BaseException"),(.type "object")],ns:=23,qualname := "CutError", hasDict:=true,slotNames:=[],subclasses:=[(.ref 37),(.ref 49),(.ref 61),(.ref 73),(.ref 85),(.ref 97),(.ref 109),(.ref 121)],abstract:=false,hasDel:=false },⟨[some (.ref 15),none,some (.str "CutError" 189),some (.str "CutError" 197),some (.builtin "ValueError.__new__"),some (.bool true)]⟩⟩)] 335) (piecesOf ((bd.drop 10).take 13) env cb ⟨18,0,19,8⟩ [topFrame q])=some (.next,(sh p' w os 191 ((mn.take 29).set 0 (ke "__name__" 165 (.str lw5 415))) 29 [(12,tl 19)] 433),cb,⟨45,0,46,91⟩):=by kernel_rfl
theorem c4 (w:World)(os:OsState):segRun tb p' w 11 ann 1 727 (sh p' w os 191 ((mn.take 29).set 0 (ke "__name__" 165 (.str lw5 415))) 29 [(12,tl 19)] 433) (piecesOf ((bd.drop 23).take 26) env cb ⟨45,0,46,91⟩ [topFrame q])=some (.next,(sh p' w os 335 ((mn.take 51).set 0 (ke "__name__" 165 (.str lw4 604))) 51 [(12,tl 41)] 631),cb,⟨145,0,148,72⟩):=by kernel_rfl
theorem c5 (w:World)(os:OsState):segRun tb p' w 11 ann 1 700 (sh p' w os 335 ((mn.take 51).set 0 (ke "__name__" 165 (.str lw4 604))) 51 [(12,tl 41)] 631) (piecesOf ((bd.drop 49).take 23) env cb ⟨145,0,148,72⟩ [topFrame q])=some (.next,(sh p' w os 481 (mn.take 73) 73 [(12,tl 63)] 824),cb,⟨264,0,276,28⟩):=by kernel_rfl
theorem c6 (w:World)(os:OsState):segRun tb p' w 11 ann 1 107 (sh p' w os 481 (mn.take 73) 73 [(12,tl 63)] 824) (piecesOf ((bd.drop 72).take 3) env cb ⟨264,0,276,28⟩ [topFrame q])=some (.next,(sh p' w os 500 mn 76 [] 863),cb,⟨291,0,303,15⟩):=by kernel_rfl
theorem xgi:bd=(((bd.drop 0).take 4)++(((bd.drop 4).take 3)++(((bd.drop 7).take 3)++(((bd.drop 10).take 13)++(((bd.drop 23).take 26)++(((bd.drop 49).take 23)++(((bd.drop 72).take 3)++[]))))))):=by kernel_rfl
theorem cl (w:World)(os:OsState):topRun tb p' w 11 ann 2 (sh p' w os 500 mn 76 [] 863) ⟨doneF .next,cb,⟨291,0,303,15⟩,[topFrame q]⟩=some (sh p' w os 500 mn 76 [] 863):=by kernel_rfl
theorem run (w:World)(os:OsState):topRun tb p' w 11 ann (12+(1+(626+(643+(643+(701+(727+(700+(107+2))))))))) ⟨boot_heap w.params,⟨[]⟩,boot_drawn,boot_toks,os⟩ (topStub p')=some ⟨hf p' w.params,⟨[]⟩,{},863,os⟩ :=
 go_top (r0 w os) (piece_block (r1 w os) (xgi▸(piece_app (c0 w os) (piece_app (c1 w os) (piece_app (c2 w os) (piece_app (c3 w os) (piece_app (c4 w os) (piece_app (c5 w os) (piece_app (c6 w os) (piece_nil (cl w os)))))))))))
theorem z0 (w:World):((boot_heap w.params).isNs mainGlobals&&(⟨[]⟩:Array GenState).size == 0,(boot_heap w.params).objs.size,(boot_heap w.params).nsMap mainGlobals "__annotations__")=(true,11,ann):=by kernel_rfl
theorem z1 (w:World)(os:OsState):(staticsOk im (boot_heap w.params) (hf p' w.params)&&namesBound p' (hf p' w.params)&&gensDone ⟨hf p' w.params,⟨[]⟩,{},863,os⟩&&laidKept (boot_heap w.params) (hf p' w.params))=true:=by kernel_rfl
abbrev zx (w:World)(os:OsState):=PySem.W.Fast.tw4187177175401517315 v' [] im (fun s=>xlAt v' [] s&&recOk [] s) true ⟨hf p' w.params,⟨[]⟩,{},863,os⟩
theorem z20 (w os):(zx w os).1=PyProof.Rows.expectedOf v':=by kernel_rfl
theorem z21 (w os):(zx w os).2.1=bltViewBooted:=by kernel_rfl
theorem z22 (w os):(zx w os).2.2.1=true:=by kernel_rfl
theorem z23 (w os):(zx w os).2.2.2.1=true:=by kernel_rfl
theorem z24 (w os):(zx w os).2.2.2.2.1=pinGoodD (PyProof.Rows.drecsOf v'):=by kernel_rfl
theorem z25 (w os):(zx w os).2.2.2.2.2.1=PyProof.Rows.plainGoodE v' (looseW v' []):=by kernel_rfl
theorem z26 (w os):(zx w os).2.2.2.2.2.2.1=PyProof.Rows.plainGoodD v' []:=by kernel_rfl
theorem z27 (w os):(zx w os).2.2.2.2.2.2.2.1=wideGood v':=by kernel_rfl
theorem z28 (w os):(zx w os).2.2.2.2.2.2.2.2=clsGoodW v' []:=by kernel_rfl
theorem z2 (w os):zx w os=openGood v' []:=Prod.ext (z20 w os) (Prod.ext (z21 w os) (Prod.ext (z22 w os) (Prod.ext (z23 w os) (Prod.ext (z24 w os) (Prod.ext (z25 w os) (Prod.ext (z26 w os) (Prod.ext (z27 w os) (z28 w os))))))))
theorem z3 (w:World)(os:OsState):Hook.obs (Hk p') ⟨hf p' w.params,⟨[]⟩,{},863,os⟩=Hook.val (Hk p') w:=by kernel_rfl
theorem xgL:LeftO p' v' [] (fun s=>xlAt v' [] s&&recOk [] s) (Hook.obs (Hk p')) (Hook.val (Hk p')) 8256:=by
 have h1:=run;have h2:=z1;have h3:=z2;unfold zx at h3
 rw[show tb=treeTable from PySem.W.Fast.te14364793385576792824.symm] at h1
 rw[show im=importedModules p'.main.body from congrFun PySem.W.Fast.te5923862056798008813.symm _] at h2 h3
 rw[show PySem.W.Fast.tw4187177175401517315=openSeen from PySem.W.Fast.te4187177175401517315.symm] at h3
 exact LeftO.of_pieces (boot_open rfl rfl fun _=>rfl) z0 h1 (by decide) fun w=>funext fun os=>by
  rw[h2 w os,h3 w os,z3 w os]
theorem xd8 (p:Program)(h:p=p'):LeftO p (view p keep) [] (fun s=>xlAt (view p keep) [] s&&recOk [] s) (Hook.obs (Hk p)) (Hook.val (Hk p)) 8256:=by
 subst h;exact xgL
theorem left:LeftO pg vw [] (fun s=>xlAt vw [] s&&recOk [] s) (Hook.obs (Hk pg)) (Hook.val (Hk pg)) 8256:=xd8 pg PySem.W.Fast.te5666495627455836993
end K61
namespace K61
open PySem L2 Trn
theorem code_at {P:Params}{h:Heap}(X:(K P).In h):PySem.W.CodeHd h 502 498 :=
 ⟨_,_,_,_,_,_,_,_,_,X 502 (kc "_law_sides_right" 830 280 2 3 497 498 (.ref 499) (.ref 500) 501 843 844) (by kernel_rfl),rfl,rfl,rfl,rfl,rfl,rfl,rfl,rfl,by decide⟩
theorem xeD {P:Params}{h:Heap}{mg:Str→Option Value}(M:Mod (K P) mg h):h.BuiltinsAt mg 498 :=
 ⟨4,⟨.type "module", some 0,.plain,#[]⟩,PySem.W.mg_of M.kin M.glob (by kernel_rfl),by decide,by decide,by decide,M.kin _ _ (by kernel_rfl),rfl,rfl,rfl⟩
theorem t5 (P:Params):ng (K P) 37:=⟨by kernel_rfl,by kernel_rfl,by kernel_rfl,by kernel_rfl,by kernel_rfl,by kernel_rfl,by kernel_rfl,by kernel_rfl⟩
theorem aO (P:Params):ng (K P) 109:=⟨by kernel_rfl,by kernel_rfl,by kernel_rfl,by kernel_rfl,by kernel_rfl,by kernel_rfl,by kernel_rfl,by kernel_rfl⟩
theorem there {l:PySem.W.OpenLaw}{w:World}{P:Params}{h:Heap}{mg:Str→Option Value}{fa:Addr}(X:(K P).In h)(G:h.Ns mainGlobals mg)(hfa:mg "law" = some (.ref fa)) :
  ∃fd:FuncData,(∀(s:Shared) (v:Value),BindsTo s fd ⟨[v],[]⟩ [("_law_script", v)])∧∀base:Heap,Mod (K P) mg base→dz l.prog w (K P) mg base CX0 14 fa fd ["_law_script"] (gJ (K P)) :=
 all_mk (c:=502) (T:=498) (a_CutError:=24) (a_NoField:=37) (a_NoWeights:=49) (a_NoCut:=61) (a_Nothing:=73) (a_NoTurn:=85) (a_NoCorner:=97) (a_NoNumber:=109) (a_NoText:=121) (a_NoLine:=133) (a_NoDeed:=145) X G hfa (dl 154 153 lw3 367)
  (dl 166 165 lw3 367)
  (dl 227 226 lw5 415)
  (dl 246 245 lw5 415)
  (dl 274 273 lw6 499)
  (dl 312 311 lw2 564)
  (dl 352 351 lw 631)
  (dl 373 372 lw 631)
  (dl 451 450 lw 631)
  (dl 463 462 lw 631)
  (dl 159 158 lw3 367)
  (dl 173 172 lw3 367)
  (dl 232 231 lw5 415)
  (dl 239 238 lw5 415)
  (dl 288 287 lw6 499)
  (dl 295 294 lw6 499)
  (dl 359 358 lw 631)
  (dl 408 407 lw 631)
  (dl 470 469 lw 631)
  (dl 477 476 lw 631)
  (dl 484 483 lw 631)
  (dl 180 179 lw3 367)
  (dl 187 186 lw3 367)
  (dl 213 212 lw5 415)
  (dl 220 219 lw5 415)
  (dl 253 252 lw6 499)
  (dl 281 280 lw6 499)
  (dl 366 365 lw 631)
  (dl 380 379 lw 631)
  (dl 387 386 lw 631)
  (dl 415 414 lw 631)
  (dl 491 490 lw 631)
  (dl 208 207 lw5 415)
  (dl 260 259 lw6 499)
  (dl 307 306 lw2 564)
  (dl 394 393 lw 631)
  (dl 422 421 lw 631)
  (dl 201 200 lw5 415)
  (dl 267 266 lw6 499)
  (dl 401 400 lw 631)
  (dl 429 428 lw 631)
  (dl 194 193 lw5 415)
  (dl 434 433 lw 631)
  (dl 444 443 lw 631)
  (dl 300 299 lw2 564)
  (dl 439 438 lw 631)
  (dl 319 318 lw2 564)
  (dl 496 495 lw 631)
  (dl 326 325 "roundcuts.corners" 595)
  (dl 333 332 lw4 604)
  (dl 340 339 lw4 604)
  (dl 345 344 lw4 604)
  (dl 456 455 lw 631)
  (by kernel_rfl:PySem.W.nsIn (K P) mainGlobals "law" = some (some (.ref 510))) (by kernel_rfl:(K P).lookup 510=some (kf "law" fP 509 lw 631)) (by kernel_rfl:PySem.W.codeIn (K P) (.ref 509) "law" = true) (by kernel_rfl)
  (by kernel_rfl:PySem.W.nsIn (K P) mainGlobals "_law_sides_right" = some (some (.ref 503))) (by kernel_rfl:(K P).lookup 503=some (kf "_law_sides_right" yq 502 lw 631)) (by kernel_rfl:PySem.W.codeIn (K P) (.ref 502) "_law_sides_right" = true) (by kernel_rfl)
  (by kernel_rfl) (by kernel_rfl) (by kernel_rfl) (by kernel_rfl) (by kernel_rfl) (by kernel_rfl) (by kernel_rfl) (by kernel_rfl) (by kernel_rfl) (by kernel_rfl) (by kernel_rfl) (by kernel_rfl) (by kernel_rfl) (by kernel_rfl) (by kernel_rfl) (by kernel_rfl) (by kernel_rfl:PySem.W.nsIn (K P) mainGlobals "FAR" = some (some (.int 60001 417)))
  (by kernel_rfl) (by kernel_rfl) (by kernel_rfl) (by kernel_rfl) (by kernel_rfl) (by kernel_rfl) (by kernel_rfl) (by kernel_rfl) (by kernel_rfl) (by kernel_rfl) (by kernel_rfl)
  (t5 P) (by kernel_rfl) (by kernel_rfl) (by kernel_rfl) (by kernel_rfl) (by kernel_rfl) (by kernel_rfl) (by kernel_rfl) (by kernel_rfl) (by kernel_rfl) (by kernel_rfl) (by kernel_rfl) (by kernel_rfl) (by kernel_rfl)
  (aO P) (by kernel_rfl) (by kernel_rfl) (by kernel_rfl) (by kernel_rfl) (by kernel_rfl) (by kernel_rfl) (by kernel_rfl) (by kernel_rfl) (by kernel_rfl) (by kernel_rfl) (by kernel_rfl) (by kernel_rfl) (by kernel_rfl)
  (by kernel_rfl) (by decide) (fun _ X=>code_at X) (fun _ M=>xeD M)
theorem kin {P:Params}{h:Heap}(Y:(Kh pg P).In h):(K P).In h:=fun b o e=>Y b o (by
 show(((498,_)::K P):List _).lookup b=_
 rw[xi7]
 split
 ·rename_i q
  rw[beq_iff_eq.mp q] at e
  rw[show(K P).lookup 498=none by kernel_rfl] at e;cases e
 ·exact e)
theorem xhx {P:Params}{h:Heap}(Y:(Kh pg P).In h):h.get? 498=some { cls:=.none,data:=.fields #[] }:=Y _ _ (by kernel_rfl)
end K61
end
open PySem PySem.W PyProof.Rows
set_option maxRecDepth 100000 in
set_option maxHeartbeats 0 in
theorem PySem.Challenge.cw_roundcuts_k61_sides_and_fields_in_fields_holds : PySem.Challenge.rw_roundcuts_k61_sides_and_fields_in_fields.Holds := by
 w_on;o_law
 refine holds_open (q:=K61.vw) (XP:=XL K61.vw []) (YP:=Hook.says (K61.Hk _)) K61.left (Hook.of _) (Hook.keeps _) (fun s e=>xl_of s (Bool.and_eq_true_iff.mp e).1)
  XL.keeps rfl rfl rfl (fun s e=>recFacts_of (Bool.and_eq_true_iff.mp e).2) rfl (by assumption) (by decide +kernel) ⟨rfl,rfl,rfl,rfl,rfl,by decide +kernel⟩ ?hw ?hc
 case hw=>w_witness2
 exact L2.xbT (l:=PySem.Challenge.rw_roundcuts_k61_sides_and_fields_in_fields) (k:=14) (K:=K61.K) (x := "_law_script") (q := "_law_sides_right.<locals>.<lambda>") (T:=498) rfl rfl ⟨rfl,by decide,by decide⟩ (fun w h Y=>K61.kin (PySem.W.kIn_of Y)) (fun P=>by kernel_rfl) (fun w h Y=>K61.xhx (PySem.W.kIn_of Y)) (fun P=>by kernel_rfl)
  (fun w h X=>(K61.code_at X).isTable) (fun w mg fa h X G e=>K61.there X G e)
