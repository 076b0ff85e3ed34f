import PyProof.Rows.All
import Wide.All
import OpenK.AllK
import Wide.FinOn
import Lean
import PyProof.EqAt
import PyProof.EqKinds
import PyProof.TupleCall
import PyProof.ZipIter
import PyProof.NeData
import PyProof.P3Eq
import PyProof.EnumFor
import PyProof.EnumMake
import PyProof.Draws
import KE.KTryMore
import KE.KIsAll
import PyProof.ExcAttrAll.ValueError
import KE.KLam
import PySem.Challenge.RW_roundcuts_k11_least_cuts_of_directions
set_option Elab.async false
set_option linter.all false
set_option maxRecDepth 100000
set_option maxHeartbeats 4000000
set_option exponentiation.threshold 3000
set_option bootstrap.genMatcherCode false
set_option genSizeOfSpec false
set_option genInjectivity false
abbrev xjh:=@Bool.and_eq_true
abbrev xji:=@Bool.false_ne_true
abbrev xjj:=@Classical.byContradiction
abbrev xjk:=@Int.add_zero
abbrev xjl:=@Int.dvd_coe_gcd
abbrev xjm:=@Int.dvd_natAbs
abbrev xjn:=@Int.emod_lt_of_pos
abbrev xjo:=@Int.emod_nonneg
abbrev xjp:=@Int.eq_of_mul_eq_mul_right
abbrev xjq:=@Int.fdiv_eq_ediv_of_nonneg
abbrev xjr:=@Int.gcd_dvd_left
abbrev xjs:=@Int.gcd_dvd_right
abbrev xjt:=@Int.gcd_mul_left
abbrev xju:=@Int.gcd_pos_of_ne_zero_right
abbrev xjv:=@Int.le_of_lt
abbrev xjw:=@Int.le_of_mul_le_mul_left
abbrev xjx:=@Int.le_of_mul_le_mul_right
abbrev xjy:=@Int.le_refl
abbrev xjz:=@Int.lt_of_mul_lt_mul_right
abbrev xjA:=@Int.lt_or_le
abbrev xjB:=@Int.lt_trichotomy
abbrev xjC:=@Int.mul_comm
abbrev xjD:=@Int.mul_dvd_mul_left
abbrev xjE:=@Int.mul_ediv_cancel'
abbrev xjF:=@Int.mul_eq_zero
abbrev xjG:=@Int.mul_le_mul_of_nonneg_left
abbrev xjH:=@Int.mul_le_mul_of_nonneg_right
abbrev xjI:=@Int.mul_lt_mul_of_pos_right
abbrev xjJ:=@Int.mul_neg
abbrev xjK:=@Int.mul_neg_of_neg_of_pos
abbrev xjL:=@Int.mul_neg_of_pos_of_neg
abbrev xjM:=@Int.mul_one
abbrev xjN:=@Int.mul_pos
abbrev xjO:=@Int.mul_zero
abbrev xjP:=@Int.natAbs_mul
abbrev xjQ:=@Int.natCast_nonneg
abbrev xjR:=@Int.toNat_natCast
abbrev xjS:=@Int.zero_mul
abbrev xjT:=@List.Sublist.refl
abbrev xjU:=@List.Sublist.trans
abbrev xjV:=@List.all_eq_true
abbrev xjW:=@List.all_map
abbrev xjX:=@List.any_eq_true
abbrev xjY:=@List.append_assoc
abbrev xjZ:=@List.append_nil
abbrev xj0:=@List.cons_append
abbrev xj1:=@List.drop_eq_getElem_cons
abbrev xj2:=@List.drop_length
abbrev xj3:=@List.drop_zero
abbrev xj4:=@List.filterMap_cons
abbrev xj5:=@List.filter_cons
abbrev xj6:=@List.filter_cons_of_neg
abbrev xj7:=@List.filter_cons_of_pos
abbrev xj8:=@List.filter_eq_nil_iff
abbrev xj9:=@List.flatMap_append
abbrev xj_:=@List.flatten_cons
abbrev xka:=@List.foldl_append
abbrev xkb:=@List.foldl_cons
abbrev xkc:=@List.getD_eq_getElem?_getD
abbrev xkd:=@List.getElem?_append_left
abbrev xke:=@List.getElem?_eq_getElem
abbrev xkf:=@List.getElem?_eq_none
abbrev xkg:=@List.getElem?_eq_some_iff
abbrev xkh:=@List.getElem?_map
abbrev xki:=@List.getElem?_replicate
abbrev xkj:=@List.getElem?_set_ne
abbrev xkk:=@List.getElem?_set_self
abbrev xkl:=@List.getElem_mem
abbrev xkm:=@List.length_append
abbrev xkn:=@List.length_cons
abbrev xko:=@List.length_drop
abbrev xkp:=@List.length_eq_zero_iff
abbrev xkq:=@List.length_filter_le
abbrev xkr:=@List.length_map
abbrev xks:=@List.length_nil
abbrev xkt:=@List.length_replicate
abbrev xku:=@List.length_set
abbrev xkv:=@List.length_singleton
abbrev xkw:=@List.length_take
abbrev xkx:=@List.lookup_cons
abbrev xky:=@List.map_append
abbrev xkz:=@List.map_cons
abbrev xkA:=@List.map_map
abbrev xkB:=@List.mem_append
abbrev xkC:=@List.mem_append_left
abbrev xkD:=@List.mem_append_right
abbrev xkE:=@List.mem_cons
abbrev xkF:=@List.mem_cons_of_mem
abbrev xkG:=@List.mem_cons_self
abbrev xkH:=@List.mem_filter
abbrev xkI:=@List.mem_filterMap
abbrev xkJ:=@List.mem_iff_getElem
abbrev xkK:=@List.mem_map
abbrev xkL:=@List.mem_map_of_mem
abbrev xkM:=@List.mem_of_getElem?
abbrev xkN:=@List.mem_of_mem_take
abbrev xkO:=@List.mem_range
abbrev xkP:=@List.mem_singleton
abbrev xkQ:=@List.nil_append
abbrev xkR:=@List.nodup_append
abbrev xkS:=@List.nodup_cons
abbrev xkT:=@List.not_mem_nil
abbrev xkU:=@List.of_mem_zip
abbrev xkV:=@List.replicate_succ
abbrev xkW:=@List.singleton_sublist
abbrev xkX:=@List.size_toArray
abbrev xkY:=@List.sublist_append_iff
abbrev xkZ:=@List.sublist_append_right
abbrev xk0:=@List.take_append_drop
abbrev xk1:=@List.take_length
abbrev xk2:=@List.take_of_length_le
abbrev xk3:=@List.take_succ
abbrev xk4:=@List.zip_cons_cons
abbrev xk5:=@Nat.le_add_right
abbrev xk6:=@Nat.le_of_lt
abbrev xk7:=@Nat.le_refl
abbrev xk8:=@Nat.le_succ
abbrev xk9:=@Nat.le_trans
abbrev xk_:=@Nat.lt_irrefl
abbrev xla:=@Nat.lt_of_le_of_lt
abbrev xlb:=@Nat.lt_of_lt_of_le
abbrev xlc:=@Nat.lt_succ_of_lt
abbrev xld:=@Nat.lt_succ_self
abbrev xle:=@Nat.mul_le_mul_right
abbrev xlf:=@Nat.ne_of_gt
abbrev xlg:=@Nat.ne_of_lt
abbrev xlh:=@Nat.zero_le
abbrev xli:=@Option.getD_some
abbrev xlj:=@Option.some.inj
abbrev xlk:=@congrArg
abbrev xll:=@decide_eq_decide
abbrev xlm:=@decide_eq_false
abbrev xln:=@decide_eq_true
abbrev xlo:=@decide_eq_true_eq
abbrev xlp:=@decide_eq_true_iff
abbrev xlq:=@of_decide_eq_false
abbrev xlr:=@of_decide_eq_true
abbrev xls:=@or_false
noncomputable section
namespace L2
open PySem PySem.Spec PyProof.Rows
abbrev Key:=Sum Int Str
def xgp:Key→Value→Bool
 | .inl k,v=>Value.isInt k v
 | .inr x,v=>Value.isStrOf x v
def xiX (w:World):Key→Int
 | .inl k=>hashInt k
 | .inr x=>hashStr w x
theorem y9:∀ {k:Key} {v:Value},xgp k v=true→(∃i t,k=Sum.inl i∧v=Value.int i t)∨(∃x t,k=Sum.inr x∧v=Value.str x t)
 | .inl i,v,h=>by
  obtain⟨t,e⟩:=Value.isInt_shape (k:=i) (v:=v) h
  exact .inl ⟨i,t,rfl,e⟩
 | .inr x,v,h=>by
  obtain⟨t,e⟩:=Value.isStrOf_shape (x:=x) (v:=v) h
  exact .inr ⟨x,t,rfl,e⟩
theorem xgo (a b:Int):decide ((Sum.inl a:Key)=Sum.inl b)=(a == b):=by
 by_cases e:a=b
 ·subst e;simp
 ·have h:¬(Sum.inl a:Key)=Sum.inl b:=fun q=>e (Sum.inl.inj q)
  rw[xlm h]
  exact(beq_eq_false_iff_ne.mpr e).symm
theorem xf3 (a b:Str):decide ((Sum.inr a:Key)=Sum.inr b)=decide (a=b):=by
 by_cases e:a=b
 ·subst e;simp
 ·have h:¬(Sum.inr a:Key)=Sum.inr b:=fun q=>e (Sum.inr.inj q)
  rw[xlm h,xlm e]
theorem xgA (a:Int)(b:Str):decide ((Sum.inl a:Key)=Sum.inr b)=false:=xlm (fun q=>nomatch q)
theorem xgZ (a:Str)(b:Int):decide ((Sum.inr a:Key)=Sum.inl b)=false:=xlm (fun q=>nomatch q)
def pA (prog:Program)(w:World):PySem.KeyKind prog w Key where
 is:=xgp
 hash:=xiX w
 inj:=fun v a b ha hb=>by
  rcases y9 ha with ⟨i,t,rfl,rfl⟩ | ⟨x,t,rfl,rfl⟩
  ·rcases y9 hb with ⟨j,u,rfl,e⟩ | ⟨y,u,rfl,e⟩
   ·injection e with e1 _;rw[e1]
   ·exact nomatch e
  ·rcases y9 hb with ⟨j,u,rfl,e⟩ | ⟨y,u,rfl,e⟩
   ·exact nomatch e
   ·injection e with e1 _;rw[e1]
 byValue:=fun k v h=>by
  rcases y9 h with ⟨i,t,rfl,rfl⟩ | ⟨x,t,rfl,rfl⟩<;>rfl
 pyHash:=fun hv h=>by
  rcases y9 hv with ⟨i,t,rfl,rfl⟩ | ⟨x,t,rfl,rfl⟩
  ·exact wpAny_pyHash_int h
  ·exact wpAny_pyHash_str h
 eqBool:=fun hu hv h=>by
  rcases y9 hu with ⟨i,t,rfl,rfl⟩ | ⟨x,t,rfl,rfl⟩
  ·rcases y9 hv with ⟨j,u,rfl,rfl⟩ | ⟨y,u,rfl,rfl⟩
   ·rw[xgo] at h;exact wpAny_eqBool_int h
   ·rw[xgA] at h;exact SeqAt.EqAt.int_str i t y u _ _ _ _ h
  ·rcases y9 hv with ⟨j,u,rfl,rfl⟩ | ⟨y,u,rfl,rfl⟩
   ·rw[xgZ] at h;exact SeqAt.EqAt.str_int x t j u _ _ _ _ h
   ·rw[xf3] at h;exact wpAny_eqBool_str h
 «strs» := fun k x t v h=>by
  rcases y9 h with ⟨i,u,rfl,e⟩ | ⟨y,u,rfl,e⟩
  ·exact nomatch e
  ·injection e with e1 _
   subst e1
   cases v<;>rfl
end L2
namespace L2
open PySem PySem.Spec PyProof.Rows
inductive V where
 | non | bl (b:Bool) | int (i:Int) | str (x:Str) | byt (b:Array UInt8) | flt (b:UInt64) | ref (a:Addr) | ty (n:String)
 deriving DecidableEq
def RelV:V→Value→Prop
 | .non,u=>u=Value.none
 | .bl b,u=>u=Value.bool b
 | .int i,u=>∃t,u=Value.int i t
 | .str x,u=>∃t,u=Value.str x t
 | .byt b,u=>∃t,u=Value.bytes b t
 | .flt b,u=>∃t,u=Value.float b t
 | .ref a,u=>u=Value.ref a
 | .ty n,u=>u=Value.type n
abbrev zh:List V→List Value→Prop:=Paired RelV
theorem zh.length (r:zh xs us):xs.length=us.length:=Paired.length r
theorem zh.get:∀ {xs:List V} {us:List Value} {i:Nat} {x:V},zh xs us→xs[i]? = some x→∃u,us[i]? = some u∧RelV x u
 | _,_,_,_,.nil,e=>by simp at e
 | _,_,0,_,.cons r _,e=>by simp at e;subst e;exact⟨_,rfl,r⟩
 | _,_,i+1,x,.cons _ t,e=>by
  obtain⟨u,h1,h2⟩:=zh.get (i:=i) (x:=x) t (by simpa using e)
  exact⟨u,by simpa using h1,h2⟩
theorem zh.set (r:RelV x u):∀ {xs:List V} {us:List Value} (i:Nat),zh xs us→zh (xs.set i x) (us.set i u)
 | _,_,_,.nil=>.nil
 | _,_,0,.cons _ t=>.cons r t
 | _,_,i+1,.cons q t=>.cons q (zh.set r i t)
theorem zh.append:∀ {xs ys:List V} {us ws:List Value},zh xs us→zh ys ws→zh (xs++ys) (us++ws)
 | _,_,_,_,.nil,s=>s
 | _,_,_,_,.cons r t,s=>.cons r (zh.append t s)
theorem zh.take:∀ {xs:List V} {us:List Value} (n:Nat),zh xs us→zh (xs.take n) (us.take n)
 | _,_,0,_=>.nil
 | _,_,_+1,.nil=>.nil
 | _,_,n+1,.cons r t=>.cons r (zh.take n t)
theorem zh.drop:∀ {xs:List V} {us:List Value} (n:Nat),zh xs us→zh (xs.drop n) (us.drop n)
 | _,_,0,r=>r
 | _,_,_+1,.nil=>.nil
 | _,_,n+1,.cons _ t=>zh.drop n t
def xhY:Option V→Option Value→Prop
 | some v,some u=>RelV v u
 | none,none=>True
 | _,_=>False
def KV:List (κ×V)→List (κ×Value)→Prop:=Paired fun(p:κ×V) (q:κ×Value)=>p.1=q.1∧RelV p.2 q.2
def kV:Key→V
 | .inl i=>.int i
 | .inr x=>.str x
inductive HO where
  | lst (xs:List V)
  | tup (xs:List V)
  | dK (kvs:List (Key×V)) | dT (kvs:List (List Key×V))
  | set (S:Int→Bool) (n:Nat)
  | ins (C dx:Addr) (fs:List (Str×V))
  | own (x:Addr)
  | xd (fs:List (Str×V))
  | met (f x:Addr)
  | rng (lo hi:Int)
  | frz (o:Obj) (u:HO)
  | tbl (ps:Array Value)
 | tb (q:Str)
  | ext (φ:Heap→Prop)
abbrev Hp:=Addr→Option HO
def upd (H:Hp)(a:Addr)(o:HO):Hp:=fun b=>if b=a then some o else H b
theorem x9:upd H a o a=some o:=by unfold upd;rw[if_pos rfl]
theorem xX (h:b≠a):upd H a o b=H b:=by unfold upd;rw[if_neg h]
theorem xgG {H:Hp}{a b:Addr}{o u:HO}(h:H a=some o)(h':H b=some u)(d:o≠u):a≠b:=by
 intro e;subst e;rw[h] at h';exact d (xlj h')
theorem xI {H:Hp}{a b:Addr}{o:HO}(h:H a=some o)(h':H b=none):a≠b:=by
 intro e;subst e;rw[h] at h';cases h'
section
variable (P:Program) (w:World)
def uJ (H:Hp)(h:Heap)(a:Addr):HO→Prop
 | .lst xs=>xs.length≤sizeLine∧∃(its:List Value) (n:Nat),zh xs its∧h.get? a=some { cls:=.type "list", data:=.seq its.toArray n }
 | .tup xs=>xs.length≤sizeLine∧∃its:List Value,zh xs its∧IsTup h a its.toArray
 | .dK kvs=>kvs.length≤sizeLine∧(a == sysModules)=false∧∃vs,KV kvs vs∧h.DictOf (pA P w) a vs
 | .dT kvs=>kvs.length≤sizeLine∧(a == sysModules)=false∧∃xs:List (List Key×Addr×Value),
   Paired (fun(p:List Key×V) (q:List Key×Addr×Value)=>p.1=q.1∧H q.2.1=some (.tup (p.1.map kV))∧RelV p.2 q.2.2) kvs xs ∧
   ∃o es ep,h.get? a=some o∧o.ExactDict∧o.data=.dict es ep∧es.toList=xs.map (entryOfKey (tupleKind (pA P w)))∧(xs.map (·.1)).Nodup
 | .set S n=>h.SetOf (intKind P w) a S n
 | .ins C dx fs=>H dx=some (.own a)∧fs.length≤1000∧dx≠a∧h.get? a=some (PySem.W.instObj C dx) ∧
   ∃mA,h.Ns1 dx mA∧(∀f,xhY (fs.lookup f) (mA f))∧PySem.Within mA (fs.map (·.1))
 | .own _=>∃o,h.get? a=some o
 | .xd fs=>∃mA,h.Ns1 a mA∧∀f,xhY (fs.lookup f) (mA f)
 | .rng lo hi=>∃t u v,h.get? a=some { cls:=.type "range", data:=.fields #[.int lo t,.int hi u,.int 1 v] }
 | .frz o u=>h.get? a=some o∧uJ H h a u
 | .tbl ps=>h.get? a=some { cls:=.none,data:=.fields ps }
 | .tb q=>∃ps:Array Value,h.get? a=some { cls:=.none,data:=.fields ps }∧TriplesOk ps.toList∧∀pos cv,codeAmong pos ps.toList=some cv →
   ∃c oc vs t,cv=.ref c∧H c=some (.frz oc (.own c))∧oc.data=.fields vs∧vs[1]? = some (.str q t)
 | .met f x=>h.get? a=some (PySem.W.methodObj (.ref f) (.ref x))
 | .ext φ=>φ h∧(∃o,h.get? a=some o)∧∀h1 h2:Heap,φ h1→(∀o,h1.get? a=some o→h2.get? a=some o)→φ h2
def HOk (H:Hp)(h:Heap):Prop:=∀a o,H a=some o→uJ P w H h a o
end
section
variable {P:Program} {w:World} {H H':Hp} {h h':Heap} {a:Addr} {o:HO}
theorem uJ.lt (x:uJ P w H h a o):a<h.objs.size:=by
 cases o with
 | lst xs=>obtain⟨_,_,_,_,e⟩:=x;exact Heap.lt_size e
 | tup xs=>obtain⟨_,_,_,p⟩:=x;exact p.lt
 | dK kvs=>obtain⟨_,_,_,_,o,_,_,e,_⟩:=x;exact Heap.lt_size e
 | dT kvs=>obtain⟨_,_,_,_,o,_,_,e,_⟩:=x;exact Heap.lt_size e
 | set S n=>obtain⟨o,_,_,_,e,_⟩:=x;exact Heap.lt_size e
 | ins C dx fs=>obtain⟨_,_,_,e,_⟩:=x;exact Heap.lt_size e
 | own y=>obtain⟨_,e⟩:=x;exact Heap.lt_size e
 | xd fs=>obtain⟨_,⟨_,_,_,e,_⟩,_⟩:=x;exact Heap.lt_size e
 | rng lo hi=>obtain⟨_,_,_,e⟩:=x;exact Heap.lt_size e
 | frz ob u=>obtain⟨e,_⟩:=x;exact Heap.lt_size e
 | tbl ps=>exact Heap.lt_size (show h.get? a=some _ from x)
 | tb q=>obtain⟨_,e,_⟩:=x;exact Heap.lt_size e
 | met f y=>exact Heap.lt_size (show h.get? a=some _ from x)
 | ext φ=>obtain⟨_,⟨_,e⟩,_⟩:=x;exact Heap.lt_size e
theorem Paired.mapP:∀ {l₁:List α} {l₂:List β},Paired F l₁ l₂→(∀a b,F a b→G a b)→Paired G l₁ l₂
 | _,_,.nil,_=>.nil
 | _,_,.cons r t,f=>.cons (f _ _ r) (Paired.mapP t f)
theorem uJ.stay (x:uJ P w H h a o)(k:∀b u,(b=a∨H b=some (.own a))→h.get? b=some u→h'.get? b=some u)
  (ho:∀b,H b=some (.own a)→H' b=some (.own a)) (ht:∀b xs,H b=some (.tup xs)→H' b=some (.tup xs)) (hf:∀b o u,H b=some (.frz o u)→H' b=some (.frz o u)):uJ P w H' h' a o:=by
 induction o with
 | lst xs=>obtain⟨z,its,n,r,e⟩:=x;exact⟨z,its,n,r,k _ _ (.inl rfl) e⟩
 | tup xs=>obtain⟨z,its,r,ob,e,c⟩:=x;exact⟨z,its,r,ob,k _ _ (.inl rfl) e,c⟩
 | dK kvs=>obtain⟨z,y,vs,r,ob,es,ep,e,c⟩:=x;exact⟨z,y,vs,r,ob,es,ep,k _ _ (.inl rfl) e,c⟩
 | dT kvs =>
  obtain⟨z,y,xs,r,ob,es,ep,e,c⟩:=x
  exact⟨z,y,xs,Paired.mapP r fun p q z=>⟨z.1,ht _ _ z.2.1,z.2.2⟩,ob,es,ep,k _ _ (.inl rfl) e,c⟩
 | set S n=>obtain⟨ob,es,ep,t,e,c⟩:=x;exact⟨ob,es,ep,t,k _ _ (.inl rfl) e,c⟩
 | ins C dx fs =>
  obtain⟨d,z,ne,e,mA,⟨od,es,ep,e2,c⟩,r⟩:=x
  exact⟨ho _ d,z,ne,k _ _ (.inl rfl) e,mA,⟨od,es,ep,k _ _ (.inr d) e2,c⟩,r⟩
 | own y=>obtain⟨ob,e⟩:=x;exact⟨ob,k _ _ (.inl rfl) e⟩
 | xd fs=>obtain⟨mA,⟨od,es,ep,e,c⟩,r⟩:=x;exact⟨mA,⟨od,es,ep,k _ _ (.inl rfl) e,c⟩,r⟩
 | rng lo hi=>obtain⟨t,u,v,e⟩:=x;exact⟨t,u,v,k _ _ (.inl rfl) e⟩
 | frz ob u ih=>obtain⟨e,q⟩:=x;exact⟨k _ _ (.inl rfl) e,ih q⟩
 | tbl ps =>
  have e:h.get? a=some { cls:=.none,data:=.fields ps }:=x
  show h'.get? a=some { cls:=.none,data:=.fields ps }
  exact k a _ (.inl rfl) e
 | tb q =>
  obtain⟨ps,e,z,y⟩:=x
  exact⟨ps,k _ _ (.inl rfl) e,z,fun pos cv e=>let ⟨c,oc,vs,t,e1,e2,e3⟩:=y pos cv e;⟨c,oc,vs,t,e1,hf _ _ _ e2,e3⟩⟩
 | met f y =>
  have e:h.get? a=some (PySem.W.methodObj (.ref f) (.ref y)):=x
  show h'.get? a=some (PySem.W.methodObj (.ref f) (.ref y))
  exact k a _ (.inl rfl) e
 | ext φ=>obtain⟨p,⟨o,e⟩,st⟩:=x;exact⟨st _ _ p fun o q=>k _ _ (.inl rfl) q,⟨o,k _ _ (.inl rfl) e⟩,st⟩
theorem HOk.lt (x:HOk P w H h)(e:H a=some o):a<h.objs.size:=(x a o e).lt
theorem HOk.fresh (x:HOk P w H h)(e:h.objs.size≤a):H a=none:=by
 cases q:H a with
 | none=>rfl
 | some u=>exact absurd (xlb (x.lt q) e) (xk_ _)
theorem HOk.kept (x:HOk P w H h)(k:∀b u,h.get? b=some u→h'.get? b=some u):HOk P w H h':=fun a o e =>
 (x a o e).stay (fun b u _ q=>k b u q) (fun _ q=>q) (fun _ _ q=>q) fun _ _ _ q=>q
theorem HOk.laid (x:HOk P w H h)(k:∀b u,h.get? b=some u→h'.get? b=some u)(hp:h.objs.size≤a)(new:uJ P w (upd H a o) h' a o):HOk P w (upd H a o) h':=fun b u e=>by
 have hn:=x.fresh hp
 by_cases hb:b=a
 ·subst hb;rw[x9] at e;cases e;exact new
 ·rw[xX hb] at e
  exact(x b u e).stay (fun c v _ q=>k c v q) (fun c q=>by rw[xX (xI q hn)];exact q) (fun c xs q=>by rw[xX (xI q hn)];exact q) fun c o u q=>by rw[xX (xI q hn)];exact q
end
def Rd (H:Hp)(a:Addr)(u:HO):Prop:=H a=some u∨∃o,H a=some (.frz o u)
theorem Rd.ok (r:Rd H a u)(x:HOk P w H h):uJ P w H h a u:=by
 rcases r with r | ⟨o,r⟩
 ·exact x a u r
 ·obtain⟨_,q⟩:=x a _ r
  exact q
def Mut:Option HO→Prop
 | some (.lst _)=>True
 | some (.dK _)=>True
 | some (.dT _)=>True
 | some (.set _ _)=>True
 | some (.ins _ _ _)=>True
 | some (.ext _)=>True
 | some (.tb _)=>True
 | _=>False
section
variable {P:Program} {w:World} {H:Hp} {h h':Heap} {x e:Addr} {o':HO}
theorem HOk.write (ok:HOk P w H h)(mu:Mut (H x))(he:e=x∨H e=some (.own x))(k:∀b u,b≠e→h.get? b=some u→h'.get? b=some u)(heo:∃u,h'.get? e=some u)
  (new:uJ P w (upd H x o') h' x o'):HOk P w (upd H x o') h':=fun b u q=>by
 have nown:∀c y,H c=some (.own y)→c≠x:=fun c y r z=>by subst z;rw[r] at mu;exact mu
 have ntup:∀c xs,H c=some (.tup xs)→c≠x:=fun c xs r z=>by subst z;rw[r] at mu;exact mu
 have nfrz:∀c o u,H c=some (.frz o u)→c≠x:=fun c o u r z=>by subst z;rw[r] at mu;exact mu
 by_cases hb:b=x
 ·subst hb;rw[x9] at q;cases q;exact new
 ·rw[xX hb] at q
  by_cases hbe:b=e
  ·have q':H b=some (.own x):=by
    rcases he with z | z
    ·exact absurd (hbe.trans z) hb
    ·rw[hbe];exact z
   rw[q] at q';cases q'
   obtain⟨v,hv⟩:=heo
   exact⟨v,by rw[hbe];exact hv⟩
  ·refine(ok b u q).stay (fun c v hc r=>k c v ?_ r) (fun c r=>by rw[xX (nown c b r)];exact r) (fun c xs r=>by rw[xX (ntup c xs r)];exact r) fun c o u r=>by rw[xX (nfrz c o u r)];exact r
   rcases hc with rfl | hc
   ·exact hbe
   ·rintro rfl
    rcases he with z | z
    ·exact nown c b hc z
    ·rw[hc] at z;cases z;exact hb rfl
end
structure Un (fs ex:List Addr)(H H':Hp)(h h':Heap):Prop where
 keep:∀b o,h.get? b=some o→H b=none→b∉fs→b∉ex→h'.get? b=some o
 slot:∀b o,h.get? b=some o→H b=none→b∈fs→b∉ex→∃sl,h'.get? b=some { o with slots:=sl }
 free:∀b o,h.get? b=some o→H b=none→b∉ex→H' b=none
 there:∀b o,h.get? b=some o→b∉ex→∃o',h'.get? b=some o'
 tups:∀b xs,H b=some (.tup xs)→H' b=some (.tup xs)
 frzs:∀b o u,H b=some (.frz o u)→H' b=some (.frz o u)
 tbls:∀b ps,H b=some (.tbl ps)→∃more,H' b=some (.tbl (ps++more))
section
variable {fs fs' ex ex':List Addr} {H H1 H2:Hp} {h h1 h2 h':Heap} {a x e:Addr} {o:HO}
theorem Un.any (u:Un fs ex H H1 h h1)(q:h.get? b=some ob)(n:H b=none)(hx:b∉ex):∃sl,h1.get? b=some { ob with slots:=sl }:=by
 by_cases hb:b∈fs
 ·exact u.slot b ob q n hb hx
 ·exact⟨ob.slots,u.keep b ob q n hb hx⟩
theorem Un.kept (k:∀b u,h.get? b=some u→h'.get? b=some u):Un fs ex H H h h' :=
 ⟨fun b ob q _ _ _=>k b ob q,fun b ob q _ _ _=>⟨ob.slots,k b ob q⟩,fun _ _ _ n _=>n,fun b ob q _=>⟨ob,k b ob q⟩,fun _ _ q=>q,fun _ _ _ q=>q,fun _ ps q=>⟨#[],by rw[q];simp⟩⟩
theorem Un.refl:Un fs ex H H h h:=Un.kept fun _ _ q=>q
theorem Un.laid (k:∀b u,h.get? b=some u→h'.get? b=some u)(hp:h.objs.size≤a)(hn:H a=none):Un fs ex H (upd H a o) h h' where
 keep:=fun b u q _ _ _=>k b u q
 slot:=fun b u q _ _ _=>⟨u.slots,k b u q⟩
 free:=fun b u q n _=>by rw[xX (xlg (xlb (Heap.lt_size q) hp))];exact n
 there:=fun b u q _=>⟨u,k b u q⟩
 tups:=fun b xs q=>by rw[xX (xI q hn)];exact q
 frzs:=fun b u xs q=>by rw[xX (xI q hn)];exact q
 tbls:=fun b ps q=>⟨#[],by rw[xX (xI q hn),q];simp⟩
theorem Un.write (mu:Mut (H x))(he:e=x∨H e=some (.own x))(k:∀b u,b≠e→h.get? b=some u→h'.get? b=some u)(heo:∃u,h'.get? e=some u):Un fs ex H (upd H x o) h h':=by
 have hx:∀b,H b=none→b≠x:=fun b n z=>by subst z;rw[n] at mu;exact mu
 have hb:∀b,H b=none→b≠e:=fun b n z=>by
  subst z
  rcases he with r | r
  ·exact hx b n r
  ·rw[n] at r;cases r
 have hm:∀b u,H b=some u→¬Mut (some u)→b≠x:=fun b u q nm z=>by subst z;rw[q] at mu;exact nm mu
 refine⟨fun b u q n _ _=>k b u (hb b n) q,fun b u q n _ _=>⟨u.slots,k b u (hb b n) q⟩,fun b u q n _=>by rw[xX (hx b n)];exact n,fun b u q _=>?_,
  fun b xs q=>by rw[xX (hm b _ q fun z=>z)];exact q,fun b u xs q=>by rw[xX (hm b _ q fun z=>z)];exact q,fun b ps q=>⟨#[],by rw[xX (hm b _ q fun z=>z),q];simp⟩⟩
 by_cases hbe:b=e
 ·subst hbe;exact heo
 ·exact⟨u,k b u hbe q⟩
end
def trk (h:Heap)(H:Hp):List Addr:=(List.range h.objs.size).filter fun a=>(H a).isSome
def pN (h:Heap)(H:Hp):Heap:=PySem.W.hideAll h (trk h H)
theorem m7 (h:Heap)(H:Hp):(pN h H).objs.size=h.objs.size:=PySem.W.hideAll_size _ _
theorem p6 (e:h.get? b=some o)(n:H b=none):(pN h H).get? b=some o :=
 PySem.W.hideAll_get _ e fun hm=>by
  have q:(H b).isSome=true:=(xkH.mp hm).2
  rw[n] at q;simp at q
theorem xaH (e:(pN h H).get? b=some o):h.get? b=some o∧H b=none:=by
 have e':h.get? b=some o:=PySem.W.of_hideAll (trk h H) e
 refine⟨e',?_⟩
 cases q:H b with
 | none=>rfl
 | some x =>
  have hm:b∈trk h H:=xkH.mpr ⟨xkO.mpr (Heap.lt_size e'),by simp[q]⟩
  have z:(pN h H).get? b=none:=PySem.W.hideAll_none (trk h H) hm
  rw[z] at e;cases e
def xe9 (g h:Heap)(L:Addr):List (Addr×Obj):=(List.range h.objs.size).filterMap fun a=>if a=L∨(g.get? a).isSome=true then none else(h.get? a).map fun o=>(a,o)
def rest (g h:Heap)(L d:Addr):List (Addr×Obj):=(xe9 g h L).filter fun p=>decide (p.1≠d)
end L2
namespace L2
open PySem PySem.Spec PyProof.Rows
structure Mod (K:PySem.W.Frag)(mg:Str→Option Value)(base:Heap):Prop where
 kin:K.In base
 glob:base.Ns mainGlobals mg
 blt:∃mb,base.Ns builtinsNs mb∧∀x:Str,x ≠ "__name__" → mb x=bootBuiltins x
 nolimit:base.NoLimit
structure Cx where
 prog:Program
 w:World
 K:PySem.W.Frag
 mg:Str→Option Value
 base:Heap
 A:Around
 N:List Str
 s₀:Shared
 H₀:Hp
 env:Env
 outer:List Env
 stack:List Env
 ex:List Addr
 fn:Str→Bool
 calm:Bool
 pn:List (Addr×Obj)
 xe:Value→Shared→Prop
def frs (l:List Env):List Addr:=l.filterMap (·.frame)
abbrev Cx.fs (X:Cx):List Addr:=frs X.outer
def Vis (sc:Scope)(x:Str):Prop:=sc.names.lookup x=some .local∨sc.names.lookup x=some .cell∨sc.names.lookup x=some .free
def Loc (sc:Scope)(x:Str):Prop:=sc.names.lookup x=some .local∨sc.names.lookup x=some .cell
def Look (env:Env)(h:Heap)(m:Str→Option Value)(x:Str)(u:Value):Prop :=
 (env.kindOf x=some .local∧m x=some u)∨((env.kindOf x=some .cell∨env.kindOf x=some .free)∧∃c,env.cells.lookup x=some c∧h.IsCell c (some u))
structure Cx.Ok (X:Cx):Prop where
 mod:Mod X.K X.mg X.base
 kind:X.env.scope.kind=.function
 glob:X.env.globals=mainGlobals
 blt:X.env.builtins=builtinsNs
 above:X.s₀.heap.objs.size≤X.env.locals
 inj:∀x y c,X.env.cells.lookup x=some c→X.env.cells.lookup y=some c→x=y
 has:∀x,(X.env.kindOf x=some .cell∨X.env.kindOf x=some .free)→∃c,X.env.cells.lookup x=some c
 cab:∀x c,X.fn x=true→X.env.cells.lookup x=some c→X.s₀.heap.objs.size≤c
 hd:X.calm=true→X.A.handled=none
 frames:X.A.frames=some X.stack
 stk:X.stack=X.outer∨(X.stack=X.env::X.outer∧X.env.frame=some X.env.locals)
 exf:∀b∈X.ex,b≠X.env.locals∧∀x c,X.env.cells.lookup x=some c→c≠b
 bs:∀b o,X.base.get? b=some o→X.s₀.heap.get? b=some o∧X.H₀ b=none
 bsz:X.base.objs.size≤X.s₀.heap.objs.size
 noex:∀b o,X.base.get? b=some o→b∉X.ex
 exfs:∀b∈X.ex,b∉X.fs
 funs:X.s₀.heap.FunFrames X.base X.outer
 frf:∀b∈X.fs,X.H₀ b=none
structure Inv (X:Cx)(pins:List (Addr×Obj))(σ:List (Option V))(H:Hp)(s:Shared):Prop where
 ok:X.Ok
 os:s.os=X.s₀.os
 bare:AllBare s.gens
 base:Un X.fs X.ex X.H₀ H X.s₀.heap s.heap
 loc:∃m,s.heap.Ns X.env.locals m∧∀(i:Nat) (x:Str) (v:V),X.N[i]? = some x→σ[i]? = some (some v)→Vis X.env.scope x→∃u,RelV v u∧Look X.env s.heap m x u
 cell:∀x c,X.env.cells.lookup x=some c→∃v,s.heap.IsCell c v
 free:H X.env.locals=none
 freeC:∀x c,X.env.cells.lookup x=some c→H c=none
 pin:∀p∈X.pn++pins,s.heap.get? p.1=some p.2∧H p.1=none∧p.1≠X.env.locals∧p.1∉X.fs∧∀v,p.2.data≠.cell v
 hok:HOk X.prog X.w H s.heap
 len:σ.length=X.N.length
section
variable {X:Cx} {pins:List (Addr×Obj)} {σ:List (Option V)} {H H':Hp} {s:Shared} {h':Heap}
theorem Cx.Ok.nofr (ok:X.Ok)(e:X.base.get? b=some o):b∉X.fs:=fun hb=>by
 have:=(ok.funs.mem hb).1
 rw[e] at this;cases this
theorem Inv.bs (I:Inv X pins σ H s):∀b o,X.base.get? b=some o→s.heap.get? b=some o∧H b=none:=fun b o e =>
 ⟨I.base.keep b o (I.ok.bs b o e).1 (I.ok.bs b o e).2 (I.ok.nofr e) (I.ok.noex b o e),I.base.free b o (I.ok.bs b o e).1 (I.ok.bs b o e).2 (I.ok.noex b o e)⟩
theorem Inv.bk (I:Inv X pins σ H s):∀b o,X.base.get? b=some o→s.heap.get? b=some o:=fun b o e=>(I.bs b o e).1
theorem Inv.mod (I:Inv X pins σ H s):Mod X.K X.mg X.base:=I.ok.mod
theorem Inv.kIn (I:Inv X pins σ H s):X.K.In s.heap:=I.ok.mod.kin.keeps I.bk
theorem Inv.lt (I:Inv X pins σ H s):X.env.locals<s.heap.objs.size:=let ⟨_,hn,_⟩:=I.loc;hn.lt
theorem Inv.sz (I:Inv X pins σ H s):X.s₀.heap.objs.size≤s.heap.objs.size:=xk9 I.ok.above (xk6 I.lt)
theorem Inv.nofs (I:Inv X pins σ H s)(h:s.heap.objs.size≤a):a∉X.fs:=fun hb=>by
 obtain⟨_,o,ho,_⟩:=I.ok.funs.mem hb
 exact absurd (xlb (Heap.lt_size ho) (xk9 I.sz h)) (xk_ _)
theorem Inv.cne (I:Inv X pins σ H s):∀x c,X.env.cells.lookup x=some c→c≠X.env.locals:=fun x c e z=>by
 obtain⟨v,o,ho,hd⟩:=I.cell x c e
 obtain⟨m,⟨o',es,ep,ho',hd',_⟩,_⟩:=I.loc
 rw[z,ho'] at ho;cases ho;rw[hd'] at hd;cases hd
theorem Inv.funs (I:Inv X pins σ H s):s.heap.FunFrames X.base X.outer:=by
 have all:∀(l:List Env),(∀b∈frs l,b∈X.fs)→X.s₀.heap.FunFrames X.base l→s.heap.FunFrames X.base l:=by
  intro l
  induction l with
  | nil=>intro _ _;trivial
  | cons env r ih =>
   intro hs hl
   obtain⟨hk,⟨L,o,hf,hn,ho,hd⟩,hr⟩:=hl
   have hL:L∈X.fs:=hs L (by unfold frs;rw[xj4,hf];exact xkG)
   obtain⟨sl,e⟩:=I.base.slot L o ho (I.ok.frf L hL) hL fun z=>I.ok.exfs L z hL
   exact⟨hk,⟨L,_,hf,hn,e,hd⟩,ih (fun b hb=>hs b (by unfold frs;rw[xj4,hf];exact xkF _ hb)) hr⟩
 exact all X.outer (fun _ hb=>hb) I.ok.funs
theorem Inv.stack (I:Inv X pins σ H s):s.heap.FunFrames X.base X.stack:=by
 rcases I.ok.stk with e | ⟨e,hf⟩
 ·rw[e];exact I.funs
 ·rw[e]
  obtain⟨m,hn,_⟩:=I.loc
  refine .cons (by rw[I.ok.kind];decide) hf hn ?_ I.funs
  exact Heap.get?_none_of_le (xk9 I.ok.bsz I.ok.above)
theorem Inv.stkSub (I:Inv X pins σ H s):∀b∈frs X.stack,b∈X.env.locals::X.fs:=fun b hb=>by
 rcases I.ok.stk with e | ⟨e,hf⟩
 ·rw[e] at hb;exact xkF _ hb
 ·rw[e] at hb
  unfold frs at hb
  rw[xj4,hf] at hb
  exact hb
theorem Inv.stkFree (I:Inv X pins σ H s):∀b∈frs X.stack,H b=none:=fun b hb=>by
 rcases xkE.mp (I.stkSub b hb) with e | hb
 ·rw[e];exact I.free
 ·obtain⟨_,o,ho,_⟩:=I.ok.funs.mem hb
  exact I.base.free b o ho (I.ok.frf b hb) fun z=>I.ok.exfs b z hb
theorem Inv.step {g':Array GenState}{t':Nat}{d':Drawn}{ch:List Addr}(I:Inv X pins σ H s)
  (hch:∀b∈ch,(b∈X.ex∨X.s₀.heap.objs.size≤b)∧b≠X.env.locals∧(∀x c,X.env.cells.lookup x=some c→c≠b)∧∀p∈X.pn++pins,p.1≠b)
  (keep:∀b o,b≠X.env.locals→b∉X.fs→b∉ch→s.heap.get? b=some o→H b=none→h'.get? b=some o)
  (slot:∀b o,b≠X.env.locals→b∈X.fs→b∉ch→s.heap.get? b=some o→H b=none→∃sl,h'.get? b=some { o with slots:=sl }) (free:∀b o,b∉ch→s.heap.get? b=some o→H b=none→H' b=none)
  (there:∀b o,b∉ch→s.heap.get? b=some o→∃o',h'.get? b=some o')
  (tups:∀b xs,H b=some (.tup xs)→H' b=some (.tup xs)) (frzs:∀b o u,H b=some (.frz o u)→H' b=some (.frz o u)) (tbls:∀b ps,H b=some (.tbl ps)→∃more,H' b=some (.tbl (ps++more)))
  (ns:∀m,s.heap.Ns X.env.locals m→h'.Ns X.env.locals m) (hok:HOk X.prog X.w H' h') (hg:AllBare g') :
  Inv X pins σ H' { s with heap:=h',gens:=g',drawn:=d',toks:=t' }:=by
 have neL:∀b o,X.s₀.heap.get? b=some o→b≠X.env.locals:=fun b o e=>xlg (xlb (Heap.lt_size e) I.ok.above)
 have neC:∀b o,X.s₀.heap.get? b=some o→b∉X.ex→b∉ch:=fun b o e hx hb=>by
  rcases(hch b hb).1 with z | z
  ·exact hx z
  ·exact absurd (xlb (Heap.lt_size e) z) (xk_ _)
 have cellK:∀x c,X.env.cells.lookup x=some c→∀v,s.heap.IsCell c v→h'.IsCell c v:=fun x c e v ⟨o,ho,hd⟩=>by
  have nch:c∉ch:=fun z=>(hch c z).2.2.1 x c e rfl
  by_cases hc:c∈X.fs
  ·obtain⟨sl,q⟩:=slot c o (I.cne x c e) hc nch ho (I.freeC x c e)
   exact⟨_,q,hd⟩
  ·exact⟨o,keep c o (I.cne x c e) hc nch ho (I.freeC x c e),hd⟩
 refine⟨I.ok,I.os,hg,⟨fun b o e n hb hx=>?_,fun b o e n hb hx=>?_,fun b o e n hx=>?_,fun b o e hx=>?_,fun b xs e=>tups b xs (I.base.tups b xs e),fun b o xs e=>frzs b o xs (I.base.frzs b o xs e),fun b ps e=>?_⟩,?_,fun x c e=>?_,?_,fun x c e=>?_,fun p hp=>?_,hok,I.len⟩
 ·exact keep b o (neL b o e) hb (neC b o e hx) (I.base.keep b o e n hb hx) (I.base.free b o e n hx)
 ·obtain⟨sl,e1⟩:=I.base.slot b o e n hb hx
  obtain⟨sl',e2⟩:=slot b _ (neL b o e) hb (neC b o e hx) e1 (I.base.free b o e n hx)
  exact⟨sl',e2⟩
 ·obtain⟨o',e1⟩:=I.base.there b o e hx
  exact free b o' (neC b o e hx) e1 (I.base.free b o e n hx)
 ·obtain⟨o',e1⟩:=I.base.there b o e hx
  exact there b o' (neC b o e hx) e1
 ·obtain⟨m1,e1⟩:=I.base.tbls b ps e
  obtain⟨m2,e2⟩:=tbls b _ e1
  exact⟨m1++m2,by rw[e2,Array.append_assoc]⟩
 ·obtain⟨m,hn,hl⟩:=I.loc
  refine⟨m,ns m hn,fun i x v e1 e2 e3=>?_⟩
  obtain⟨u,r,l⟩:=hl i x v e1 e2 e3
  refine⟨u,r,?_⟩
  rcases l with l | ⟨k,c,e,z⟩
  ·exact .inl l
  ·exact .inr ⟨k,c,e,cellK x c e _ z⟩
 ·obtain⟨v,z⟩:=I.cell x c e
  exact⟨v,cellK x c e v z⟩
 ·obtain⟨m,⟨o,_,_,ho,_⟩,_⟩:=I.loc
  exact free _ o (fun z=>(hch _ z).2.1 rfl) ho I.free
 ·obtain⟨v,o,ho,hd⟩:=I.cell x c e
  exact free c o (fun z=>(hch c z).2.2.1 x c e rfl) ho (I.freeC x c e)
 ·obtain⟨e,n,ne,nf,d⟩:=I.pin p hp
  have nch:p.1∉ch:=fun z=>(hch p.1 z).2.2.2 p hp rfl
  exact⟨keep p.1 p.2 ne nf nch e n,free p.1 p.2 nch e n,ne,nf,d⟩
theorem Inv.un {t':Nat}(I:Inv X pins σ H s)(u:Un X.fs [] H H' s.heap h')(hok:HOk X.prog X.w H' h'):Inv X pins σ H' { s with heap:=h',toks:=t' }:=by
 obtain⟨m,⟨o,es,ep,ho,r⟩,_⟩:=id I.loc
 obtain⟨sl,hL⟩:=u.any ho I.free (by simp)
 exact I.step (g':=s.gens) (d':=s.drawn) (ch:=[]) (fun _ z=>nomatch z) (fun b o _ hb _ e n=>u.keep b o e n hb (by simp)) (fun b o _ hb _ e n=>u.slot b o e n hb (by simp)) (fun b o _ e n=>u.free b o e n (by simp)) (fun b o _ e=>u.there b o e (by simp)) u.tups u.frzs u.tbls (fun m' hm=>by
  obtain⟨o',es',ep',ho',r'⟩:=hm
  rw[ho] at ho';cases ho'
  exact⟨_,es',ep',hL,r'⟩) hok I.bare
theorem Inv.call {g':Array GenState}{t':Nat}{d':Drawn}{ch:List Addr}(I:Inv X pins σ H s)(u:Un (frs X.stack) ch H H' s.heap h')(hok:HOk X.prog X.w H' h')(hg:AllBare g')
  (hch:∀b∈ch,(b∈X.ex∨X.s₀.heap.objs.size≤b)∧b≠X.env.locals∧(∀x c,X.env.cells.lookup x=some c→c≠b)∧∀p∈X.pn++pins,p.1≠b) :
  Inv X pins σ H' { s with heap:=h',gens:=g',drawn:=d',toks:=t' }:=by
 obtain⟨m,⟨o,es,ep,ho,r⟩,_⟩:=id I.loc
 obtain⟨sl,hL⟩:=u.any ho I.free fun z=>(hch _ z).2.1 rfl
 exact I.step (ch:=ch) hch (fun b o hL hb hc e n=>u.keep b o e n (fun z=>(xkE.mp (I.stkSub b z)).elim hL hb) hc) (fun b o _ _ hc e n=>u.any e n hc) (fun b o hc e n=>u.free b o e n hc) (fun b o hc e=>u.there b o e hc) u.tups u.frzs u.tbls (fun m' hm=>by
  obtain⟨o',es',ep',ho',r'⟩:=hm
  rw[ho] at ho';cases ho'
  exact⟨_,es',ep',hL,r'⟩) hok hg
theorem Inv.turned {t':Nat}{it:Addr}(I:Inv X pins σ H s)(k:∀b o,b≠it→s.heap.get? b=some o→h'.get? b=some o)(hn:H it=none)(hL:it≠X.env.locals)
  (h1:it∈X.ex∨X.s₀.heap.objs.size≤it) (h2:∀x c,X.env.cells.lookup x=some c→c≠it) (h3:∀p∈X.pn++pins,p.1≠it):Inv X pins σ H { s with heap:=h',toks:=t' }:=by
 have nit:∀b u,H b=some u→b≠it:=fun b u e z=>by rw[z,hn] at e;cases e
 refine I.step (g':=s.gens) (d':=s.drawn) (ch:=[it]) (fun b hb=>?_) (fun b o _ _ hc e _=>k b o (fun z=>hc (by simp[z])) e) (fun b o _ _ hc e _=>⟨o.slots,k b o (fun z=>hc (by simp[z])) e⟩) (fun _ _ _ _ n=>n)
  (fun b o hc e=>⟨o,k b o (fun z=>hc (by simp[z])) e⟩) (fun _ _ e=>e) (fun _ _ _ e=>e) (fun b ps e=>⟨#[],by rw[e];simp⟩) (fun m hm=>?_) (fun b u e=>?_) I.bare
 ·have e:b=it:=by simpa using hb
  subst e
  exact⟨h1,hL,h2,h3⟩
 ·obtain⟨o,es,ep,ho,r⟩:=hm
  exact⟨o,es,ep,k _ o (Ne.symm hL) ho,r⟩
 ·refine(I.hok b u e).stay (fun c v hc q=>k c v ?_ q) (fun _ q=>q) (fun _ _ q=>q) fun _ _ _ q=>q
  rcases hc with z | z
  ·rw[z];exact nit b u e
  ·exact nit c _ z
theorem Inv.tok (I:Inv X pins σ H s)(t:Nat):Inv X pins σ H { s with toks:=t }:=I.un (h':=s.heap) (t':=t) Un.refl I.hok
theorem Inv.kept (I:Inv X pins σ H s)(k:∀b u,s.heap.get? b=some u→h'.get? b=some u):Inv X pins σ H { s with heap:=h',toks:=t' }:=I.un (Un.kept k) (I.hok.kept k)
theorem Inv.laid (I:Inv X pins σ H s)(k:∀b u,s.heap.get? b=some u→h'.get? b=some u)(hp:s.heap.objs.size≤a)(new:uJ X.prog X.w (upd H a o) h' a o) :
  Inv X pins σ (upd H a o) { s with heap:=h',toks:=t' }:=I.un (Un.laid k hp (I.hok.fresh hp)) (I.hok.laid k hp new)
theorem Inv.write (I:Inv X pins σ H s)(mu:Mut (H x))(he:e=x∨H e=some (.own x))(k:∀b u,b≠e→s.heap.get? b=some u→h'.get? b=some u)(heo:∃u,h'.get? e=some u)
  (new:uJ X.prog X.w (upd H x o) h' x o):Inv X pins σ (upd H x o) { s with heap:=h',toks:=t' }:=I.un (Un.write mu he k heo) (I.hok.write mu he k heo new)
theorem Inv.weak (I:Inv X pins σ H s)(hl:σ'.length=σ.length)(w:∀(i:Nat) v,σ'[i]? = some (some v)→σ[i]? = some (some v)):Inv X pins σ' H s :=
 ⟨I.ok,I.os,I.bare,I.base,let ⟨m,hn,hl'⟩:=I.loc;⟨m,hn,fun i x v e1 e2 e3=>hl' i x v e1 (w i v e2) e3⟩,I.cell,I.free,I.freeC,I.pin,I.hok,hl.trans I.len⟩
theorem Inv.pins_of (I:Inv X pins σ H s)(h:∀p∈pins',s.heap.get? p.1=some p.2∧H p.1=none∧p.1≠X.env.locals∧p.1∉X.fs∧∀v,p.2.data≠.cell v):Inv X pins' σ H s :=
 ⟨I.ok,I.os,I.bare,I.base,I.loc,I.cell,I.free,I.freeC,fun p hp=>(xkB.mp hp).elim (fun z=>I.pin p (xkC _ z)) (h p),I.hok,I.len⟩
theorem aG {N:List Str}(hN:N.Nodup){i j:Nat}{x:Str}(a:N[i]? = some x)(b:N[j]? = some x):i=j:=by
 obtain⟨h1,e1⟩:=xkg.mp a
 obtain⟨h2,e2⟩:=xkg.mp b
 exact(List.getElem_inj hN).mp (e1.trans e2.symm)
theorem dY {M:Model}{A:Around}{E:Value→Shared→Prop}{i:Nat}{x:Str}{v:V}{u:Value}{Q:Unit→Shared→Prop}(I:Inv X pins σ H s)(hN:X.N.Nodup)(hi:X.N[i]? = some x)(hx:Loc X.env.scope x)(r:RelV v u)
  (h:∀s',Inv X pins (σ.set i (some v)) H s'→(∃a,Heap.SameBut a s.heap s'.heap∧(a=X.env.locals∨X.env.cells.lookup x=some a))→Q () s') (hf:X.fn x=true∨X.env.scope.names.lookup x=some .local:=by first | exact .inl rfl | exact .inr rfl | assumption):wpAny M A (storeName X.env x u) Q E s:=by
 obtain⟨m,hn,hl⟩:=id I.loc
 have hcls:(X.env.scope.kind == .class || (X.env.scope.kind == .module&&X.env.locals != X.env.globals))=false:=by rw[I.ok.kind];rfl
 have hiσ:i<σ.length:=by rw[I.len];exact(xkg.mp hi).1
 have cne:=I.cne
 have tracked:∀ {a:Addr} {h':Heap},(∃o,s.heap.get? a=some o∧H a=none)→Heap.SameBut a s.heap h'→HOk X.prog X.w H h':=fun {a h'} ha hs b ob e=>by
  obtain⟨_,_,hfree⟩:=ha
  refine(I.hok b ob e).stay (fun c w' hc q=>(hs.2 c ?_).trans q) (fun _ q=>q) (fun _ _ q=>q) fun _ _ _ q=>q
  rintro rfl
  rcases hc with rfl | hc
  ·rw[hfree] at e;cases e
  ·rw[hfree] at hc;cases hc
 rcases hx with hk | hk
 ·refine wpAny_storeName_local hk hn (fun h' hn' hs=>?_) hcls
  obtain⟨oL,_,_,hoL,_⟩:=id hn
  refine h _ ⟨I.ok,I.os,I.bare,⟨fun b o e n hb hx=>?_,fun b o e n hb hx=>?_,I.base.free,fun b o e hx=>?_,I.base.tups,I.base.frzs,I.base.tbls⟩,⟨_,hn',fun j y v' e1 e2 e3=>?_⟩,fun y c e=>?_,I.free,I.freeC,fun p hp=>?_,tracked ⟨oL,hoL,I.free⟩ hs,by simpa using I.len⟩ ⟨_,hs,.inl rfl⟩
  ·exact(hs.2 b (xlg (xlb (Heap.lt_size e) I.ok.above))).trans (I.base.keep b o e n hb hx)
  ·obtain⟨sl,e1⟩:=I.base.slot b o e n hb hx
   exact⟨sl,(hs.2 b (xlg (xlb (Heap.lt_size e) I.ok.above))).trans e1⟩
  ·obtain⟨o',e1⟩:=I.base.there b o e hx
   exact⟨o',(hs.2 b (xlg (xlb (Heap.lt_size e) I.ok.above))).trans e1⟩
  ·by_cases hj:j=i
   ·subst hj
    rw[hi] at e1;cases e1
    rw[xkk hiσ] at e2
    cases e2
    exact⟨u,r,.inl ⟨hk,by simp⟩⟩
   ·rw[xkj (Ne.symm hj)] at e2
    obtain⟨u',r',q⟩:=hl j y v' e1 e2 e3
    refine⟨u',r',?_⟩
    rcases q with ⟨k,e⟩ | ⟨k,c,e,z⟩
    ·refine .inl ⟨k,?_⟩
     have:y≠x:=fun e=>hj (aG hN e1 (e▸hi))
     simp[this,e]
    ·exact .inr ⟨k,c,e,z.sameBut hs (cne y c e)⟩
  ·obtain⟨w',z⟩:=I.cell y c e
   exact⟨w',z.sameBut hs (cne y c e)⟩
  ·obtain⟨e,n,ne,nf,d⟩:=I.pin p hp
   exact⟨(hs.2 p.1 ne).trans e,n,ne,nf,d⟩
 ·have hfn:X.fn x=true:=by
   rcases hf with z | z
   ·exact z
   ·rw[z] at hk;cases hk
  obtain⟨c,hc⟩:=I.ok.has x (.inl hk)
  obtain⟨w',z⟩:=I.cell x c hc
  refine wpAny_storeName_cell I.ok.kind hk hc z (fun h' hc' hs=>?_)
  obtain⟨oc,hoc,hocd⟩:=id z
  refine h { s with heap:=h' } ⟨I.ok,I.os,I.bare,⟨fun b o e n hb hx=>?_,fun b o e n hb hx=>?_,I.base.free,fun b o e hx=>?_,I.base.tups,I.base.frzs,I.base.tbls⟩,⟨m,hn.sameBut hs (Ne.symm (cne x c hc)),fun j y v' e1 e2 e3=>?_⟩,fun y c' e=>?_,I.free,I.freeC,fun p hp=>?_,tracked ⟨oc,hoc,I.freeC x c hc⟩ hs,by simpa using I.len⟩ ⟨c,hs,.inr hc⟩
  ·exact(hs.2 b (xlg (xlb (Heap.lt_size e) (I.ok.cab x c hfn hc)))).trans (I.base.keep b o e n hb hx)
  ·obtain⟨sl,e1⟩:=I.base.slot b o e n hb hx
   exact⟨sl,(hs.2 b (xlg (xlb (Heap.lt_size e) (I.ok.cab x c hfn hc)))).trans e1⟩
  ·obtain⟨o',e1⟩:=I.base.there b o e hx
   exact⟨o',(hs.2 b (xlg (xlb (Heap.lt_size e) (I.ok.cab x c hfn hc)))).trans e1⟩
  ·by_cases hj:j=i
   ·subst hj
    rw[hi] at e1;cases e1
    rw[xkk hiσ] at e2
    cases e2
    exact⟨u,r,.inr ⟨.inl hk,c,hc,hc'⟩⟩
   ·rw[xkj (Ne.symm hj)] at e2
    obtain⟨u',r',q⟩:=hl j y v' e1 e2 e3
    refine⟨u',r',?_⟩
    rcases q with q | ⟨k,c',e,z'⟩
    ·exact .inl q
    ·refine .inr ⟨k,c',e,z'.sameBut hs ?_⟩
     rintro rfl
     exact hj (aG hN e1 (I.ok.inj _ _ _ e hc▸hi))
  ·by_cases hcc:c'=c
   ·subst hcc;exact⟨_,hc'⟩
   ·obtain⟨w2,z2⟩:=I.cell y c' e
    exact⟨w2,z2.sameBut hs hcc⟩
  ·obtain⟨e,n,ne,nf,d⟩:=I.pin p hp
   refine⟨(hs.2 p.1 ?_).trans e,n,ne,nf,d⟩
   intro q
   rw[q,hoc] at e
   have q':oc=p.2:=xlj e
   exact d w' (by rw[←q'];exact hocd)
theorem jK (I:Inv X pins σ H s)(hN:X.N.Nodup)(hi:X.N[i]? = some x)(hx:Loc X.env.scope x)(r:RelV v u)
  (h:∀s',Inv X pins (σ.set i (some v)) H s'→Q () s') (hf:X.fn x=true∨X.env.scope.names.lookup x=some .local:=by first | exact .inl rfl | exact .inr rfl | assumption):wpAny M A (storeName X.env x u) Q E s :=
 dY I hN hi hx r (fun s' I' _=>h s' I') hf
theorem Inv.call' (I:Inv X pins σ H s)(ho:s'.os=s.os)(u:Un (frs X.stack) ch H H' s.heap s'.heap)(hok:HOk X.prog X.w H' s'.heap)(hg:AllBare s'.gens)
  (hch:∀b∈ch,(b∈X.ex∨X.s₀.heap.objs.size≤b)∧b≠X.env.locals∧(∀x c,X.env.cells.lookup x=some c→c≠b)∧∀p∈X.pn++pins,p.1≠b):Inv X pins σ H' s':=by
 obtain⟨h',g',d',t',o'⟩:=s'
 have e:o'=s.os:=ho
 subst e
 exact I.call (g':=g') (t':=t') (d':=d') u hok hg hch
end
abbrev XK:=Value→Option Addr→Hp→Prop
abbrev St:=List (Option V)
abbrev VK:=V→Hp→Prop
abbrev TE:=St→Hp→VK→Prop
abbrev TT:=St→Hp→(Bool→Hp→Prop)→Prop
abbrev TA:=St→Hp→(List V→Hp→Prop)→Prop
structure Ends where
 nx:St→Hp→Prop
 rt:VK
 bk:St→Hp→Prop:=fun _ _=>False
 ct:St→Hp→Prop:=fun _ _=>False
abbrev TS:=Ends→St→Hp→Prop
def EP (X:Cx)(pins:List (Addr×Obj))(σ:St)(Q:VK)(u:Value)(s':Shared):Prop:=∃v H',Inv X pins σ H' s'∧RelV v u∧Q v H'
def TP (X:Cx)(pins:List (Addr×Obj))(σ:St)(Q:Bool→Hp→Prop)(b:Bool)(s':Shared):Prop:=∃H',Inv X pins σ H' s'∧Q b H'
def AP (X:Cx)(pins:List (Addr×Obj))(σ:St)(Q:List V→Hp→Prop)(us:List Value)(s':Shared):Prop:=∃vs H',Inv X pins σ H' s'∧zh vs us∧Q vs H'
def SP (X:Cx)(pins:List (Addr×Obj))(D:Ends)(f:Flow)(s':Shared):Prop :=
 match f with
 | .next=>∃ σ' H',Inv X pins σ' H' s'∧D.nx σ' H'
 | .brk=>∃ σ' H',Inv X pins σ' H' s'∧D.bk σ' H'
 | .cont=>∃ σ' H',Inv X pins σ' H' s'∧D.ct σ' H'
 | .ret u=>∃v σ' H',Inv X pins σ' H' s'∧RelV v u∧D.rt v H'
def PE (X:Cx)(e:Expr)(t:TE):Prop :=
 ∀ ⦃pins:List (Addr×Obj)⦄ (s:Shared) (σ:St) (H:Hp) (Q:VK),Inv X pins σ H s→t σ H Q→wpAny (model X.prog X.w) X.A (eval e X.env) (EP X pins σ Q) X.xe s
def PT (X:Cx)(e:Expr)(t:TT):Prop :=
 ∀ ⦃pins:List (Addr×Obj)⦄ (s:Shared) (σ:St) (H:Hp) (Q:Bool→Hp→Prop),Inv X pins σ H s→t σ H Q→wpAny (model X.prog X.w) X.A (isTrue e X.env (eval e X.env)) (TP X pins σ Q) X.xe s
def PW (X:Cx)(e:Expr)(t:TT):Prop :=
 ∀ ⦃whole:Sem Value⦄ (pins:List (Addr×Obj)) (s:Shared) (σ:St) (H:Hp) (Q:Bool→Hp→Prop),Inv X pins σ H s→t σ H Q→wpAny (model X.prog X.w) X.A (isTrue e X.env whole) (TP X pins σ Q) X.xe s
theorem PW.pt (h:PW X e t):PT X e t:=@h _
def PA (X:Cx)(es:List Expr)(t:TA):Prop :=
 ∀ ⦃pos:Pos⦄ (pins:List (Addr×Obj)) (s:Shared) (σ:St) (H:Hp) (Q:List V→Hp→Prop),Inv X pins σ H s→t σ H Q→wpAny (model X.prog X.w) X.A (spliced (backTo pos (starEach es X.env))) (AP X pins σ Q) X.xe s
def PS (X:Cx)(st:Stmt)(t:TS):Prop :=
 ∀ ⦃pins:List (Addr×Obj)⦄ (s:Shared) (σ:St) (H:Hp) (D:Ends),Inv X pins σ H s→t D σ H→wpAny (model X.prog X.w) X.A (exec st X.env) (SP X pins D) X.xe s
def PSs (X:Cx)(st:List Stmt)(t:TS):Prop :=
 ∀ ⦃pins:List (Addr×Obj)⦄ (s:Shared) (σ:St) (H:Hp) (D:Ends),Inv X pins σ H s→t D σ H→wpAny (model X.prog X.w) X.A (execs st X.env) (SP X pins D) X.xe s
theorem thn (h:wpAny M A t Q E s)(hQ:∀a s,Q a s→Q' a s):wpAny M A t Q' E s:=wpAny_mono h hQ fun _ _ x=>x
end L2
namespace L2
open PySem PySem.Spec PyProof.Rows
section
variable {X:Cx}
def sZ (i:Nat):TE:=fun σ H Q=>∃v,σ[i]? = some (some v)∧Q v H
def tC (v:V):TE:=fun _ H Q=>Q v H
theorem xem (hN:X.N[i]? = some x)(hv:Vis X.env.scope x)(hd:(x == ("__debug__" : Str))=false:=by decide)(hcd:(x == ("__classdict__" : Str))=false:=by decide):PE X (.Name x pos) (sZ i):=by
 intro pins s σ H Q I h
 obtain⟨v,e,h⟩:=h
 obtain⟨m,hn,hl⟩:=I.loc
 obtain⟨u,r,l⟩:=hl i x v hN e hv
 have fin:EP X pins σ Q u s:=⟨v,H,I,r,h⟩
 rcases l with ⟨hk,hm⟩ | ⟨hk,c,hc,hcell⟩
 ·exact wpAny_Name (wpAny_loadName_local I.ok.kind hk hn hm fin) hd
 ·rcases hk with hk | hk
  ·exact wpAny_Name (wpAny_loadName_cell I.ok.kind hk hc hcell fin) hd
  ·exact wpAny_Name (wpAny_loadName_free I.ok.kind hk hc hcell fin hcd) hd
theorem xg:PE X (.Constant (.int i) j pos) (tC (.int i)):=fun _ _ _ H _ I h=>wpAny_Constant_int ⟨.int i,H,I.tok _,⟨_,rfl⟩,h⟩
theorem vT:PE X (.Constant (.bool b) j pos) (tC (.bl b)):=fun _ _ _ H _ I h=>Constant_bool ⟨.bl b,H,I,rfl,h⟩
theorem ju:PE X (.Constant .none j pos) (tC .non):=fun _ _ _ H _ I h=>Constant_none ⟨.non,H,I,rfl,h⟩
theorem xgE:PE X (.Constant (.str x) j pos) (tC (.str x)):=fun _ _ _ H _ I h=>Calls.Constant_str ⟨.str x,H,I.tok _,⟨_,rfl⟩,h⟩
def Gl (X:Cx)(x:Str):Prop:=X.env.kindOf x=some .globalImplicit
theorem fv (I:Inv X pins σ H s)(hg:Gl X x)(hm:X.mg x=some u)(h:Q u s)
  (hd:(x == ("__debug__" : Str))=false:=by decide):wpAny (model X.prog X.w) X.A (eval (.Name x pos) X.env) Q E s :=
 Calls.Name_function_global I.ok.kind hg (Calls.loadGlobal_global (by rw[I.ok.glob];exact I.mod.glob.keeps I.bk) hm h) hd
theorem sH (I:Inv X pins σ H s)(hg:Gl X x)(hm:X.mg x=none)(hv:bootBuiltins x=some u)(h:Q u s)
  (hn:x ≠ "__name__" := by decide) (hd:(x == ("__debug__" : Str))=false:=by decide):wpAny (model X.prog X.w) X.A (eval (.Name x pos) X.env) Q E s:=by
 obtain⟨mb,h1,h2⟩:=I.mod.blt
 exact Calls.Name_function_global I.ok.kind hg (Calls.loadGlobal_builtin (by rw[I.ok.glob];exact I.mod.glob.keeps I.bk) hm (by rw[I.ok.blt];exact h1.keeps I.bk) ((h2 x hn).trans hv) h) hd
theorem zg (hg:Gl X x)(hm:X.mg x=some u)(r:RelV v u)(hd:(x == ("__debug__" : Str))=false:=by decide):PE X (.Name x pos) (tC v) :=
 fun _ _ _ H _ I h=>fv I hg hm ⟨v,H,I,r,h⟩ hd
theorem uX (hg:Gl X x)(hm:X.mg x=none)(hv:bootBuiltins x=some u)(r:RelV v u)(hn:x ≠ "__name__" := by decide)(hd:(x == ("__debug__" : Str))=false:=by decide):PE X (.Name x pos) (tC v) :=
 fun _ _ _ H _ I h=>sH I hg hm hv ⟨v,H,I,r,h⟩ hn hd
variable {a b:Expr} {ta tb:TE} {pos:Pos}
def PC (X:Cx)(op:CmpOp)(a b:Expr)(t:TE):Prop :=
 ∀(pins:List (Addr×Obj)) (s:Shared) (σ:St) (H:Hp) (Q:VK),Inv X pins σ H s→t σ H Q →
  wpAny (model X.prog X.w) X.A (eval a X.env) (fun v s₁=>wpAny (model X.prog X.w) X.A (eval b X.env) (fun u s₂=>wpAny (model X.prog X.w) X.A (compareOp op v u) (EP X pins σ Q) X.xe s₂) X.xe s₁) X.xe s
theorem xdu (b:Expr)(h:op≠.In)(h2:op≠.NotIn):behindInMarks op b=false:=by
 have e1:(op == CmpOp.In)=false:=by cases op<;>first | rfl | exact absurd rfl h
 have e2:(op == CmpOp.NotIn)=false:=by cases op<;>first | rfl | exact absurd rfl h2
 cases b<;>simp[behindInMarks,e1,e2]
def xit (ta:TE):TE:=fun σ H Q=>ta σ H fun x H1=>Q (.bl (decide (x=.non))) H1
def xgH (ta:TE):TE:=fun σ H Q=>ta σ H fun x H1=>Q (.bl (!decide (x=.non))) H1
theorem RelV.none_iff (r:RelV x v):(v == Value.none)=decide (x=.non):=by
 cases x with
 | non=>cases r;rfl
 | bl _=>cases r;rfl
 | int _=>obtain⟨t,rfl⟩:=r;rfl
 | str _=>obtain⟨t,rfl⟩:=r;rfl
 | byt _=>obtain⟨t,rfl⟩:=r;rfl
 | flt _=>obtain⟨t,rfl⟩:=r;rfl
 | ref _=>cases r;rfl
 | ty _=>cases r;rfl
theorem aB (ha:PE X a ta):PC X .Is a (.Constant .none j pos') (xit ta):=by
 intro pins s σ H Q I h
 refine thn (@ha pins s σ H _ I h) fun v s1 ⟨x,H1,I1,r1,q1⟩=>?_
 exact Constant_none (is_none_gen ⟨.bl _,H1,I1,by rw[r1.none_iff];rfl,q1⟩)
theorem bO (ha:PE X a ta):PC X .IsNot a (.Constant .none j pos') (xgH ta):=by
 intro pins s σ H Q I h
 refine thn (@ha pins s σ H _ I h) fun v s1 ⟨x,H1,I1,r1,q1⟩=>?_
 exact Constant_none (isnot_none_gen ⟨.bl _,H1,I1,by rw[r1.none_iff];rfl,q1⟩)
def tB (t:TE):TT:=fun σ H Q=>t σ H fun x H1=>∃c,x=.bl c∧Q c H1
theorem jC (h:PC X op a b t)(h1:behindInMarks op b=false:=by first | exact xdu _ (by decide) (by decide) | rfl):PT X (.Compare a [op] [b] pos) (tB t):=by
 intro pins s σ H Q I hw
 refine wpAny_isTrue_Compare1 (thn (@h pins s σ H _ I hw) fun v s1 h1=>thn h1 fun u s2 h2=>thn h2 fun c s3 ⟨x,H1,I1,r1,q1⟩=>?_) h1
 obtain⟨d,rfl,q⟩:=q1
 cases r1
 exact wpAny_truthy_bool ⟨H1,I1,q⟩
theorem yX (h:PE X e t)(he:∀whole,isTrue e X.env whole=(do let v ←whole;standAt e.pos;holding [v] (truthy v)):=by intro _;rfl):PT X e (tB t):=by
 intro pins s σ H Q I hw
 refine isTrue_plain (thn (@h pins s σ H _ I hw) fun v s1 ⟨x,H1,I1,r1,q1⟩=>?_) (he _)
 obtain⟨d,rfl,q⟩:=q1
 cases r1
 exact wpAny_truthy_bool ⟨H1,I1,q⟩
variable {tA tB':TT} {rest:List Expr}
def xiz (t u:TT):TT:=fun σ H Q=>t σ H fun c H1=>if c=true then u σ H1 Q else Q false H1
def tOr (t u:TT):TT:=fun σ H Q=>t σ H fun c H1=>if c=true then Q true H1 else u σ H1 Q
def xiH (t:TT):TT:=fun σ H Q=>t σ H fun c H1=>Q (!c) H1
theorem v5 (ha:PT X a tA):PW X (.BoolOp .And [a] pos) tA:=by
 intro wh pins s σ H Q I h
 refine isTrue_and (thn (@ha pins s σ H Q I h) fun c s1 e=>?_)
 cases c with
 | true=>exact isTrue_and_nil e
 | false=>exact e
theorem uQ (ha:PT X a tA):PW X (.BoolOp .Or [a] pos) tA:=by
 intro wh pins s σ H Q I h
 refine isTrue_or (thn (@ha pins s σ H Q I h) fun c s1 e=>?_)
 cases c with
 | false=>exact isTrue_or_nil e
 | true=>exact e
theorem jy (ha:PT X a tA)(hb:PW X (.BoolOp .And (b::rest) pos) tB'):PW X (.BoolOp .And (a::b::rest) pos) (xiz tA tB'):=by
 intro wh pins s σ H Q I h
 refine isTrue_and (thn (@ha pins s σ H _ I h) fun c s1 ⟨H1,I1,q1⟩=>?_)
 cases c with
 | true=>exact @hb wh pins s1 σ H1 Q I1 q1
 | false=>exact⟨H1,I1,q1⟩
theorem u5 (ha:PT X a tA)(hb:PW X (.BoolOp .Or (b::rest) pos) tB'):PW X (.BoolOp .Or (a::b::rest) pos) (tOr tA tB'):=by
 intro wh pins s σ H Q I h
 refine isTrue_or (thn (@ha pins s σ H _ I h) fun c s1 ⟨H1,I1,q1⟩=>?_)
 cases c with
 | true=>exact⟨H1,I1,q1⟩
 | false=>exact @hb wh pins s1 σ H1 Q I1 q1
theorem zH (ha:PT X a tA):PT X (.UnaryOp .Not a pos) (xiH tA):=by
 intro pins s σ H Q I h
 exact isTrue_not (@ha pins s σ H (fun c H1=>Q (!c) H1) I h)
def xgu (ta tb:TE):TE:=fun σ H Q=>ta σ H fun x H1=>∃c,x=.bl c∧if c=true then tb σ H1 Q else Q (.bl false) H1
def xiD (ta tb:TE):TE:=fun σ H Q=>ta σ H fun x H1=>∃c,x=.bl c∧if c=true then Q (.bl true) H1 else tb σ H1 Q
def xgC (ta:TE):TE:=fun σ H Q=>ta σ H fun x H1=>∃c,x=.bl c∧Q (.bl (!c)) H1
theorem dX (h:PE X a t):PE X (.BoolOp op [a] pos) t:=fun pins s σ H Q I hw=>BoolOp_one (@h pins s σ H Q I hw)
theorem nr (ha:PE X a ta)(hb:PE X (.BoolOp .And (b::rest) pos) tb):PE X (.BoolOp .And (a::b::rest) pos) (xgu ta tb):=by
 intro pins s σ H Q I h
 refine BoolOp_and (thn (@ha pins s σ H _ I h) fun v s1 ⟨x,H1,I1,r1,q1⟩=>?_)
 obtain⟨c,rfl,q1⟩:=q1
 cases r1
 refine wpAny_truthy_bool ?_
 cases c with
 | true=>exact @hb pins s1 σ H1 Q I1 q1
 | false=>exact⟨.bl false,H1,I1,rfl,q1⟩
theorem xez (ha:PE X a ta)(hb:PE X (.BoolOp .Or (b::rest) pos) tb):PE X (.BoolOp .Or (a::b::rest) pos) (xiD ta tb):=by
 intro pins s σ H Q I h
 refine BoolOp_or (thn (@ha pins s σ H _ I h) fun v s1 ⟨x,H1,I1,r1,q1⟩=>?_)
 obtain⟨c,rfl,q1⟩:=q1
 cases r1
 refine wpAny_truthy_bool ?_
 cases c with
 | false=>exact @hb pins s1 σ H1 Q I1 q1
 | true=>exact⟨.bl true,H1,I1,rfl,q1⟩
theorem xdM (ha:PE X a ta):PE X (.UnaryOp .Not a pos) (xgC ta):=by
 intro pins s σ H Q I h
 refine UnaryOp_ (thn (@ha pins s σ H _ I h) fun v s1 ⟨x,H1,I1,r1,q1⟩=>?_)
 obtain⟨c,rfl,q1⟩:=q1
 cases r1
 exact not_of (wpAny_truthy_bool ⟨.bl (!c),H1,I1,rfl,q1⟩)
end
end L2
namespace L2
open PySem PySem.Spec PyProof.Rows
def SqL (K:PySem.W.Frag)(H:Hp)(a:Addr)(xs:List V):Prop :=
 Rd H a (.lst xs) ∨
  ∃(o:Obj) (its:Array Value) (n:Nat),K.lookup a=some o∧o.cls=.type "list" ∧ o.dict=none∧o.data=.seq its n∧its.size≤sizeLine∧zh xs its.toList
def SqT (K:PySem.W.Frag)(H:Hp)(a:Addr)(xs:List V):Prop :=
 Rd H a (.tup xs) ∨
  ∃(o:Obj) (its:Array Value) (n:Nat),K.lookup a=some o∧o.cls=.type "tuple" ∧ o.data=.seq its n∧its.size≤sizeLine∧zh xs its.toList
def xiT:Value→Option V
 | .none=>some .non
 | .bool b=>some (.bl b)
 | .int i _=>some (.int i)
 | .str x _=>some (.str x)
 | .bytes b _=>some (.byt b)
 | .float b _=>some (.flt b)
 | .ref a=>some (.ref a)
 | .type n=>some (.ty n)
 | _=>none
theorem RelV.abs (r:RelV x u):xiT u=some x:=by
 cases x with
 | non=>cases r;rfl
 | bl _=>cases r;rfl
 | int _=>obtain⟨t,rfl⟩:=r;rfl
 | str _=>obtain⟨t,rfl⟩:=r;rfl
 | byt _=>obtain⟨t,rfl⟩:=r;rfl
 | flt _=>obtain⟨t,rfl⟩:=r;rfl
 | ref _=>cases r;rfl
 | ty _=>cases r;rfl
theorem RelV.inj (r:RelV x u)(q:RelV y u):x=y:=xlj (r.abs.symm.trans q.abs)
theorem zh.inj:∀ {xs ys:List V} {us:List Value},zh xs us→zh ys us→xs=ys
 | _,_,_,.nil,.nil=>rfl
 | _,_,_,.cons r t,.cons r' t'=>by rw[r.inj r',zh.inj t t']
section
variable {X:Cx} {pins:List (Addr×Obj)} {σ:St} {H:Hp} {s:Shared} {a:Addr} {xs ys:List V}
theorem SqL.of {K:PySem.W.Frag}(h:H a=some (.lst xs)):SqL K H a xs:=.inl (.inl h)
theorem SqT.of {K:PySem.W.Frag}(h:H a=some (.tup xs)):SqT K H a xs:=.inl (.inl h)
theorem Inv.list (I:Inv X pins σ H s)(h:SqL X.K H a xs):∃its:List Value,zh xs its∧PlainL s.heap a its.toArray∧xs.length≤sizeLine:=by
 rcases h with h | ⟨o,its,n,hk,hc,hd,hs,hz,r⟩
 ·obtain⟨z,its,n,r,e⟩:=h.ok I.hok
  exact⟨its,r,⟨_,n,e,rfl,rfl,rfl⟩,z⟩
 ·refine⟨its.toList,r,⟨o,n,I.kIn a o hk,hc,hd,by simpa using hs⟩,?_⟩
  have e:=r.length
  simp only[Array.length_toList] at e
  omega
theorem Inv.tuple (I:Inv X pins σ H s)(h:SqT X.K H a xs):∃its:List Value,zh xs its∧IsTup s.heap a its.toArray∧xs.length≤sizeLine:=by
 rcases h with h | ⟨o,its,n,hk,hc,hs,hz,r⟩
 ·obtain⟨z,its,r,p⟩:=h.ok I.hok
  exact⟨its,r,p,z⟩
 ·refine⟨its.toList,r,⟨o,I.kIn a o hk,hc,n,by simpa using hs⟩,?_⟩
  have e:=r.length
  simp only[Array.length_toList] at e
  omega
theorem Inv.list_inj (I:Inv X pins σ H s)(h:SqL X.K H a xs)(h':SqL X.K H a ys):xs=ys:=by
 obtain⟨its,r,⟨o,n,e,_,_,d⟩,_⟩:=I.list h
 obtain⟨its',r',⟨o',n',e',_,_,d'⟩,_⟩:=I.list h'
 rw[e] at e';cases e'
 rw[d] at d'
 injection d' with d1 _
 have:its=its':=by simpa using xlk Array.toList d1
 subst this
 exact r.inj r'
theorem Inv.tuple_inj (I:Inv X pins σ H s)(h:SqT X.K H a xs)(h':SqT X.K H a ys):xs=ys:=by
 obtain⟨its,r,⟨o,e,_,n,d⟩,_⟩:=I.tuple h
 obtain⟨its',r',⟨o',e',_,n',d'⟩,_⟩:=I.tuple h'
 rw[e] at e';cases e'
 rw[d] at d'
 injection d' with d1 _
 have:its=its':=by simpa using xlk Array.toList d1
 subst this
 exact r.inj r'
end
abbrev Cx.wish (X:Cx)(E:Value→Shared→Prop):Cx:={ X with xe:=E }
abbrev Cx.nox (X:Cx):Cx:=X.wish fun _ _=>False
theorem Cx.Ok.wish {X:Cx}(ok:X.Ok)(E:Value→Shared→Prop):(X.wish E).Ok :=
 ⟨ok.mod,ok.kind,ok.glob,ok.blt,ok.above,ok.inj,ok.has,ok.cab,ok.hd,ok.frames,ok.stk,ok.exf,ok.bs,ok.bsz,ok.noex,ok.exfs,ok.funs,ok.frf⟩
theorem Cx.Ok.unwish {X:Cx}{E:Value→Shared→Prop}(ok:(X.wish E).Ok):X.Ok :=
 ⟨ok.mod,ok.kind,ok.glob,ok.blt,ok.above,ok.inj,ok.has,ok.cab,ok.hd,ok.frames,ok.stk,ok.exf,ok.bs,ok.bsz,ok.noex,ok.exfs,ok.funs,ok.frf⟩
section
variable {X:Cx} {pins:List (Addr×Obj)} {σ:St} {H:Hp} {s:Shared} {E:Value→Shared→Prop}
theorem Inv.wish (I:Inv X pins σ H s)(E:Value→Shared→Prop):Inv (X.wish E) pins σ H s:=⟨I.ok.wish E,I.os,I.bare,I.base,I.loc,I.cell,I.free,I.freeC,I.pin,I.hok,I.len⟩
theorem Inv.unwish (I:Inv (X.wish E) pins σ H s):Inv X pins σ H s:=⟨I.ok.unwish,I.os,I.bare,I.base,I.loc,I.cell,I.free,I.freeC,I.pin,I.hok,I.len⟩
theorem SP.unwish (h:SP (X.wish E) pins D f s'):SP X pins D f s':=by
 cases f with
 | next=>obtain⟨σ',H',I,q⟩:=h;exact⟨σ',H',I.unwish,q⟩
 | brk=>obtain⟨σ',H',I,q⟩:=h;exact⟨σ',H',I.unwish,q⟩
 | cont=>obtain⟨σ',H',I,q⟩:=h;exact⟨σ',H',I.unwish,q⟩
 | ret u=>obtain⟨v,σ',H',I,r,q⟩:=h;exact⟨v,σ',H',I.unwish,r,q⟩
theorem PSs.nox {st:List Stmt}{t:TS}(h:PSs X.nox st t):PSs X st t:=fun pins s σ H D I hw =>
 wpAny_mono (@h pins s σ H D (I.wish _) hw) (fun _ _ q=>q.unwish) fun _ _ z=>False.elim z
end
section
variable {X:Cx} {st:Stmt} {rest:List Stmt} {t u:TS} {e:Expr} {te:TE} {pos:Pos}
def xgY:TS:=fun D σ H=>D.nx σ H
def xfG (t u:TS):TS:=fun D σ H=>t { D with nx:=u D } σ H
theorem xV:PSs X [] xgY:=fun _ _ σ H _ I h=>wpAny_execs_nil ⟨σ,H,I,h⟩
theorem xc (h1:PS X st t)(h2:PSs X rest u):PSs X (st::rest) (xfG t u):=by
 intro pins s σ H D I h
 refine wpAny_execs_cons (thn (@h1 pins s σ H { D with nx:=u D } I h) fun f s1 q=>?_)
 cases f with
 | next =>
  obtain⟨σ',H',I',q⟩:=q
  exact @h2 pins s1 σ' H' D I' q
 | ret v=>exact q
 | brk=>exact q
 | cont=>exact q
theorem xh (h1:PS X st t):PSs X [st] t:=by
 intro pins s σ H D I h
 refine wpAny_execs_cons (thn (@h1 pins s σ H D I h) fun f s1 q=>?_)
 cases f with
 | next=>exact wpAny_execs_nil q
 | ret v=>exact q
 | brk=>exact q
 | cont=>exact q
theorem Inv.quiet (I:Inv X pins σ H s):interactive X.env=false:=by simp[interactive,I.ok.kind]
def xcJ (te:TE):TS:=fun D σ H=>te σ H fun _ H1=>D.nx σ H1
theorem vj (he:PE X e te)(hs:swapsWith e none pos.line X.env=pure false:=by rfl):PS X (.Expr e pos) (xcJ te):=by
 intro pins s σ H D I h
 exact wpAny_Expr_any (thn (@he pins s σ H _ I h) fun v s1 ⟨x,H1,I1,r1,q1⟩=>⟨σ,H1,I1,q1⟩) I.quiet hs
def xhg (te:TE):TS:=fun D σ H=>te σ H D.rt
theorem xE (he:PE X e te):PS X (.Return (some e) pos) (xhg te):=by
 intro pins s σ H D I h
 exact wpAny_Return_some (thn (@he pins s σ H _ I h) fun v s1 ⟨x,H1,I1,r1,q1⟩=>⟨x,σ,H1,I1,r1,q1⟩)
def xhX (c:TT)(t u:TS):TS:=fun D σ H=>c σ H fun b H1=>if b=true then t D σ H1 else u D σ H1
theorem yE (hc:PT X c tc)(ha:PSs X a t)(hb:PSs X b u):PS X (.If c a b pos) (xhX tc t u):=by
 intro pins s σ H D I h
 refine wpAny_If (thn (@hc pins s σ H _ I h) fun d s1 ⟨H1,I1,q1⟩=>?_)
 cases d with
 | true=>exact @ha pins s1 σ H1 D I1 q1
 | false=>exact @hb pins s1 σ H1 D I1 q1
def ot:TS:=fun _ _ _=>False
theorem fc:PS X st ot:=fun _ _ _ _ _ _ h=>h.elim
end
abbrev TG:=V→St→Hp→(St→Hp→Prop)→Prop
abbrev TGs:=List V→St→Hp→(St→Hp→Prop)→Prop
def PG (X:Cx)(target:Expr)(t:TG):Prop :=
 ∀(pins:List (Addr×Obj)) (s:Shared) (σ:St) (H:Hp) (v:V) (u:Value) (Q:St→Hp→Prop),Inv X pins σ H s→RelV v u→t v σ H Q →
  wpAny (model X.prog X.w) X.A (assign target X.env u) (fun _ s'=>∃ σ' H',Inv X pins σ' H' s'∧Q σ' H') X.xe s
def PGs (X:Cx)(ts:List Expr)(t:TGs):Prop :=
 ∀(pins:List (Addr×Obj)) (s:Shared) (σ:St) (H:Hp) (vs:List V) (us:List Value) (Q:St→Hp→Prop),Inv X pins σ H s→zh vs us→t vs σ H Q →
  wpAny (model X.prog X.w) X.A (assignInOrder ((assignEach ts X.env).map (·.2)) us) (fun _ s'=>∃ σ' H',Inv X pins σ' H' s'∧Q σ' H') X.xe s
abbrev xiG:=V→V→V→Hp→(Hp→Prop)→Prop
def xia (X:Cx)(t:xiG):Prop :=
 ∀(pins:List (Addr×Obj)) (s:Shared) (σ:St) (H:Hp) (o i v:V) (ov iv u:Value) (Q:Hp→Prop),Inv X pins σ H s→RelV o ov→RelV i iv→RelV v u→t o i v H Q →
  wpAny (model X.prog X.w) X.A (setItem ov iv u) (fun _ s'=>∃H',Inv X pins σ H' s'∧Q H') X.xe s
section
variable {X:Cx} {pos:Pos}
def gJ (i:Nat):TG:=fun v σ H Q=>Q (σ.set i (some v)) H
theorem xY (hN:X.N.Nodup)(hi:X.N[i]? = some x)(hx:Loc X.env.scope x)(hf:X.fn x=true∨X.env.scope.names.lookup x=some .local:=by first | exact .inl rfl | exact .inr rfl | assumption):PG X (.Name x pos) (gJ i):=by
 intro pins s σ H v u Q I r h
 exact wpAny_assign_Name (jK I hN hi hx r (fun s' I'=>⟨_,H,I',h⟩) hf)
def xhs:TGs:=fun vs σ H Q=>vs=[]∧Q σ H
def xcB (t:TG)(u:TGs):TGs:=fun vs σ H Q=>∃v r,vs=v::r∧t v σ H fun σ' H'=>u r σ' H' Q
theorem yo:PGs X [] xhs:=by
 intro pins s σ H vs us Q I r h
 obtain⟨e,h⟩:=h
 subst e
 cases r
 exact assignInOrder_nil ⟨σ,H,I,h⟩
theorem xu (h1:PG X e t)(h2:PGs X es u)
  (hs:(assignEach (e::es) X.env).map (·.2)=assign e X.env::(assignEach es X.env).map (·.2):=by rfl):PGs X (e::es) (xcB t u):=by
 intro pins s σ H vs us Q I r h
 obtain⟨v,vr,e1,h⟩:=h
 subst e1
 cases r with
 | cons r rr =>
  rw[hs]
  refine assignInOrder_cons (thn (@h1 pins s σ H _ _ _ I r h) fun _ s1 ⟨σ1,H1,I1,q1⟩=>?_)
  exact @h2 pins s1 σ1 H1 _ _ Q I1 rr q1
def xgW (K:PySem.W.Frag)(n:Nat)(t:TGs):TG:=fun v σ H Q=>∃a xs,v=.ref a∧SqT K H a xs∧xs.length=n∧t xs σ H Q
theorem xg7 (hc:X.calm=true)(h:PGs X es t)
  (hn:(assignEach es X.env).length=n:=by rfl) (hst:(assignEach es X.env).findIdx? (·.1)=none:=by rfl):PG X (.Tuple es k pos) (xgW X.K n t):=by
 intro pins s σ H v u Q I r hw
 obtain⟨a,xs,e1,hq,hl,hw⟩:=hw
 subst e1
 cases r
 obtain⟨its,rv,ht,hz⟩:=I.tuple hq
 refine assign_Tuple_tuple (I.ok.hd hc) ht (by simp[hn,←hl,rv.length]) hst fun h' hx=>?_
 have I1:Inv X pins σ H { s with heap:=h' }:=I.kept (t':=s.toks) fun b o e=>hx b o (xlg (Heap.lt_size e)) e
 exact @h pins _ σ H xs _ Q I1 (by simpa using rv) hw
def xir (to ti:TE)(t:xiG):TG:=fun v σ H Q=>to σ H fun o H1=>ti σ H1 fun i H2=>t o i v H2 fun H3=>Q σ H3
theorem m_ (ho:PE X o to)(hi:PE X i ti)(hs:xia X t)
  (ha:∀v,assign (.Subscript o i pos) X.env v=(do
   let ov ←holding [v] (eval o X.env)
   let iv ←holding [v,ov] (eval i X.env)
   standAt pos
   holding [v,ov,iv] (setItem ov iv v)
   release [v,ov,iv] []):=by intro _;rfl):PG X (.Subscript o i pos) (xir to ti t):=by
 intro pins s σ H v u Q I r h
 rw[ha]
 refine wpAny_bind (wpAny_holding (thn (@ho pins s σ H _ I h) fun ov s1 ⟨x,H1,I1,r1,q1⟩=>?_))
 refine wpAny_bind (wpAny_holding (thn (@hi pins s1 σ H1 _ I1 q1) fun iv s2 ⟨y,H2,I2,r2,q2⟩=>?_))
 refine wpAny_bind (wpAny_standAt (wpAny_bind (wpAny_holding (thn (@hs pins s2 σ H2 x y v ov iv u _ I2 r1 r2 r q2) fun _ s3 ⟨H3,I3,q3⟩=>?_))))
 exact wpAny_release ⟨σ,H3,I3,q3⟩
def xc2 (te:TE)(g:TG):TS:=fun D σ H=>te σ H fun x H1=>g x σ H1 D.nx
theorem wH (he:PE X e te)(hg:PG X tg g)(hs:swapsWithSole [tg] e pos.line X.env=pure false:=by rfl)(hw:swappedStores [tg] e X.env=pure none:=by rfl)
  (h1:(assignEach [tg] X.env).map (·.2)=[assign tg X.env]:=by rfl):PS X (.Assign [tg] e pos) (xc2 te g):=by
 intro pins s σ H D I h
 refine wpAny_Assign_stores (thn (@he pins s σ H _ I h) fun v s1 ⟨x,H1,I1,r1,q1⟩=>?_) hs hw
 rw[h1]
 exact thn (@hg pins s1 σ H1 x v _ I1 r1 q1) fun _ s2 q=>q
theorem uf (hN:X.N.Nodup)(hi:X.N[i]? = some x)(hx:Loc X.env.scope x)(he:PE X e te)(hs:swapsWith e (some (.Name x pos')) pos.line X.env=pure false:=by rfl)(hf:X.fn x=true∨X.env.scope.names.lookup x=some .local:=by first | exact .inl rfl | exact .inr rfl | assumption) :
  PS X (.Assign [.Name x pos'] e pos) (xc2 te (gJ i)):=by
 intro pins s σ H D I h
 refine wpAny_Assign_Name (thn (@he pins s σ H _ I h) fun v s1 ⟨y,H1,I1,r1,q1⟩=>?_) hs
 exact jK I1 hN hi hx r1 (fun s2 I2=>⟨_,H1,I2,q1⟩) hf
def xim (i j:Nat)(ta:TA):TS:=fun D σ H=>ta σ H fun vs H1=>∃v w,vs=[v,w]∧D.nx ((σ.set i (some v)).set j (some w)) H1
theorem mX (hc:X.calm=true)(hN:X.N.Nodup)(hi:X.N[i]? = some x)(hj:X.N[j]? = some y)(hij:i≠j)
  (hx:X.env.scope.names.lookup x=some .local) (hy:X.env.scope.names.lookup y=some .local) (ha:PA X [a,b] ta)
  (hw:swappedStores [.Tuple [.Name x px,.Name y py] kt pt] (.Tuple [a,b] k2 pt2) X.env=pure (some [x,y]))
  (hs:swapsWithSole [.Tuple [.Name x px,.Name y py] kt pt] (.Tuple [a,b] k2 pt2) pos.line X.env=pure false:=by rfl) :
  PS X (.Assign [.Tuple [.Name x px,.Name y py] kt pt] (.Tuple [a,b] k2 pt2) pos) (xim i j ta):=by
 intro pins s σ H D I h
 rw[exec_Assign_arm]
 refine wpAny_bind (wpAny_standAt ?_)
 rw[hs]
 refine wpAny_bind (wpAny_pure ?_)
 rw[if_neg (by decide)]
 refine wpAny_bind (Tuple_ (thn (@ha _ pins s σ H _ I h) fun us s1 ⟨vs,H1,I1,r1,q1⟩=>?_))
 obtain⟨v,w,e1,q1⟩:=q1
 subst e1
 obtain⟨u1,u2,rfl,rv,rw'⟩:∃u1 u2,us=[u1,u2]∧RelV v u1∧RelV w u2:=by
  cases r1 with
  | cons p q =>
   cases q with
   | cons p' q' =>
    cases q'
    exact⟨_,_,rfl,p,p'⟩
 refine wpAny_newObj_type ?_ (by show 2≤sizeLine;decide)
 have I2:Inv X pins σ H1 { s1 with heap:=s1.heap.push { cls:=.type "tuple", data:=.seq [u1,u2].toArray } }:=I1.kept (t':=s1.toks) fun b o e=>Heap.get?_push_of_some _ e
 rw[hw]
 refine wpAny_bind (wpAny_pure ?_)
 show wpAny (model X.prog X.w) X.A (do rule "assign.swapped-stores"; let items ←unpackItems (.ref s1.heap.objs.size) 2 none;assignInOrder [fun v=>bindName X.env y v,fun v=>bindName X.env x v] items.reverse;pure Flow.next) _ _ _
 refine wpAny_bind (wpAny_rule (wpAny_bind (unpackItems_tuple (items := #[u1,u2]) (I.ok.hd hc) (IsTup.new s1.heap _) fun h' hx'=>?_)))
 have I3:=I2.kept (h':=h') (t':=s1.toks) fun b o e=>hx' b o (xlg (Heap.lt_size e)) e
 show wpAny _ _ (assignInOrder [fun v=>bindName X.env y v,fun v=>bindName X.env x v] [u2,u1] >>= fun _=>pure Flow.next) _ _ _
 refine wpAny_bind (assignInOrder_cons (wpAny_bindName (jK I3 hN hj (.inl hy) rw' (fun s2 I4=>?_) (.inr hy))))
 refine assignInOrder_cons (wpAny_bindName (jK I4 hN hi (.inl hx) rv (fun s3 I5=>assignInOrder_nil (wpAny_pure ?_)) (.inr hx)))
 rw[List.set_comm _ _ (Ne.symm hij)] at I5
 exact⟨_,H1,I5,q1⟩
end
section
variable {X:Cx} {pos:Pos}
def xdx (c:TT)(tb:TS):TS:=fun D σ H=>∃W:Nat→St→Hp→Prop,(∃m,W m σ H)∧∀m σ H,W m σ H →
 c σ H fun b H1=>if b=true then ∃N:St→Hp→Prop,(∀ σ' H',N σ' H'→∃m',m' < m∧W m' σ' H')∧tb { D with nx:=N,ct:=N,bk:=D.nx } σ H1 else D.nx σ H1
theorem oE (hp:PassesOwn (model X.prog X.w) X.A X.env X.xe)(hc:PT X c tc)(hb:PSs X body tb):PS X (.While c body [] pos) (xdx tc tb):=by
 intro pins s σ H D I h
 obtain⟨W,⟨m0,w0⟩,turn⟩:=h
 refine wpAny_While (codeAny_whileLoop (fun n s'=>∃ σ' H',Inv X pins σ' H' s'∧W n σ' H') ?_ m0 ⟨σ,H,I,w0⟩)
 rintro n s1 ⟨σ1,H1,I1,w1⟩
 refine wpAny_passesOwn hp (thn (@hc pins s1 σ1 H1 _ I1 (turn n σ1 H1 w1)) fun b s2 ⟨H2,I2,q2⟩=>?_)
 cases b with
 | true =>
  obtain⟨N,hN,q2⟩:=q2
  rw[if_pos rfl]
  refine wpAny_passesOwn hp (thn (@hb pins s2 σ1 H2 _ I2 q2) fun f s3 q3=>?_)
  cases f with
  | next =>
   obtain⟨σ3,H3,I3,n3⟩:=q3
   obtain⟨m',hm,w3⟩:=hN σ3 H3 n3
   exact⟨m',hm,σ3,H3,I3,w3⟩
  | cont =>
   obtain⟨σ3,H3,I3,n3⟩:=q3
   obtain⟨m',hm,w3⟩:=hN σ3 H3 n3
   exact⟨m',hm,σ3,H3,I3,w3⟩
  | brk=>exact q3
  | ret v=>exact q3
 | false =>
  rw[if_neg xji]
  exact wpAny_execs_nil ⟨σ1,H2,I2,q2⟩
end
structure It where
 go:Nat→Hp→Prop
 yld:Nat→Hp→V→Hp→Prop
 stop:Nat→Hp→Prop
def cY (X:Cx)(pins:List (Addr×Obj))(H:Hp)(b:Addr):Prop :=
 H b=none∧b≠X.env.locals∧b∉X.fs∧(b∈X.ex∨X.s₀.heap.objs.size≤b)∧(∀x c,X.env.cells.lookup x=some c→c≠b)∧∀p∈X.pn++pins,p.1≠b
theorem Inv.fpOk (I:Inv X pins σ H s)(hb:s.heap.objs.size≤b)(hn:H' b=none):cY X pins H' b:=by
 refine⟨hn,xlf (xlb I.lt hb),I.nofs hb,.inr (xk9 I.sz hb),fun x c e z=>?_,fun p hp z=>?_⟩
 ·obtain⟨v,q⟩:=I.cell x c e
  exact absurd (xlb q.lt (by rw[z];exact hb)) (xk_ _)
 ·exact absurd (xlb (Heap.lt_size (I.pin p hp).1) (by rw[z];exact hb)) (xk_ _)
structure Turn (P:Program)(w:World)(K:PySem.W.Frag)(tg:Expr)(J:It)(fp:List Addr)(it:Addr)(tn:Nat→Heap→Prop):Prop where
 mem:it∈fp
 obj:∀i h,tn i h→∀b∈fp,∃o,h.get? b=some o∧∀v,o.data≠.cell v
 keep:∀i h h',tn i h→(∀b∈fp,∀o,h.get? b=some o→h'.get? b=some o)→tn i h'
 item:∀(X:Cx),X.prog=P→X.w=w→X.K=K→X.calm=true→∀(i:Nat) (pins:List (Addr×Obj)) (s:Shared) (σ:St) (H:Hp) (E:Value→Shared→Prop),Inv X pins σ H s→(∀b∈fp,cY X pins H b)→tn i s.heap→J.go i H →
  wpAny (model P w) X.A (pyNext (.ref it)) (fun r s1=>∃u,r=some u ∧
   wpAny (model P w) X.A (letOwnedTupleGo tg (.ref it) u) (fun _ s2=>∃x H',Inv X pins σ H' s2∧RelV x u∧J.yld i H x H'∧tn (i+1) s2.heap∧∀b∈fp,H' b=none) E s1) E s
 done:∀(X:Cx),X.prog=P→X.w=w→X.K=K→X.calm=true→∀(i:Nat) (pins:List (Addr×Obj)) (s:Shared) (σ:St) (H:Hp) (E:Value→Shared→Prop),Inv X pins σ H s→(∀b∈fp,cY X pins H b)→tn i s.heap→J.stop i H →
  wpAny (model P w) X.A (pyNext (.ref it)) (fun r s1=>r=none∧Inv X pins σ H s1) E s
 self:∀(A:Around) (i:Nat) (s:Shared) (Q:Value→Shared→Prop) (E:Value→Shared→Prop),tn i s.heap→Q (.ref it) s→wpAny (model P w) A (pyIter (.ref it)) Q E s
abbrev TI:=St→Hp→(It→Hp→Prop)→Prop
def PIE (X:Cx)(pins:List (Addr×Obj))(σ:St)(tg:Expr)(R:It→Hp→Prop)(itv:Value)(s2:Shared):Prop :=
 ∃(it:Addr) (fp:List Addr) (tn:Nat→Heap→Prop) (J:It) (H':Hp),itv=.ref it∧Inv X pins σ H' s2∧Turn X.prog X.w X.K tg J fp it tn∧tn 0 s2.heap∧(∀b∈fp,cY X pins H' b)∧R J H'
def PI (X:Cx)(tg iter:Expr)(wi:TI):Prop :=
 ∀(pins:List (Addr×Obj)) (s:Shared) (σ:St) (H:Hp) (R:It→Hp→Prop),Inv X pins σ H s→wi σ H R →
  wpAny (model X.prog X.w) X.A (eval iter X.env) (fun v s1=>wpAny (model X.prog X.w) X.A (pyIter v) (PIE X pins σ tg R) X.xe s1) X.xe s
theorem xeJ (ho:s.heap.get? it=some o)(hc:o.cls=.type n)(hd:o.data=.fields vs)
  (hn:["enumerate", "zip", "dict_itemiterator", "dict_reverseitemiterator", "odict_iterator", "itertools.zip_longest", "itertools.pairwise"].contains n=false) (hQ:Q () s):wpAny M A (letOwnedTupleGo tg (.ref it) u) Q E s:=by
 unfold letOwnedTupleGo
 cases tg<;>first
  | exact wpAny_pure hQ
  | (cases u<;>first
    | exact wpAny_pure hQ
    | (refine wpAny_bind (wpAny_load ho ?_)
       rw[hc,hd]
       show wpAny M A (if (["enumerate", "zip", "dict_itemiterator", "dict_reverseitemiterator", "odict_iterator", "itertools.zip_longest", "itertools.pairwise"].contains n&&vs[0]? == some (rawInt _))=true then _ else _) Q E s
       rw[if_neg (by intro h;rw[hn,Bool.false_and] at h;cases h)]
       exact wpAny_pure hQ))
def Itl (K:PySem.W.Frag)(a:Addr):It :=
 ⟨fun i H=>∃xs x,SqL K H a xs∧xs[i]? = some x,fun i H x H'=>H'=H∧∀xs,SqL K H a xs→xs[i]? = some x,fun i H=>∃xs,SqL K H a xs∧xs.length≤i⟩
def Itt (K:PySem.W.Frag)(a:Addr):It :=
 ⟨fun i H=>∃xs x,SqT K H a xs∧xs[i]? = some x,fun i H x H'=>H'=H∧∀xs,SqT K H a xs→xs[i]? = some x,fun i H=>∃xs,SqT K H a xs∧xs.length≤i⟩
def Itr (lo:Int)(n:Nat):It:=⟨fun i _=>i<n,fun i H x H'=>H'=H∧x=.int (lo+i),fun i _=>n≤i⟩
theorem xb0 {P:Program}{w:World}{K:PySem.W.Frag}{tg:Expr}(a it:Addr):Turn P w K tg (Itl K a) [it] it (fun i h=>h.IsListIter it a i) where
 mem:=by simp
 obj:=fun i h st b hb=>by
  have e:b=it:=by simpa using hb
  subst e
  obtain⟨o,e,c,d⟩:=st
  exact⟨o,e,fun v z=>by rw[d] at z;cases z⟩
 keep:=fun i h h' st k=>st.at fun o e=>k it (by simp) o e
 item:=by
  intro X hP hw hK hc i pins s σ H E I hf st hg
  subst hP hw hK
  obtain⟨xs,x,hq,hx⟩:=hg
  obtain⟨its,rv,p,hz⟩:=I.list hq
  obtain⟨u,hu,ru⟩:=rv.get hx
  obtain⟨f0,f1,f2,f3,f4,f5⟩:=hf it (by simp)
  refine wpAny_pyNext_list_item st p.isList (x:=u) (by simpa using hu) fun h' st' sb=>?_
  have I1:Inv X pins σ H { s with heap:=h' }:=I.turned (t':=s.toks) (fun b o hb e=>(sb.2 b hb).trans e) f0 f1 f3 f4 f5
  obtain⟨o,e,c,d⟩:=id st'
  exact⟨u,rfl,xeJ (s:={ s with heap:=h' }) e c d (by decide) ⟨x,H,I1,ru,⟨rfl,fun ys hy=>by rw[I.list_inj hy hq];exact hx⟩,st',fun b hb=>(hf b hb).1⟩⟩
 done:=by
  intro X hP hw hK hc i pins s σ H E I hf st hg
  subst hP hw hK
  obtain⟨xs,hq,hx⟩:=hg
  obtain⟨its,rv,p,hz⟩:=I.list hq
  obtain⟨f0,f1,f2,f3,f4,f5⟩:=hf it (by simp)
  have hl:=rv.length
  exact wpAny_pyNext_list_end (I.ok.hd hc) st p.isList (by simp;omega) fun h' eb=>⟨rfl,I.turned (t':=s.toks) (fun b o hb e=>eb b o hb e) f0 f1 f3 f4 f5⟩
 self:=fun _ _ _ _ _ st h=>wpAny_pyIter_listiter st h
theorem lF {P:Program}{w:World}{K:PySem.W.Frag}{tg:Expr}(a it:Addr):Turn P w K tg (Itt K a) [it] it (fun i h=>h.IsTupleIter it a i) where
 mem:=by simp
 obj:=fun i h st b hb=>by
  have e:b=it:=by simpa using hb
  subst e
  obtain⟨o,e,c,d⟩:=st
  exact⟨o,e,fun v z=>by rw[d] at z;cases z⟩
 keep:=fun i h h' st k=>st.at fun o e=>k it (by simp) o e
 item:=by
  intro X hP hw hK hc i pins s σ H E I hf st hg
  subst hP hw hK
  obtain⟨xs,x,hq,hx⟩:=hg
  obtain⟨its,rv,p,hz⟩:=I.tuple hq
  obtain⟨u,hu,ru⟩:=rv.get hx
  obtain⟨f0,f1,f2,f3,f4,f5⟩:=hf it (by simp)
  refine wpAny_pyNext_tuple_item st (show s.heap.IsTuple a its.toArray from p) (x:=u) (by simpa using hu) fun h' st' sb=>?_
  have I1:Inv X pins σ H { s with heap:=h' }:=I.turned (t':=s.toks) (fun b o hb e=>(sb.2 b hb).trans e) f0 f1 f3 f4 f5
  obtain⟨o,e,c,d⟩:=id st'
  exact⟨u,rfl,xeJ (s:={ s with heap:=h' }) e c d (by decide) ⟨x,H,I1,ru,⟨rfl,fun ys hy=>by rw[I.tuple_inj hy hq];exact hx⟩,st',fun b hb=>(hf b hb).1⟩⟩
 done:=by
  intro X hP hw hK hc i pins s σ H E I hf st hg
  subst hP hw hK
  obtain⟨xs,hq,hx⟩:=hg
  obtain⟨its,rv,p,hz⟩:=I.tuple hq
  obtain⟨f0,f1,f2,f3,f4,f5⟩:=hf it (by simp)
  have hl:=rv.length
  exact wpAny_pyNext_tuple_end (I.ok.hd hc) st (show s.heap.IsTuple a its.toArray from p) (by simp;omega) fun h' eb=>⟨rfl,I.turned (t':=s.toks) (fun b o hb e=>eb b o hb e) f0 f1 f3 f4 f5⟩
 self:=fun _ _ _ _ _ st h=>wpAny_pyIter_tupleiter st h
theorem lV {P:Program}{w:World}{K:PySem.W.Frag}{tg:Expr}(it:Addr)(lo:Int)(n:Nat):Turn P w K tg (Itr lo n) [it] it (fun i h=>IsRangeIter h it (lo+(i:Nat)*1) ((n:Int)-(i:Nat)) 1) where
 mem:=by simp
 obj:=fun i h st b hb=>by
  have e:b=it:=by simpa using hb
  subst e
  exact⟨_,st,fun v z=>by
   have z':Data.fields _=Data.cell v:=z
   cases z'⟩
 keep:=fun i h h' st k=>k it (by simp) _ st
 item:=by
  intro X hP hw hK hc i pins s σ H E I hf st hg
  subst hP hw hK
  obtain⟨f0,f1,f2,f3,f4,f5⟩:=hf it (by simp)
  have W:=Walks.range (prog:=X.prog) (w:=X.w) (I.ok.hd hc) it lo 1 n
  refine W.item i s _ _ hg st fun v h' tk hv st' kk=>?_
  obtain⟨t,rfl⟩:=hv
  have I1:Inv X pins σ H { s with heap:=h',toks:=tk }:=I.turned (fun b o hb e=>kk b o (by simpa using hb) e) f0 f1 f3 f4 f5
  refine⟨_,rfl,xeJ (s:={ s with heap:=h',toks:=tk }) (n := "range_iterator") st' rfl rfl (by decide) ⟨.int (lo+i),H,I1,⟨t,?_⟩,⟨rfl,rfl⟩,st',fun b hb=>(hf b hb).1⟩⟩
  rw[xjM]
 done:=by
  intro X hP hw hK hc i pins s σ H E I hf st hg
  subst hP hw hK
  obtain⟨f0,f1,f2,f3,f4,f5⟩:=hf it (by simp)
  exact wpAny_pyNext_range_end (I.ok.hd hc) st (by have:n≤i:=hg;omega) fun h' eb=>⟨rfl,I.turned (t':=s.toks) (fun b o hb e=>eb b o hb e) f0 f1 f3 f4 f5⟩
 self:=fun _ _ _ _ _ st h=>wpAny_pyIter_rangeiter st h
end L2
namespace L2
open PySem PySem.Spec PyProof.Rows
section
variable {X:Cx} {tg:Expr}
def xhT (K:PySem.W.Frag)(tl:TE):TI:=fun σ H R=>tl σ H fun x H1=>∃a,x=.ref a∧(∃xs,SqL K H1 a xs)∧R (Itl K a) H1
theorem xcF {pins:List (Addr×Obj)}{σ:St}{H:Hp}{s:Shared}{R:It→Hp→Prop}{E:Value→Shared→Prop}{lo hi:Int}{t u v:Tok}{tk:Nat}(I:Inv X pins σ H s)(h1:-(2 ^ 62)≤lo)(h2:lo<2 ^ 62)(h3:-(2 ^ 62)≤hi)(h4:hi<2 ^ 62)
  (q:R (Itr lo (hi-lo).toNat) H):wpAny (model X.prog X.w) X.A (pyIter (.ref s.heap.objs.size)) (PIE X pins σ tg R) E { s with heap:=s.heap.push { cls:=.type "range", data:=.fields #[.int lo t,.int hi u,.int 1 v] },toks:=tk }:=by
 refine wpAny_pyIter_range (IsRange.new ..) (small_one h1 h2 h3 h4) ?_
 have I1:Inv X pins σ H { s with heap:=s.heap.push { cls:=.type "range", data:=.fields #[.int lo t,.int hi u,.int 1 v] },toks:=tk }:=I.kept fun b o e=>Heap.get?_push_of_some _ e
 refine⟨(s.heap.push { cls:=.type "range", data:=.fields #[.int lo t,.int hi u,.int 1 v] }).objs.size,[(s.heap.push { cls:=.type "range", data:=.fields #[.int lo t,.int hi u,.int 1 v] }).objs.size],_,_,H,rfl,
  I1.kept (t':=tk) fun b o e=>Heap.get?_push_of_some _ e,lV _ lo (hi-lo).toNat,?_,fun b hb=>?_,q⟩
 ·have e1:lo+((0:Nat):Int)*1=lo:=by simp
  have e2:(((hi-lo).toNat:Nat):Int)-((0:Nat):Int)=Builtin.Range.rangeSize lo hi 1:=by rw[rangeSize_one];split<;>omega
  show IsRangeIter _ _ (lo+((0:Nat):Int)*1) ((((hi-lo).toNat:Nat):Int)-((0:Nat):Int)) 1
  rw[e1,e2]
  exact Heap.get?_push_size _ rfl
 ·have e:b=(s.heap.push { cls:=.type "range", data:=.fields #[.int lo t,.int hi u,.int 1 v] }).objs.size:=by simpa using hb
  subst e
  exact I1.fpOk (xk7 _) (I1.hok.fresh (xk7 _))
def xgQ (ta:TA):TI:=fun σ H R=>ta σ H fun vs H1=>∃j:Int,vs=[.int j]∧-(2 ^ 62)≤j∧j<2 ^ 62∧R (Itr 0 j.toNat) H1
theorem uH {a:Expr}{ta:TA}{p pos:Pos}(hg:Gl X "range")(hm:X.mg "range" = none)(ha:PA X [a] ta)(hs:starEach [a] X.env=[(false,eval a X.env)]:=by rfl):PI X tg (.Call (.Name "range" p) [a] [] pos) (xgQ ta):=by
 intro pins s σ H R I h
 refine Call_ (sH I hg hm boot_range (PyProof.Rows.callWith_type1 (thn (@ha pos pins s σ H _ I h) fun us s1 ⟨vs,H1,I1,r1,q1⟩=>?_) hs rfl))
 obtain⟨j,e,q1,q2,q⟩:=q1
 subst e
 cases r1 with
 | cons r rr =>
  cases rr
  obtain⟨t,rfl⟩:=r
  exact call_range_1 (xcF I1 (by omega) (by omega) q1 q2 (by simpa using q))
def xiR (wi:TI)(g:TG)(tb:TS):TS:=fun D σ H=>wi σ H fun J H1=>∃W:Nat→Nat→St→Hp→Prop,(∃m,W 0 m σ H1)∧∀i m σ H,W i m σ H →
 (J.stop i H∧D.nx σ H)∨(J.go i H∧∃N:St→Hp→Prop,(∀ σ' H',N σ' H'→∃m',m' < m∧W (i+1) m' σ' H')∧∀x H',J.yld i H x H'→g x σ H' fun σ2 H2=>tb { D with nx:=N,ct:=N,bk:=D.nx } σ2 H2)
def qT (fp:List Addr)(h:Heap):List (Addr×Obj):=fp.filterMap fun b=>(h.get? b).map fun o=>(b,o)
theorem zZ (hb:b∈fp)(e:h.get? b=some o):(b,o)∈qT fp h:=xkI.mpr ⟨b,hb,by rw[e];rfl⟩
theorem fJ (hp:p∈qT fp h):p.1∈fp∧h.get? p.1=some p.2:=by
 obtain⟨b,hb,e⟩:=xkI.mp hp
 cases q:h.get? b with
 | none=>rw[q] at e;cases e
 | some o =>
  rw[q] at e
  have e':(b,o)=p:=xlj e
  subst e'
  exact⟨hb,q⟩
theorem Inv.pinned (I:Inv X pins σ H s)(hf:∀b∈fp,cY X pins H b)(ho:∀b∈fp,∃o,s.heap.get? b=some o∧∀v,o.data≠.cell v):Inv X (pins++qT fp s.heap) σ H s :=
 I.pins_of fun p hp=>(xkB.mp hp).elim (fun z=>I.pin p (xkD _ z)) fun z=>by
  obtain⟨hb,e⟩:=fJ z
  obtain⟨f0,f1,f2,_⟩:=hf p.1 hb
  obtain⟨o,e',d⟩:=ho p.1 hb
  rw[e] at e';cases e'
  exact⟨e,f0,f1,f2,d⟩
theorem Inv.unpinned (I:Inv X (pins++pl) σ H s):Inv X pins σ H s:=I.pins_of fun p hp=>I.pin p (xkD _ (xkC _ hp))
theorem zY (hp:PassesOwn (model X.prog X.w) X.A X.env X.xe)(hc:X.calm=true)(hi:PI X tg iter wi)(hg:PG X tg g)(hb:PSs X body tb)
  (hs:∀x,foldedSetIterable iter X.env x=pure x:=by intro _;rfl):PS X (.For tg iter body [] pos) (xiR wi g tb):=by
 intro pins s σ H D I h
 refine wpAny_For (thn (@hi pins s σ H _ I h) fun v s1 h1=>thn h1 fun itv s2 h2=>?_) hs
 obtain⟨it,fp,tn,J,H2,e,I2,T,st2,f2,W,⟨m0,w0⟩,turn⟩:=h2
 subst e
 have stat:∀ {H':Hp},(∀b∈fp,H' b=none)→∀b∈fp,cY X pins H' b:=fun hn b hb=>⟨hn b hb,(f2 b hb).2⟩
 refine codeAny_forLoop_any (fun n s'=>∃i σ' H',Inv X pins σ' H' s'∧tn i s'.heap∧(∀b∈fp,H' b=none)∧W i n σ' H') ?_ m0 ⟨0,σ,H2,I2,st2,fun b hb=>(f2 b hb).1,w0⟩
 rintro n s3 ⟨i,σ3,H3,I3,st3,fr3,w3⟩
 rcases turn i n σ3 H3 w3 with ⟨stop,qn⟩ | ⟨go,N,hN,step⟩
 ·refine wpAny_passesOwn hp (thn (T.done X rfl rfl rfl hc i pins s3 σ3 H3 X.xe I3 (stat fr3) st3 stop) fun r s4 ⟨hr,I4⟩=>?_)
  subst hr
  exact wpAny_execs_nil ⟨σ3,H3,I4,qn⟩
 ·refine wpAny_passesOwn hp (thn (T.item X rfl rfl rfl hc i pins s3 σ3 H3 X.xe I3 (stat fr3) st3 go) fun r s4 ⟨u,hr,h4⟩=>?_)
  subst hr
  refine wpAny_passesOwn hp (thn h4 fun _ s5 ⟨x,H5,I5,r5,y5,st5,fr5⟩=>?_)
  have I5':=I5.pinned (stat fr5) (T.obj _ _ st5)
  refine wpAny_passesOwn hp (thn (hg _ s5 σ3 H5 x u _ I5' r5 (step x H5 y5)) fun _ s6 ⟨σ6,H6,I6,q6⟩=>?_)
  refine wpAny_passesOwn hp (thn (@hb _ s6 σ6 H6 _ I6 q6) fun f s7 q7=>?_)
  have again:∀ {σ7:St} {H7:Hp},Inv X (pins++qT fp s5.heap) σ7 H7 s7→N σ7 H7→∃m,m<n∧∃i σ' H',Inv X pins σ' H' s7∧tn i s7.heap∧(∀b∈fp,H' b=none)∧W i m σ' H':=fun {σ7 H7} I7 n7=>by
   obtain⟨m',hm,w7⟩:=hN σ7 H7 n7
   refine⟨m',hm,i+1,σ7,H7,I7.unpinned,T.keep _ _ _ st5 fun b hb o e=>(I7.pin (b,o) (xkD _ (xkD _ (zZ hb e)))).1,fun b hb=>?_,w7⟩
   obtain⟨o,e,d⟩:=T.obj _ _ st5 b hb
   exact(I7.pin (b,o) (xkD _ (xkD _ (zZ hb e)))).2.1
  cases f with
  | next=>obtain⟨σ7,H7,I7,n7⟩:=q7;exact again I7 n7
  | cont=>obtain⟨σ7,H7,I7,n7⟩:=q7;exact again I7 n7
  | brk=>obtain⟨σ7,H7,I7,q7⟩:=q7;exact⟨σ7,H7,I7.unpinned,q7⟩
  | ret v=>obtain⟨x7,σ7,H7,I7,r7,q7⟩:=q7;exact⟨x7,σ7,H7,I7.unpinned,r7,q7⟩
end
end L2
namespace L2
open PySem PySem.Spec PyProof.Rows
abbrev R2:=V→V→Hp→VK→Prop
def OpR (X:Cx)(f:Value→Value→Sem Value)(r:R2):Prop :=
 ∀(pins:List (Addr×Obj)) (s:Shared) (σ:St) (H:Hp) (x y:V) (v u:Value) (Q:VK),Inv X pins σ H s→RelV x v→RelV y u→r x y H Q →
  wpAny (model X.prog X.w) X.A (f v u) (EP X pins σ Q) X.xe s
def UnR (X:Cx)(f:Value→Sem Value)(r:V→Hp→VK→Prop):Prop :=
 ∀(pins:List (Addr×Obj)) (s:Shared) (σ:St) (H:Hp) (x:V) (v:Value) (Q:VK),Inv X pins σ H s→RelV x v→r x H Q →
  wpAny (model X.prog X.w) X.A (f v) (EP X pins σ Q) X.xe s
def ja (X:Cx)(f:Value)(r:List V→Hp→VK→Prop):Prop :=
 ∀(pins:List (Addr×Obj)) (s:Shared) (σ:St) (H:Hp) (xs:List V) (us:List Value) (Q:VK),Inv X pins σ H s→zh xs us→r xs H Q →
  wpAny (model X.prog X.w) X.A (call f us) (EP X pins σ Q) X.xe s
def xiS (X:Cx)(r:V→Hp→(Bool→Hp→Prop)→Prop):Prop :=
 ∀(pins:List (Addr×Obj)) (s:Shared) (σ:St) (H:Hp) (x:V) (v:Value) (Q:Bool→Hp→Prop),Inv X pins σ H s→RelV x v→r x H Q →
  wpAny (model X.prog X.w) X.A (truthy v) (TP X pins σ Q) X.xe s
def tOp (r:R2)(ta tb:TE):TE:=fun σ H Q=>ta σ H fun x H1=>tb σ H1 fun y H2=>r x y H2 Q
def tUn (r:V→Hp→VK→Prop)(ta:TE):TE:=fun σ H Q=>ta σ H fun x H1=>r x H1 Q
def rI (C:Int→Int→Prop)(g:Int→Int→V):R2:=fun x y H Q=>∃i j,x=.int i∧y=.int j∧C i j∧Q (g i j) H
def rI0 (g:Int→Int→V):R2:=fun x y H Q=>∃i j,x=.int i∧y=.int j∧Q (g i j) H
def rU (g:Int→V):V→Hp→VK→Prop:=fun x H Q=>∃i,x=.int i∧Q (g i) H
section
variable {X:Cx} {a b c:Expr} {ta tb tc:TE} {pos:Pos}
theorem xhy (ha:PE X a ta)(hb:PE X b tb){pins:List (Addr×Obj)}{s:Shared}{σ:St}{H:Hp}{R:V→V→Hp→Prop}(I:Inv X pins σ H s)
  (h:ta σ H fun x H1=>tb σ H1 fun y H2=>R x y H2) {Q:Value→Shared→Prop} {f:Value→Value→Sem Value}
  (hf:∀v u s2 x y H2,Inv X pins σ H2 s2→RelV x v→RelV y u→R x y H2→wpAny (model X.prog X.w) X.A (f v u) Q X.xe s2) :
  wpAny (model X.prog X.w) X.A (eval a X.env) (fun v s₁=>wpAny (model X.prog X.w) X.A (eval b X.env) (fun u s₂=>wpAny (model X.prog X.w) X.A (f v u) Q X.xe s₂) X.xe s₁) X.xe s:=by
 refine thn (@ha pins s σ H _ I h) fun v s1 ⟨x,H1,I1,r1,q1⟩=>?_
 refine thn (@hb pins s1 σ H1 _ I1 q1) fun u s2 ⟨y,H2,I2,r2,q2⟩=>?_
 exact hf v u s2 x y H2 I2 r1 r2 q2
theorem xG {op:Operator}{r:R2}(ho:OpR X (binaryOp op) r)(ha:PE X a ta)(hb:PE X b tb):PE X (.BinOp a op b pos) (tOp r ta tb):=by
 intro pins s σ H Q I h
 exact wpAny_BinOp (xhy ha hb I h fun v u s2 x y H2 I2 rx ry q=>@ho pins s2 σ H2 x y v u Q I2 rx ry q)
theorem vo (ho:UnR X (unaryOp op) r)(ha:PE X a ta):PE X (.UnaryOp op a pos) (tUn r ta):=by
 intro pins s σ H Q I h
 exact UnaryOp_ (thn (@ha pins s σ H _ I h) fun v s1 ⟨x,H1,I1,r1,q1⟩=>@ho pins s1 σ H1 x v Q I1 r1 q1)
theorem opI {f:Value→Value→Sem Value}{C:Int→Int→Prop}{g:Int→Int→Int}
  (rule:∀(i j:Int) (t u:Tok) (s:Shared) (Q:Value→Shared→Prop) (E:Value→Shared→Prop),C i j→Q (.int (g i j) s.toks) { s with toks:=s.toks+1 }→wpAny (model X.prog X.w) X.A (f (.int i t) (.int j u)) Q E s) :
  OpR X f (rI C fun i j=>.int (g i j)):=by
 intro pins s σ H x y v u Q I rx ry h
 obtain⟨i,j,rfl,rfl,hc,q⟩:=h
 obtain⟨t,rfl⟩:=rx
 obtain⟨t',rfl⟩:=ry
 exact rule i j t t' s _ _ hc ⟨.int (g i j),H,I.tok _,⟨_,rfl⟩,q⟩
theorem xis {f:Value→Value→Sem Value}{g:Int→Int→Int}
  (rule:∀(i j:Int) (t u:Tok) (s:Shared) (Q:Value→Shared→Prop) (E:Value→Shared→Prop),Q (.int (g i j) s.toks) { s with toks:=s.toks+1 }→wpAny (model X.prog X.w) X.A (f (.int i t) (.int j u)) Q E s) :
  OpR X f (rI0 fun i j=>.int (g i j)):=by
 intro pins s σ H x y v u Q I rx ry h
 obtain⟨i,j,rfl,rfl,q⟩:=h
 obtain⟨t,rfl⟩:=rx
 obtain⟨t',rfl⟩:=ry
 exact rule i j t t' s _ _ ⟨.int (g i j),H,I.tok _,⟨_,rfl⟩,q⟩
theorem xhk {f:Value→Value→Sem Value}{g:Int→Int→Bool}
  (rule:∀(i j:Int) (t u:Tok) (s:Shared) (Q:Value→Shared→Prop) (E:Value→Shared→Prop),Q (.bool (g i j)) s→wpAny (model X.prog X.w) X.A (f (.int i t) (.int j u)) Q E s) :
  OpR X f (rI0 fun i j=>.bl (g i j)):=by
 intro pins s σ H x y v u Q I rx ry h
 obtain⟨i,j,rfl,rfl,q⟩:=h
 obtain⟨t,rfl⟩:=rx
 obtain⟨t',rfl⟩:=ry
 exact rule i j t t' s _ _ ⟨.bl (g i j),H,I,rfl,q⟩
def xiE (i j:Int):Prop:=0≤j∧j≤1000000∧i.natAbs<2 ^ 64
def xho (i j:Int):Prop:=(-(2 ^ 64)<i∧i<2 ^ 64)∨(-(2 ^ 64)<j∧j<2 ^ 64)
theorem xho.ok (h:xho i j):IntMulOk i j:=by
 rcases h with ⟨h1,h2⟩ | ⟨h1,h2⟩
 ·exact .of_left (intBits_le_64 h1 h2)
 ·exact .of_right (intBits_le_64 h1 h2)
theorem wa:OpR X (binaryOp .Add) (rI0 fun i j=>.int (i+j)):=xis fun _ _ _ _ _ _ _ q=>add_int q
theorem zF:OpR X (binaryOp .Sub) (rI0 fun i j=>.int (i-j)):=xis fun _ _ _ _ _ _ _ q=>sub_int q
theorem t4:OpR X (binaryOp .Mult) (rI xho fun i j=>.int (i*j)):=opI fun _ _ _ _ _ _ _ hc q=>mul_int q hc.ok
theorem ak:OpR X (binaryOp .Mod) (rI (fun _ j=>0<j) fun i j=>.int (i % j)):=opI fun i j _ _ _ _ _ hc q=>by
 have h1:(0:Int)<j:=hc
 exact mod_int' (by omega) (by rw[Int.fmod_eq_emod_of_nonneg i (by omega)];exact q)
theorem xaj:OpR X (binaryOp .Mod) (rI (fun _ j=>j≠0) fun i j=>.int (i.fmod j)):=opI fun _ _ _ _ _ _ _ hc q=>mod_int' hc q
theorem xeb:OpR X (binaryOp .Pow) (rI xiE fun i j=>.int (i ^ j.toNat)):=opI fun _ _ _ _ _ _ _ hc q=>pow_int_small hc.1 hc.2.1 hc.2.2 q
theorem unI {f:Value→Sem Value}{g:Int→Int}
  (rule:∀(i:Int) (t:Tok) (s:Shared) (Q:Value→Shared→Prop) (E:Value→Shared→Prop),Q (.int (g i) s.toks) { s with toks:=s.toks+1 }→wpAny (model X.prog X.w) X.A (f (.int i t)) Q E s) :
  UnR X f (rU fun i=>.int (g i)):=by
 intro pins s σ H x v Q I rx h
 obtain⟨i,rfl,q⟩:=h
 obtain⟨t,rfl⟩:=rx
 exact rule i t s _ _ ⟨.int (g i),H,I.tok _,⟨_,rfl⟩,q⟩
theorem zO:UnR X (unaryOp .USub) (rU fun i=>.int (-i)):=unI fun _ _ _ _ _ q=>neg_int q
end
section
variable {X:Cx} {a b c:Expr} {ta tb tc:TE} {pos:Pos}
theorem xg3:OpR X (compareOp .Lt) (rI0 fun i j=>.bl (decide (i<j))):=xhk fun _ _ _ _ _ _ _ q=>lt_int q
theorem aV:OpR X (compareOp .LtE) (rI0 fun i j=>.bl (decide (i≤j))):=xhk fun _ _ _ _ _ _ _ q=>le_int q
theorem cQ:OpR X (compareOp .Gt) (rI0 fun i j=>.bl (decide (j<i))):=xhk fun _ _ _ _ _ _ _ q=>gt_int q
theorem xhF:OpR X (compareOp .GtE) (rI0 fun i j=>.bl (decide (j≤i))):=xhk fun _ _ _ _ _ _ _ q=>ge_int q
theorem OpR.or (h:OpR X f r)(h':OpR X f r'):OpR X f (fun x y H Q=>r x y H Q∨r' x y H Q):=by
 intro pins s σ H x y v u Q I rx ry q
 rcases q with q | q
 ·exact @h pins s σ H x y v u Q I rx ry q
 ·exact @h' pins s σ H x y v u Q I rx ry q
theorem xR (b:Expr)(h:op≠.In:=by decide)(h2:op≠.NotIn:=by decide):behindInMarks op b=false:=by
 have e1:(op == CmpOp.In)=false:=by cases op<;>first | rfl | exact absurd rfl h
 have e2:(op == CmpOp.NotIn)=false:=by cases op<;>first | rfl | exact absurd rfl h2
 cases b<;>simp[behindInMarks,e1,e2]
theorem zq {op:CmpOp}{r:R2}(ho:OpR X (compareOp op) r)(ha:PE X a ta)(hb:PE X b tb)(hm:behindInMarks op b=false):PE X (.Compare a [op] [b] pos) (tOp r ta tb):=by
 intro pins s σ H Q I h
 exact wpAny_Compare1 (xhy ha hb I h fun v u s2 x y H2 I2 rx ry q=>@ho pins s2 σ H2 x y v u Q I2 rx ry q) hm
def xeP (t:TE):TT:=fun σ H Q=>t σ H fun x H'=>∃k,x=.bl k∧Q k H'
theorem xO (ho:OpR X (compareOp op) r)(ha:PE X a ta)(hb:PE X b tb)(hm:behindInMarks op b=false):PT X (.Compare a [op] [b] pos) (xeP (tOp r ta tb)):=by
 intro pins s σ H Q I h
 refine wpAny_isTrue_Compare1 (thn (@ha pins s σ H _ I h) fun v s1 ⟨x,H1,I1,r1,q1⟩=>thn (@hb pins s1 σ H1 _ I1 q1) fun u s2 ⟨y,H2,I2,r2,q2⟩ =>
  thn (@ho pins s2 σ H2 x y v u _ I2 r1 r2 q2) fun c s3 ⟨z,H3,I3,r3,k,e,q3⟩=>?_) hm
 subst e
 cases r3
 exact wpAny_truthy_bool ⟨H3,I3,q3⟩
def xeh (r r':R2)(ta tb tc:TE):TE:=fun σ H Q=>ta σ H fun x H1=>tb σ H1 fun y H2=>r x y H2 fun z H3=>∃k,z=.bl k ∧
 (if k=true then tc σ H3 fun w' H4=>r' y w' H4 Q else Q (.bl false) H3)
theorem xcz (ho:OpR X (compareOp op) r)(ho':OpR X (compareOp op') r')(ha:PE X a ta)(hb:PE X b tb)(hc:PE X c tc)
  (hm:lastMarks [op,op'] [b,c]=false:=by with_unfolding_all rfl):PT X (.Compare a [op,op'] [b,c] pos) (xeP (xeh r r' ta tb tc)):=by
 intro pins s σ H Q I h
 refine isTrue_chain (thn (@ha pins s σ H _ I h) fun v s1 ⟨x,H1,I1,r1,q1⟩=>test_link (thn (@hb pins s1 σ H1 _ I1 q1) fun u s2 ⟨y,H2,I2,r2,q2⟩ =>
  thn (@ho pins s2 σ H2 x y v u _ I2 r1 r2 q2) fun d s3 ⟨z,H3,I3,r3,k,e,q3⟩=>?_)) hm
 subst e
 cases r3
 refine wpAny_truthy_bool ?_
 cases k with
 | false =>
  obtain⟨k',e',q'⟩:=q3
  cases e'
  exact ite_ff ⟨H3,I3,q'⟩
 | true =>
  refine ite_tt (test_last (thn (@hc pins s3 σ H3 _ I3 q3) fun w' s4 ⟨z',H4,I4,r4,q4⟩=>thn (@ho' pins s4 σ H4 y z' u w' _ I4 r2 r4 q4) fun d' s5 ⟨z2,H5,I5,r5,k2,e2,q5⟩=>?_))
  subst e2
  cases r5
  exact wpAny_truthy_bool ⟨H5,I5,q5⟩
def xhj (K:PySem.W.Frag)(x:V)(H:Hp)(k:Bool):Prop :=
 match x with
 | .non=>k=false
 | .bl b=>k=b
 | .int i=>k=(i != 0)
 | .str y=>y.length≤sizeLine∧k=((y.length:Int) != 0)
 | .byt y=>y.size≤sizeLine∧k=((y.size:Int) != 0)
 | .ref p=>(∃xs,SqL K H p xs∧k = !xs.isEmpty)∨(∃xs,SqT K H p xs∧k = !xs.isEmpty)∨∃kvs,H p=some (.dK kvs)∧k = !kvs.isEmpty
 | _=>False
theorem l5 (r:KV kvs vs):(!vs.isEmpty) = !kvs.isEmpty:=by
 cases r<;>rfl
theorem sP (r:zh xs its):(!its.toArray.isEmpty) = !xs.isEmpty:=by
 cases r<;>simp
theorem sI:(sizeLine:Nat)<2 ^ 63:=by rw[sizeLine_eq];decide
theorem xgI:xiS X (fun x H Q=>∃k,xhj X.K x H k∧Q k H):=by
 intro pins s σ H x v Q I rx h
 obtain⟨k,e,q⟩:=h
 have hl:=sI
 have hs:sizeLine=16777216:=sizeLine_eq
 cases x with
 | non =>
  cases rx
  have e':k=false:=e
  subst e'
  exact truthy_none ⟨H,I,q⟩
 | bl b =>
  cases rx
  have e':k=b:=e
  subst e'
  exact wpAny_truthy_bool ⟨H,I,q⟩
 | int i =>
  obtain⟨t,rfl⟩:=rx
  have e':k=(i != 0):=e
  subst e'
  exact PySem.P.truthy_int ⟨H,I,q⟩
 | str y =>
  obtain⟨t,rfl⟩:=rx
  obtain⟨hy,e'⟩:y.length≤sizeLine∧k=((y.length:Int) != 0):=e
  subst e'
  exact PySem.P.truthy_str (by omega) ⟨H,I.tok _,q⟩
 | byt y =>
  obtain⟨t,rfl⟩:=rx
  obtain⟨hy,e'⟩:y.size≤sizeLine∧k=((y.size:Int) != 0):=e
  subst e'
  exact PySem.W.truthy_bytes (by omega) ⟨H,I.tok _,q⟩
 | ref p =>
  cases rx
  have e':(∃xs,SqL X.K H p xs∧k = !xs.isEmpty)∨(∃xs,SqT X.K H p xs∧k = !xs.isEmpty)∨∃kvs,H p=some (.dK kvs)∧k = !kvs.isEmpty:=e
  rcases e' with ⟨xs,hx,e'⟩ | ⟨xs,hx,e'⟩ | ⟨kvs,hx,e'⟩
  ·subst e'
   obtain⟨its,r,pl,hz⟩:=I.list hx
   have hlen:=r.length
   exact wpAny_truthy_list pl.isList (by simp only[xkX];omega) ⟨H,I.tok _,by rw[sP r];exact q⟩
  ·subst e'
   obtain⟨its,r,pl,hz⟩:=I.tuple hx
   have hlen:=r.length
   exact truthy_tuple pl (by simp only[xkX];omega) ⟨H,I.tok _,by rw[sP r];exact q⟩
  ·subst e'
   obtain⟨hz,hS,vs,r,m⟩:kvs.length≤sizeLine∧(p == sysModules)=false∧∃vs,KV kvs vs∧s.heap.DictOf (pA X.prog X.w) p vs:=I.hok p _ hx
   have hlen:kvs.length=vs.length:=Paired.length r
   exact wpAny_truthy_dict hS m (by omega) ⟨H,I.tok _,by rw[l5 r];exact q⟩
 | _=>exact(show False from e).elim
theorem xcZ (ha:PE X a ta)(he:∀whole,isTrue a X.env whole=(do let v ←whole;standAt a.pos;holding [v] (truthy v))) :
  PT X a (fun σ H Q=>ta σ H fun x H'=>∃k,xhj X.K x H' k∧Q k H'):=by
 intro pins s σ H Q I h
 exact isTrue_plain (thn (@ha pins s σ H _ I h) fun v s1 ⟨x,H1,I1,r1,q1⟩=>xgI pins s1 σ H1 x v Q I1 r1 q1) (he _)
theorem vals1 (r:zh [x] us):∃u,us=[u]∧RelV x u:=by
 cases r with
 | cons r1 r2=>cases r2;exact⟨_,rfl,r1⟩
theorem vals2 (r:zh [x,y] us):∃u w',us=[u,w']∧RelV x u∧RelV y w':=by
 cases r with
 | cons r1 r2 =>
  cases r2 with
  | cons r3 r4=>cases r4;exact⟨_,_,rfl,r1,r3⟩
theorem uw:ja X (.builtin "abs") (fun xs H Q=>∃i,xs=[.int i]∧Q (.int (if i<0 then -i else i)) H):=by
 intro pins s σ H xs us Q I r h
 obtain⟨i,rfl,q⟩:=h
 obtain⟨u,rfl,t,rfl⟩:=vals1 r
 exact call_abs_int fun u tk=>⟨.int (if i<0 then -i else i),H,I.tok _,⟨_,rfl⟩,q⟩
theorem xbf (hc:X.calm=true):ja X (.builtin "max") (fun xs H Q=>∃i j,xs=[.int i,.int j]∧Q (.int (if j>i then j else i)) H):=by
 intro pins s σ H xs us Q I r h
 obtain⟨i,j,rfl,q⟩:=h
 obtain⟨u,w',rfl,⟨t,rfl⟩,⟨t',rfl⟩⟩:=vals2 r
 refine max_two_ints (I.ok.hd hc) fun h' tk k=>⟨_,H,I.kept k,?_,q⟩
 by_cases hj:j>i
 ·rw[if_pos hj,if_pos hj];exact⟨_,rfl⟩
 ·rw[if_neg hj,if_neg hj];exact⟨_,rfl⟩
theorem xbd (hc:X.calm=true):ja X (.builtin "min") (fun xs H Q=>∃i j,xs=[.int i,.int j]∧Q (.int (if j<i then j else i)) H):=by
 intro pins s σ H xs us Q I r h
 obtain⟨i,j,rfl,q⟩:=h
 obtain⟨u,w',rfl,⟨t,rfl⟩,⟨t',rfl⟩⟩:=vals2 r
 refine min_two_ints (I.ok.hd hc) fun h' tk k=>⟨_,H,I.kept k,?_,q⟩
 by_cases hj:j<i
 ·rw[if_pos hj,if_pos hj];exact⟨_,rfl⟩
 ·rw[if_neg hj,if_neg hj];exact⟨_,rfl⟩
end
end L2
namespace L2
open PySem PySem.Spec PyProof.Rows
structure xhC (h:Heap)(x dx C:Addr)(mA:Str→Option Value):Prop where
 obj:h.get? x=some (PySem.W.instObj C dx)
 ns:h.Ns1 dx mA
 ne:dx≠x
theorem xaT {h:Heap}{dx:Addr}{mA:Str→Option Value}(n:h.Ns1 dx mA):∃od,h.get? dx=some od∧∀name,PySem.W.lookIn name od=some (mA name):=by
 obtain⟨o,es,ep,ho,hd,hk,_,hm⟩:=n
 refine⟨o,ho,fun name=>?_⟩
 have e:=hm name
 unfold nsFind findBy at e
 rw[←Array.find?_toList] at e
 unfold PySem.W.lookIn
 rw[hd]
 dsimp only
 split
 ·rename_i y q
  rw[q] at e
  exact xlk some e
 ·rename_i q
  rw[q] at e
  have a:es.toList.any (·.refKey)=false:=by
   rw[List.any_eq_false]
   intro y hy
   obtain⟨z,t,hkey⟩:=hk y (Array.mem_toList_iff.mp hy)
   simp[DictEntry.refKey,hkey]
  have a':¬es.toList.any (·.refKey)=true:=by rw[a];exact xji
  rw[if_neg a']
  exact xlk some e
theorem xhC.look (I:xhC h x dx C mA):∃od,PySem.W.InstAt h x (PySem.W.instObj C dx) C (some od)∧∀name,PySem.W.lookIn name od=some (mA name) :=
 let ⟨od,ho,hl⟩:=xaT I.ns
 ⟨od,⟨I.obj,rfl,rfl,ho⟩,hl⟩
section
variable {prog:Program} {w:World} {A:Around} {E:Value→Shared→Prop} {s:Shared} {K:PySem.W.Frag} {x dx C f:Addr} {mA:Str→Option Value} {name:Str} {v:Value}
end
section
variable {P:Program} {w:World} {H H':Hp} {h h':Heap} {a C dx:Addr} {fs fs':List (Str×V)}
theorem xeK (hok:HOk P w H h)(e:H a=some (.ins C dx fs)):∃mA,xhC h a dx C mA∧(∀f,xhY (fs.lookup f) (mA f))∧PySem.Within mA (fs.map (·.1))∧fs.length≤1000∧H dx=some (.own a):=by
 obtain⟨d,z,ne,ob,mA,n,r,q⟩:=(show uJ P w H h a (.ins C dx fs) from hok a _ e)
 exact⟨mA,⟨ob,n,ne⟩,r,q,z,d⟩
end
structure Cls (K:PySem.W.Frag)(C:Addr):Prop where
 pg:PySem.W.plainGet K C Str.empty=true
 hd:PySem.W.hasDictIn K C=true
 po:PySem.W.plainOver K C=true
 sa:PySem.W.findIn K (.ref C) "__setattr__" = some (some (.builtin "object.__setattr__"))
theorem Cls.get {K:PySem.W.Frag}{C:Addr}(c:Cls K C)(f:Str):PySem.W.plainGet K C f=true:=c.pg
section
variable {X:Cx} {pins:List (Addr×Obj)} {σ:St} {H:Hp} {s:Shared} {a C dx:Addr} {fs:List (Str×V)} {f:Str} {v:V} {A:Around} {E:Value→Shared→Prop}
end
section
variable {X:Cx} {o e value:Expr} {f:Str} {pos pos' tpos:Pos} {ta tv:TE}
end
section
variable {X:Cx} {pins:List (Addr×Obj)} {σ:St} {H:Hp} {s:Shared} {A:Around} {E:Value→Shared→Prop} {Q:Value→Shared→Prop} {c:Value} {b:Bool}
inductive lz (K:PySem.W.Frag)(H:Hp):V→Value→Prop where
 | non:lz K H .non (.type "NoneType")
 | bl (x:Bool):lz K H (.bl x) (.type "bool")
 | int (i:Int):lz K H (.int i) (.type "int")
 | str (x:Str):lz K H (.str x) (.type "str")
 | flt (x:UInt64):lz K H (.flt x) (.type "float")
 | lst {a:Addr} {xs:List V} (e:H a=some (.lst xs)):lz K H (.ref a) (.type "list")
 | frz {a:Addr} {o:Obj} {xs:List V} (e:H a=some (.frz o (.lst xs))):lz K H (.ref a) (.type "list")
 | tup {a:Addr} {xs:List V} (e:H a=some (.tup xs)):lz K H (.ref a) (.type "tuple")
 | dK {a:Addr} {kvs:List (Key×V)} (e:H a=some (.dK kvs)):lz K H (.ref a) (.type "dict")
 | dT {a:Addr} {kvs:List (List Key×V)} (e:H a=some (.dT kvs)):lz K H (.ref a) (.type "dict")
 | ins {a C dx:Addr} {fs:List (Str×V)} (e:H a=some (.ins C dx fs)) (cl:Cls K C) (ha:PySem.W.findIn K (.ref C) "__class__" = some (some (.builtin "object.__class__")))
   (hn:PySem.W.specialIn K (.builtin "object.__class__") "__get__" = some (some (.builtin "getset_descriptor.__get__"))) (htk:PySem.W.takesIn K (.builtin "object.__class__")=some true)
   (hm:PySem.W.mroIn K C (.type "object")=some true):lz K H (.ref a) (.ref C)
theorem xbn (I:Inv X pins σ H s)(rx:RelV x u)(ty:lz X.K H x t)(e:PySem.W.kitOne X.K t c=some b)(h:∀tk,Q (.bool b) { s with toks:=tk }) :
  wpAny (model X.prog X.w) A (call (.builtin "isinstance") [u,c]) Q E s:=by
 cases ty with
 | non=>cases (show u=Value.none from rx);exact PySem.W.kia_one PySem.W.kitx_none I.kIn True.intro e (fun z=>nomatch z) h
 | bl y=>cases (show u=Value.bool y from rx);exact PySem.W.kia_one PySem.W.kitx_bool I.kIn True.intro e (fun z=>nomatch z) h
 | int i=>obtain⟨t,q⟩:=(show ∃t,u=Value.int i t from rx);cases q;exact PySem.W.kia_one PySem.W.kitx_int I.kIn True.intro e (fun z=>nomatch z) h
 | str y=>obtain⟨t,q⟩:=(show ∃t,u=Value.str y t from rx);cases q;exact PySem.W.kia_one PySem.W.kitx_str I.kIn True.intro e (fun z=>nomatch z) h
 | flt y=>obtain⟨t,q⟩:=(show ∃t,u=Value.float y t from rx);cases q;exact PySem.W.kia_one PySem.W.kitx_float I.kIn True.intro e (fun z=>nomatch z) h
 | @lst a xs ea =>
  cases (show u=Value.ref a from rx)
  obtain⟨_,_,n,_,h1⟩:=(show uJ X.prog X.w H s.heap a (.lst xs) from I.hok a _ ea)
  exact PySem.W.kia_one PySem.W.kitx_list I.kIn ⟨_,h1,rfl⟩ e (fun z=>nomatch z) h
 | @frz a ob xs ea =>
  cases (show u=Value.ref a from rx)
  obtain⟨_,_,_,n,_,h1⟩:=(show uJ X.prog X.w H s.heap a (.frz ob (.lst xs)) from I.hok a _ ea)
  exact PySem.W.kia_one PySem.W.kitx_list I.kIn ⟨_,h1,rfl⟩ e (fun z=>nomatch z) h
 | @tup a xs ea =>
  cases (show u=Value.ref a from rx)
  obtain⟨_,_,_,p⟩:=(show uJ X.prog X.w H s.heap a (.tup xs) from I.hok a _ ea)
  obtain⟨o,h1,h2,_⟩:=p
  exact PySem.W.kia_one PySem.W.kitx_tuple I.kIn ⟨o,h1,h2⟩ e (fun z=>nomatch z) h
 | @dK a kvs ea =>
  cases (show u=Value.ref a from rx)
  obtain⟨_,_,vs,_,p⟩:=(show uJ X.prog X.w H s.heap a (.dK kvs) from I.hok a _ ea)
  obtain⟨o,es,ep,h1,h2,_⟩:=p
  exact PySem.W.kia_one PySem.W.kitx_dict I.kIn ⟨o,h1,h2.1⟩ e (fun z=>nomatch z) h
 | @dT a kvs ea =>
  cases (show u=Value.ref a from rx)
  obtain⟨_,_,xs,_,o,es,ep,h1,h2,_⟩:=(show uJ X.prog X.w H s.heap a (.dT kvs) from I.hok a _ ea)
  exact PySem.W.kia_one PySem.W.kitx_dict I.kIn ⟨o,h1,h2.1⟩ e (fun z=>nomatch z) h
 | @ins a C dx fs ea cl ha hn htk hm =>
  cases (show u=Value.ref a from rx)
  obtain⟨mA,O,_⟩:=xeK I.hok ea
  obtain⟨od,J,_⟩:=O.look
  exact PySem.W.kia_one (PySem.W.kitx_own (cl.get _) cl.hd ha hn htk hm) I.kIn J e (fun z=>nomatch z) h
end
end L2
namespace L2
open PySem PySem.Spec PyProof.Rows
structure k7 (k:Nat)(A:Around):Prop where
 hd:A.handled=none
 dp:A.depth+3*k+5<recursionLimit
 un:A.units+16*k+200<cLine
theorem k7.mono (r:k7 k A)(h:j≤k):k7 j A:=⟨r.hd,by have:=r.dp;omega,by have:=r.un;omega⟩
theorem k7.deeper (r:k7 (k+1) A)(env:Env):k7 k (A.deeper env) :=
 ⟨r.hd,by have:=r.dp;show A.depth+1+3*k+5<_;omega,by have:=r.un;show A.units+3+16*k+200<_;omega⟩
theorem k7.depth (r:k7 k A):A.depth<recursionLimit:=by have:=r.dp;omega
theorem k7.units (r:k7 k A):A.units+64<cLine:=by have:=r.un;omega
def lR:TA:=fun _ H Q=>Q [] H
def vD (ta:TE)(tr:TA):TA:=fun σ H Q=>ta σ H fun x H1=>tr σ H1 fun xs H2=>Q (x::xs) H2
section
variable {X:Cx} {e:Expr} {es:List Expr} {te:TE} {t:TA} {pos:Pos}
theorem uV:PA X [] lR:=fun _ _ _ _ H Q I h=>Calls.spliced_nil ⟨[],H,I,.nil,h⟩
theorem xQ (ha:PE X e te)(hr:PA X es t)(hs:starEach (e::es) X.env=(false,eval e X.env)::starEach es X.env:=by rfl):PA X (e::es) (vD te t):=by
 intro pos pins s σ H Q I h
 rw[hs]
 show wpAny _ _ (spliced ((false,eval e X.env)::backTo pos (starEach es X.env))) _ _ s
 refine Calls.spliced_cons (thn (@ha pins s σ H _ I h) fun u s1 ⟨x,H1,I1,r1,q1⟩=>?_)
 exact thn (@hr pos pins s1 σ H1 _ I1 q1) fun us s2 ⟨xs,H2,I2,r2,q2⟩=>⟨x::xs,H2,I2,.cons r1 r2,q2⟩
def xiC (t:TA):TE:=fun σ H Q=>t σ H fun xs H1=>xs.length≤sizeLine∧∀p,H1 p=none→Q (.ref p) (upd H1 p (.tup xs))
def xh4 (t:TA):TE:=fun σ H Q=>t σ H fun xs H1=>xs.length≤sizeLine∧∀p,H1 p=none→Q (.ref p) (upd H1 p (.lst xs))
theorem yb (h:PA X es t):PE X (.Tuple es x1 pos) (xiC t):=by
 intro pins s σ H Q I hq
 refine wpAny_Tuple_spliced (thn (@h pos pins s σ H _ I hq) fun us s1 ⟨xs,H1,I1,r,z,q⟩=>⟨by rw[←r.length];exact z,?_⟩)
 have hf:H1 s1.heap.objs.size=none:=I1.hok.fresh (xk7 _)
 refine⟨.ref s1.heap.objs.size,upd H1 s1.heap.objs.size (.tup xs),I1.laid (t':=s1.toks) (fun b u e=>Heap.get?_push_of_some _ e) (xk7 _) ?_,rfl,q _ hf⟩
 exact⟨z,us,r,⟨_,Heap.get?_push_size _ rfl,rfl,_,rfl⟩⟩
theorem zb (h:PA X es t):PE X (.List es pos) (xh4 t):=by
 intro pins s σ H Q I hq
 refine wpAny_List_spliced (thn (@h pos pins s σ H _ I hq) fun us s1 ⟨xs,H1,I1,r,z,q⟩=>⟨by rw[←r.length];exact z,?_⟩)
 have hf:H1 s1.heap.objs.size=none:=I1.hok.fresh (xk7 _)
 refine⟨.ref s1.heap.objs.size,upd H1 s1.heap.objs.size (.lst xs),I1.laid (t':=s1.toks) (fun b u e=>Heap.get?_push_of_some _ e) (xk7 _) ?_,rfl,q _ hf⟩
 exact⟨z,us,0,r,Heap.get?_push_size _ rfl⟩
end
abbrev Sp:=List V→Hp→VK→XK→Prop
abbrev CXT:=List Env→Hp→Shared→XK→Value→Shared→Prop
structure xcx (P:Program)(w:World)(K:PySem.W.Frag)(mg:Str→Option Value)(base:Heap)(A:Around)(outer:List Env)(s:Shared)(H:Hp):Prop where
 frames:A.frames=some outer
 mod:Mod K mg base
 bs:∀b o,base.get? b=some o→s.heap.get? b=some o∧H b=none
 bsz:base.objs.size≤s.heap.objs.size
 funs:s.heap.FunFrames base outer
 frf:∀b∈frs outer,H b=none
 hok:HOk P w H s.heap
 bare:AllBare s.gens
def CE (outer:List Env)(P:Program)(w:World)(H:Hp)(s:Shared)(Q:VK)(u:Value)(s':Shared):Prop :=
 ∃v H',s'.os=s.os∧AllBare s'.gens∧Un (frs outer) [] H H' s.heap s'.heap∧HOk P w H' s'.heap∧RelV v u∧Q v H'
def CR (CX:CXT)(outer:List Env)(P:Program)(w:World)(H:Hp)(s:Shared)(Q:VK)(E:XK)(r:Result)(s':Shared):Prop :=
 match r with
 | .ok (.ret u)=>CE outer P w H s Q u s'
 | .ok _=>False
 | .error e=>CX outer H s E e s'
structure aD (P:Program)(w:World)(K:PySem.W.Frag)(mg:Str→Option Value)(base:Heap)(CX:CXT)(k:Nat)(f:Addr)(fd:FuncData)(ps:List Str)(sp:Sp):Prop where
 len:∀vs H Q E,sp vs H Q E→vs.length=ps.length
 run:∀(A:Around) (outer:List Env) (s:Shared) (H:Hp) (args:Args) (us:List Value) (vs:List V) (Q:VK) (E:XK),k7 k A→xcx P w K mg base A outer s H→BindsTo s fd args (ps.zip us)→zh vs us→sp vs H Q E →
  codeAny (model P w) A (.call (.ref f) args) (CR CX outer P w H s Q E) s
theorem aD.mono {P:Program}{w:World}{K:PySem.W.Frag}{mg:Str→Option Value}{base:Heap}{CX:CXT}{j k:Nat}{f:Addr}{fd:FuncData}{ps:List Str}{sp:Sp}(F:aD P w K mg base CX j f fd ps sp)(h:j≤k) :
  aD P w K mg base CX k f fd ps sp:=⟨F.len,fun A outer s H args us vs Q E hr=>F.run A outer s H args us vs Q E (hr.mono h)⟩
theorem aD.imp {P:Program}{w:World}{K:PySem.W.Frag}{mg:Str→Option Value}{base:Heap}{CX:CXT}{k:Nat}{f:Addr}{fd:FuncData}{ps:List Str}{sp sp':Sp}(F:aD P w K mg base CX k f fd ps sp)
  (h:∀vs H Q E,sp' vs H Q E→sp vs H Q E):aD P w K mg base CX k f fd ps sp' :=
 ⟨fun vs H Q E q=>F.len vs H Q E (h _ _ _ _ q),fun A outer s H args us vs Q E hr he hb hv hs=>F.run A outer s H args us vs Q E hr he hb hv (h _ _ _ _ hs)⟩
section
variable {X:Cx} {pins:List (Addr×Obj)} {σ:St} {H:Hp} {s s':Shared}
theorem Inv.env0 (I:Inv X pins σ H s):xcx X.prog X.w X.K X.mg X.base X.A X.stack s H :=
 ⟨I.ok.frames,I.ok.mod,I.bs,xk9 I.ok.bsz I.sz,I.stack,I.stkFree,I.hok,I.bare⟩
theorem Inv.after (I:Inv X pins σ H s)(h:CE X.stack X.prog X.w H s Q u s'):EP X pins σ Q u s':=by
 obtain⟨v,H',os,bare,un,hok,r,q⟩:=h
 obtain⟨hh,g,d,t,os'⟩:=s'
 obtain rfl:os'=s.os:=os
 exact⟨v,H',I.call (h':=hh) (g':=g) (d':=d) (t':=t) (ch:=[]) un hok bare (fun b z=>absurd z (by simp)),r,q⟩
end
def xhA (sp:Sp)(dvs:List V)(E:XK)(t:TA):TE:=fun σ H Q=>t σ H fun vs H1=>sp (vs++dvs) H1 Q E
def Binds (K:PySem.W.Frag)(fd:FuncData)(ps:List Str)(ds:List Value):Prop :=
 ∀(s:Shared) (us:List Value),K.In s.heap→(us++ds).length=ps.length→BindsTo s fd ⟨us,[]⟩ (ps.zip (us++ds))
theorem Binds.all {K:PySem.W.Frag}{fd:FuncData}{ps:List Str}(h:∀us:List Value,us.length=ps.length→bindArgs fd ⟨us,[]⟩=pure (ps.zip us)):Binds K fd ps []:=fun s us _ hl=>by
 rw[xjZ] at hl ⊢
 exact .of_eq (h us hl)
def aC (CX:CXT)(X:Cx)(E:XK):Prop:=∀(pins:List (Addr×Obj)) (σ:St) (H:Hp) (s:Shared) (e:Value) (s':Shared),Inv X pins σ H s→CX X.stack H s E e s'→X.xe e s'
section
variable {X:Cx} {CX:CXT} {k:Nat} {f C:Addr} {fd:FuncData} {ps:List Str} {sp:Sp} {dvs:List V} {ds:List Value} {E:XK} {x m:Str} {p pos apos:Pos} {e o:Expr} {es:List Expr} {ta:TE} {t:TA}
theorem xf1 (F:aD X.prog X.w X.K X.mg X.base CX k f fd ps sp)(hr:k7 k X.A)(hb:Binds X.K fd ps ds)(hd:zh dvs ds)(hx:aC CX X E)
  (I:Inv X pins σ H s) (r:zh vs us) (h:sp (vs++dvs) H Q E):wpAny (model X.prog X.w) X.A (call (.ref f) us) (EP X pins σ Q) X.xe s:=by
 have r2:zh (vs++dvs) (us++ds):=r.append hd
 have hl:(us++ds).length=ps.length:=by rw[←r2.length];exact F.len _ _ _ _ h
 refine wpAny_call (codeAny_mono (F.run X.A X.stack s H ⟨us,[]⟩ (us++ds) (vs++dvs) Q E hr I.env0 (hb s us I.kIn hl) r2 h) fun r s' hq=>?_)
 cases r with
 | error e=>exact hx pins σ H s e s' I hq
 | ok fl =>
  cases fl with
  | ret u=>exact I.after hq
  | next=>exact False.elim hq
  | brk=>exact False.elim hq
  | cont=>exact False.elim hq
theorem xbY (F:aD X.prog X.w X.K X.mg X.base CX k f fd ps sp)(hr:k7 k X.A)(hg:Gl X x)(hm:X.mg x=some (.ref f))(hk:PySem.W.keepIn X.K (.ref f)=true)(hb:Binds X.K fd ps ds)(hd:zh dvs ds)(hx:aC CX X E)
  (ha:PA X (e::es) t) (hdb:(x == ("__debug__" : Str))=false:=by decide) (he:starEach (e::es) X.env=(false,eval e X.env)::starEach es X.env:=by rfl) (hpl:(backTo pos (starEach es X.env)).any (·.1)=false:=by rfl) :
  PE X (.Call (.Name x p) (e::es) [] pos) (xhA sp dvs E t):=by
 intro pins s σ H Q I h
 refine wpAny_Call_Name_kw (fv I hg hm ?_ hdb)
 refine PySem.W.callWith_K (h₀:=X.base) I.ok.mod.kin hk (thn (@ha pos pins s σ H _ I h) fun us s1 ⟨vs,H1,I1,r,q⟩=>⟨I1.kIn,?_⟩) he hpl
 exact xf1 F hr hb hd hx I1 r q
end
section
variable {X:Cx} {CX:CXT} {k:Nat} {f C:Addr} {fd:FuncData} {ps ks:List Str} {sp:Sp} {E:XK} {x m:Str} {p pos apos kpos:Pos} {e o:Expr} {es:List Expr} {kws:List Keyword} {te ta:TE} {t tk:TA} {nm:Option Str}
variable {g:List Value→List Value→List Value} {gV:List V→List V→List V}
end
structure xw (N P:List Str)(sc:Scope):Prop where
 kind:sc.kind=.function
 co:sc.isCoroutine=false
 gen:sc.isGenerator=false
 nd:N.Nodup
 pre:N.take P.length=P
 par:∀x∈P,sc.names.lookup x=some .local∨sc.names.lookup x=some .cell
 nofree:∀y∈sc.names,y.2≠.free
theorem mD {kindOf:Str→Option NameKind}{x:Str}:∀ {binds:List (Str×Value)} {m:Str→Option Value},(∀v,(x,v)∉binds)→bindL kindOf binds m x=m x
 | [],_,_=>rfl
 | (n,v)::r,m,h=>by
  unfold bindL
  rw[mD fun w hw=>h w (xkF _ hw)]
  split
  ·have:x≠n:=by rintro rfl;exact h v xkG
   simp[this]
  ·rfl
theorem t7 {kindOf:Str→Option NameKind}{x:Str}:∀ {binds:List (Str×Value)} {m:Str→Option Value},(∀v,(x,v)∉binds)→bindC kindOf binds m x=m x
 | [],_,_=>rfl
 | (n,v)::r,m,h=>by
  unfold bindC
  rw[t7 fun w hw=>h w (xkF _ hw)]
  split
  ·rfl
  ·have:x≠n:=by rintro rfl;exact h v xkG
   simp[this]
theorem tY {kindOf:Str→Option NameKind}{x:Str}{v:Value}:∀ {P:List Str} {vs:List Value} {i:Nat} {m:Str→Option Value},P.Nodup→P[i]? = some x→vs[i]? = some v→kindOf x=some .local →
  bindL kindOf (P.zip vs) m x=some v
 | [],_,_,_,_,h,_,_=>by simp at h
 | _::_,[],_,_,_,_,h,_=>by simp at h
 | p::P,w::vs,0,m,nd,h1,h2,hk=>by
  simp at h1 h2;subst h1;subst h2
  show bindL kindOf ((p,w)::P.zip vs) m p=_
  unfold bindL
  rw[mD fun v hv=>(xkS.mp nd).1 (xkU hv).1,if_pos hk]
  simp
 | p::P,w::vs,i+1,m,nd,h1,h2,hk=>by
  show bindL kindOf ((p,w)::P.zip vs) m x=_
  unfold bindL
  exact tY (i:=i) (xkS.mp nd).2 (by simpa using h1) (by simpa using h2) hk
theorem mT {kindOf:Str→Option NameKind}{x:Str}{v:Value}:∀ {P:List Str} {vs:List Value} {i:Nat} {m:Str→Option Value},P.Nodup→P[i]? = some x→vs[i]? = some v→kindOf x≠some .local →
  bindC kindOf (P.zip vs) m x=some v
 | [],_,_,_,_,h,_,_=>by simp at h
 | _::_,[],_,_,_,_,h,_=>by simp at h
 | p::P,w::vs,0,m,nd,h1,h2,hk=>by
  simp at h1 h2;subst h1;subst h2
  show bindC kindOf ((p,w)::P.zip vs) m p=_
  unfold bindC
  rw[t7 fun v hv=>(xkS.mp nd).1 (xkU hv).1,if_neg hk]
  simp
 | p::P,w::vs,i+1,m,nd,h1,h2,hk=>by
  show bindC kindOf ((p,w)::P.zip vs) m x=_
  unfold bindC
  exact mT (i:=i) (xkS.mp nd).2 (by simpa using h1) (by simpa using h2) hk
def start (N:List Str)(vs:List V):St:=vs.map some++List.replicate (N.length-vs.length) none
def fN (CX:CXT)(P:Program)(w:World)(K:PySem.W.Frag)(mg:Str→Option Value)(base:Heap)(N:List Str)(qual:Str)(scope:Scope)(f:Addr)(cd:Value)(A:Around)(outer:List Env)(s:Shared)(H:Hp)(E:XK):Cx where
 prog:=P
 w:=w
 K:=K
 mg:=mg
 base:=base
 A:=A.deeper (envOfC qual scope s.heap.objs.size f cd)
 N:=N
 s₀:=s
 H₀:=H
 env:=envOfC qual scope s.heap.objs.size f cd
 outer:=outer
 stack:=envOfC qual scope s.heap.objs.size f cd::outer
 ex:=[]
 calm:=true
 fn:=fun _=>true
 pn:=[]
 xe:=fun e s'=>wpAny (model P w) (A.deeper (envOfC qual scope s.heap.objs.size f cd)) (leaving (envOfC qual scope s.heap.objs.size f cd) e) (fun _ s''=>CX outer H s E e s'') (fun e' s''=>CX outer H s E e' s'') s'
theorem pX {sc:Scope}{n:Nat}{x:Str}(h:sc.names.lookup x=some .cell):∃c,(cellsFrom n sc.names []).lookup x=some c:=by
 have q:=PySem.W.cellsFrom_some sc.names n [] (.inl h)
 exact Option.isSome_iff_exists.mp q
theorem xcb {CX:CXT}{P:Program}{w:World}{K:PySem.W.Frag}{mg:Str→Option Value}{base:Heap}{N ps:List Str}{qual:Str}{scope:Scope}{f:Addr}{cd:Value}{A:Around}{outer:List Env}{s s1:Shared}{H:Hp}{E:XK}{us:List Value}{vs:List V}
  (S:xw N ps scope) (hd:A.handled=none) (e0:xcx P w K mg base A outer s H) (hl:vs.length=ps.length) (r:zh vs us)
  (x:InCallC s s.heap.objs.size (bindL (envOfC qual scope s.heap.objs.size f cd).kindOf (ps.zip us) fun _=>none) (cellsFrom (s.heap.objs.size+1) scope.names []) (bindC (envOfC qual scope s.heap.objs.size f cd).kindOf (ps.zip us) fun _=>none) s1) :
  Inv (fN CX P w K mg base N qual scope f cd A outer s H E) [] (start N vs) H s1:=by
 have hpl:ps.length≤N.length:=by have:=xlk List.length S.pre;rw[xkw] at this;omega
 obtain⟨h1,tk,rfl,hk⟩:=x.done
 have noA:∀b:Addr,b∉(fN CX P w K mg base N qual scope f cd A outer s H E).ex:=fun b z=>absurd (show b∈([]:List Addr) from z) (by simp)
 refine⟨⟨e0.mod,S.kind,rfl,rfl,xk7 _,fun y z c h1 h2=>?_,fun y hy=>?_,fun y c _ h=>?_,fun _=>hd,Around.frames_deeper e0.frames,.inr ⟨rfl,rfl⟩,fun b z=>absurd z (noA b),e0.bs,e0.bsz,fun b _ _=>noA b,fun b z=>absurd z (noA b),e0.funs,e0.frf⟩,
  rfl,e0.bare,Un.kept hk,⟨_,x.toInCall.ns,fun i y v h1 h2 h3=>?_⟩,fun y c h=>⟨_,x.cell y c h⟩,e0.hok.fresh (xk7 _),fun y c h=>?_,fun p hp=>absurd (show p∈([]:List (Addr×Obj)) from hp) (by simp),e0.hok.kept hk,?_⟩
 ·exact name_of_addr x.apart (PySem.mem_of_lookup h1) (PySem.mem_of_lookup h2)
 ·have hy:scope.names.lookup y=some .cell∨scope.names.lookup y=some .free:=hy
  rcases hy with hy | hy
  ·exact pX hy
  ·exact absurd rfl (S.nofree _ (PySem.mem_of_lookup hy))
 ·exact xk6 (x.above y c (PySem.mem_of_lookup h))
 ·have hi:i<vs.length:=by
   unfold start at h2
   by_cases hi:i<vs.length
   ·exact hi
   ·rw[List.getElem?_append_right (by simpa using hi)] at h2
    rw[xki] at h2
    split at h2<;>cases h2
  have ha:vs[i]? = some v:=by
   unfold start at h2
   rw[xkd (by simpa using hi),xkh] at h2
   cases e:vs[i]? with
   | none=>rw[e] at h2;cases h2
   | some a=>rw[e] at h2;cases h2;rfl
  obtain⟨u,hu,rv⟩:=r.get ha
  have hp:ps[i]? = some y:=by
   rw[←S.pre,List.getElem?_take_of_lt (by omega)];exact h1
  have ndP:ps.Nodup:=by rw[←S.pre];exact S.nd.sublist (List.take_sublist _ _)
  refine⟨u,rv,?_⟩
  rcases S.par y (xkM hp) with k | k
  ·exact .inl ⟨k,tY ndP hp hu k⟩
  ·obtain⟨c,e⟩:=pX (n:=s.heap.objs.size+1) k
   refine .inr ⟨.inl k,c,e,?_⟩
   have q:=x.cell y c e
   rw[mT ndP hp hu (by show scope.names.lookup y≠_;rw[k];decide)] at q
   exact q
 ·exact e0.hok.fresh (xk6 (x.above y c (PySem.mem_of_lookup h)))
 ·unfold start
  show _=N.length
  rw[xkm,xkr,xkt]
  omega
theorem xfp {CX:CXT}{P:Program}{w:World}{K:PySem.W.Frag}{mg:Str→Option Value}{base:Heap}{k:Nat}{f:Addr}{name qual:Str}{params:Arguments}{body:List Stmt}{scope:Scope}{dV kV doc pm cdv ct oc:Value}{an od:Option Addr}
  {osl:Array (Option Value)} {N ps:List Str} {sp:Sp} (lk:K.lookup f=some ⟨oc,od,.func (PySem.W.fnOf name qual params body scope dV kV doc pm an cdv ct),osl⟩) (hcd:PySem.W.codeIn K cdv qual=true) (S:xw N ps scope)
  (len:∀vs H Q E,sp vs H Q E→vs.length=ps.length)
  (hbody:∀(A:Around) (outer:List Env) (s:Shared) (H:Hp) (vs:List V) (Q:VK) (E:XK),k7 k (A.deeper (envOfC qual scope s.heap.objs.size f cdv))→sp vs H Q E →
   ∃t,PSs (fN CX P w K mg base N qual scope f cdv A outer s H E) body t∧t { nx:=fun _ H'=>Q .non H',rt:=Q } (start N vs) H) :
  aD P w K mg base CX (k+1) f (PySem.W.fnOf name qual params body scope dV kV doc pm an cdv ct) ps sp:=by
 refine⟨len,fun A outer s H args us vs Q E hr e0 hb r hsp=>?_⟩
 have hl:=len _ _ _ _ hsp
 have KX:K.In s.heap:=e0.mod.kin.keeps fun b o e=>(e0.bs b o e).1
 have lim:s.heap.NoLimit:=e0.mod.nolimit.keeps fun b o e=>(e0.bs b o e).1
 have hkind:∀y∈ps.zip us,scope.names.lookup y.1=some .local∨(scope.names.lookup y.1=some .cell∧((cellsFrom (s.heap.objs.size+1) scope.names []).lookup y.1).isSome=true):=fun⟨n,v⟩ hy=>by
  rcases S.par n (xkU hy).1 with q | q
  ·exact .inl q
  ·exact .inr ⟨q,PySem.W.cellsFrom_some _ _ _ (.inl q)⟩
 refine codeAny_call_function hr.depth (KX _ _ lk) rfl S.co S.gen rfl (PySem.W.codeRec_of KX hcd) (hb _ _ _ _ ?_)
 refine wpAny_newFunctionEnv_cells S.kind hkind fun env he s1 x=>?_
 subst he
 refine⟨lim.keeps x.toInCall.keep,codeAny_func ?_⟩
 obtain⟨t,ht,hq⟩:=hbody A outer s H vs Q E (hr.deeper _) hsp
 have I:Inv (fN CX P w K mg base N qual scope f cdv A outer s H E) [] (start N vs) H s1:=xcb S hr.hd e0 hl r x
 refine wpAny_mono (@ht [] s1 (start N vs) H _ I hq) (fun fl s' hs=>?_) fun e s' hs=>hs
 have fin:∀ {σ':St} {H':Hp} {v:V} {u:Value},Inv (fN CX P w K mg base N qual scope f cdv A outer s H E) [] σ' H' s'→RelV v u→Q v H'→CE outer P w H s Q u s' :=
  fun {σ' H' v u} J rv q=>⟨v,H',J.os,J.bare,J.base,J.hok,rv,q⟩
 cases fl with
 | ret u =>
  obtain⟨v,σ',H',J,rv,q⟩:=hs
  exact fin J rv q
 | next =>
  obtain⟨σ',H',J,q⟩:=hs
  exact fin (v:=V.non) (u:=Value.none) J rfl q
 | brk =>
  obtain⟨_,_,_,q⟩:=hs
  exact False.elim q
 | cont =>
  obtain⟨_,_,_,q⟩:=hs
  exact False.elim q
end L2
namespace L2
open PySem PySem.Spec PyProof.Rows
section
variable {X:Cx} {x:Str} {p pos:Pos} {e:Expr} {es:List Expr} {t:TA} {id T:String} {r:List V→Hp→VK→Prop}
def tCB (r:List V→Hp→VK→Prop)(t:TA):TE:=fun σ H Q=>t σ H fun vs H1=>r vs H1 Q
theorem xF (hc:ja X (.builtin id) r)(hg:Gl X x)(hm:X.mg x=none)(hv:bootBuiltins x=some (.builtin id))(ha:PA X (e::es) t)(hn:x ≠ "__name__" := by decide)(hdb:(x == ("__debug__" : Str))=false:=by decide)
  (he:starEach (e::es) X.env=(false,eval e X.env)::starEach es X.env:=by rfl) (hpl:(backTo pos (starEach es X.env)).any (·.1)=false:=by rfl):PE X (.Call (.Name x p) (e::es) [] pos) (tCB r t):=by
 intro pins s σ H Q I h
 refine wpAny_Call_Name_kw (sH I hg hm hv ?_ hn hdb)
 exact PyProof.Rows.callWith_builtin1 (thn (@ha pos pins s σ H _ I h) fun us s1 ⟨vs,H1,I1,r1,q1⟩=>@hc pins s1 σ H1 vs us Q I1 r1 q1) he hpl
theorem kE (hc:ja X (.type T) r)(hg:Gl X x)(hm:X.mg x=none)(hv:bootBuiltins x=some (.type T))(ha:PA X (e::es) t)(hn:x ≠ "__name__" := by decide)(hdb:(x == ("__debug__" : Str))=false:=by decide)
  (he:starEach (e::es) X.env=(false,eval e X.env)::starEach es X.env:=by rfl) (hpl:(backTo pos (starEach es X.env)).any (·.1)=false:=by rfl):PE X (.Call (.Name x p) (e::es) [] pos) (tCB r t):=by
 intro pins s σ H Q I h
 refine wpAny_Call_Name_kw (sH I hg hm hv ?_ hn hdb)
 exact PyProof.Rows.callWith_type1 (thn (@ha pos pins s σ H _ I h) fun us s1 ⟨vs,H1,I1,r1,q1⟩=>@hc pins s1 σ H1 vs us Q I1 r1 q1) he hpl
end
end L2
namespace HT
open PySem PyProof.Rows
def lexLt:List Int→List Int→Bool
 | [],[]=>false
 | [],_::_=>true
 | _::_,[]=>false
 | x::xs,y::ys=>if x=y then lexLt xs ys else decide (x<y)
theorem lY (x y:Int)(xs ys:List Int):lexLt (x::xs) (y::ys)=if x=y then lexLt xs ys else decide (x<y):=rfl
theorem rN:lexLt [] []=false:=rfl
theorem d_ (y:Int)(ys:List Int):lexLt [] (y::ys)=true:=rfl
theorem sD (x:Int)(xs:List Int):lexLt (x::xs) []=false:=rfl
theorem xcQ (A:Around)(s:Shared)(a:Int)(t:Tok)(c:Int)(u:Tok):∃e,SeqAt.EqAt A s (.int a t) (.int c u) e∧(e=true↔a=c) :=
 ⟨(a == c),SeqAt.EqAt.int_int a t c u,by simp⟩
theorem xcT (A:Around)(s:Shared)(a:Int)(t:Tok)(c:Int)(u:Tok)(prog:Program)(w:World)(E:Value→Shared→Prop)(Q:Value→Shared→Prop)(h:Q (.bool (decide (a<c))) s) :
  wpAny (model prog w) A (richCompare .Lt (.int a t) (.int c u)) Q E s :=
 (PyProof.Rows.lt_int h:wpAny (model prog w) A (compareOp .Lt (.int a t) (.int c u)) Q E s)
section
open PySem.SeqAt
open PySem.AutoSeq1 (wpAny_loadPart')
open PySem.MeetsSeq PySem.MeetsSeq2 PySem.MeetsSeq3
theorem tT (l b:Addr)(items items2:Array Value)(n n2:Nat)(dd dd2:Option Addr)(sl sl2:Array (Option Value))(ns ms:List Int)(hi:IntsAre items.toList ns)(hj:IntsAre items2.toList ms) :
  Meets (Builtin.«tuple.__lt__» ⟨[.ref l,.ref b],[]⟩)
   (fun _ R s=>s.heap.get? l=some { cls:=.type "tuple", dict:=dd,data:=.seq items n,slots:=sl }∧s.heap.get? b=some { cls:=.type "tuple", dict:=dd2,data:=.seq items2 n2,slots:=sl2 } ∧
    R (.ok (.ret (.bool (lexLt ns ms)))) s) :=
 .of_wp fun prog w A R s h=>by
  obtain⟨hp,g,d,tk,os⟩:=s;obtain⟨hl,hb,h⟩:=h
  have f2:=AutoSeq1.sub_tuple_tuple
  have z1:items.size=ns.length:=by rw[←hi.length];simp
  have z2:items2.size=ms.length:=by rw[←hj.length];simp
  wp_walk using wpAny_loadPart' hl,wpAny_loadPart' hb,wpAny_forIn_list _ (fun rest b s'=>b.1=none∧s'=⟨hp,g,d,tk,os⟩∧∃(vs ws:List Value) (ns' ms':List Int),rest=vs.zip ws ∧
   IntsAre vs ns'∧IntsAre ws ms'∧ns'.length+items2.size=ms'.length+items.size∧R (.ok (.ret (.bool (lexLt ns' ms')))) ⟨hp,g,d,tk,os⟩) _
  case turn =>
   rintro⟨y,x⟩ rest b s' ⟨hb',rfl,vs,ws,ns',ms',hz,hvi,hwi,hlen,hR⟩
   cases hvi with
   | nil=>rw[List.zip_nil_left] at hz;cases hz
   | cons a t hvi' =>
    cases hwi with
    | nil=>rw[List.zip_nil_right] at hz;cases hz
    | cons c u hwi' =>
     rw[xk4] at hz
     injection hz with hyx hrest
     injection hyx with hy hx
     subst hy hx
     rw[lY] at hR
     simp only[xkn] at hlen
     obtain⟨e,he,hiff⟩:=xcQ A.in1 ⟨hp,g,d,tk,os⟩ a t c u
     refine wpAny_bind (he prog w _ _ ?_)
     cases e with
     | true =>
      rw[if_pos (hiff.mp rfl)] at hR
      wp_walk
      exact⟨rfl,rfl,_,_,_,_,hrest,hvi',hwi',by omega,hR⟩
     | false =>
      rw[if_neg (fun q=>absurd (hiff.mpr q) xji)] at hR
      have hri:=xcT A.in1 ⟨hp,g,d,tk,os⟩ a t c u prog w
      wp_walk using hri
      exact⟨_,rfl,by simpa using hR⟩
  case fin =>
   rintro⟨b1,b2⟩ s' ⟨hb',rfl,vs,ws,ns',ms',hz,hvi,hwi,hlen,hR⟩
   simp only at hb'
   subst hb'
   have hv:lexLt ns' ms'=decide (items.size<items2.size):=by
    cases hvi with
    | nil =>
     cases hwi with
     | nil =>
      simp only[xks] at hlen
      rw[rN]
      exact(xlm (by omega)).symm
     | cons c u hw =>
      simp only[xks,xkn] at hlen
      rw[d_]
      exact(xln (by omega)).symm
    | cons a t hv =>
     cases hwi with
     | nil =>
      simp only[xks,xkn] at hlen
      rw[sD]
      exact(xlm (by omega)).symm
     | cons c u hw =>
      rw[xk4] at hz
      cases hz
   rw[hv] at hR
   wp_walk
   exact⟨_,rfl,by simpa [Builtin.Tuple.tupleCompareSizes] using hR⟩
  case h =>
   exact⟨rfl,rfl,items.toList,items2.toList,ns,ms,rfl,hi,hj,by omega,h⟩
end
section
variable {prog:Program} {w:World} {A:Around} {E:Value→Shared→Prop} {s:Shared}
theorem lS (hl:IsTup s.heap l items)(hb:IsTup s.heap b items2)(hi:IntsAre items.toList ns)(hj:IntsAre items2.toList ms)
  (hu:A.units<cLine) (h:Q (.bool (lexLt ns ms)) s):wpAny (model prog w) A (compareOp .Lt (.ref l) (.ref b)) Q E s:=by
 obtain⟨⟨cls,dd,data,sl⟩,ho,hc,n,hd⟩:=id hl
 obtain⟨⟨cls2,dd2,data2,sl2⟩,ho2,hc2,n2,hd2⟩:=id hb
 simp only at hc hd hc2 hd2
 subst hc hd hc2 hd2
 exact richCompare_meets_room (op:=.Lt) ⟨_,ho,rfl⟩ ⟨_,ho2,rfl⟩ PySem.F.slot_tuple_lt PySem.F.entry_tuple_lt (PySem.F.args_tuple_lt_2 _ _) (tT l b items items2 n n2 dd dd2 sl sl2 ns ms hi hj)
  ⟨ho,ho2,show Value.bool (lexLt ns ms)≠Value.notImplemented∧Q (.bool (lexLt ns ms)) s from⟨(fun x=>nomatch x),h⟩⟩ hu
theorem xfu (ht:IsTup s.heap t vs.toArray)(hb:IsTup s.heap b ws.toArray)(hv:vs≠[])
  (h1:ws=[]→Q (.ref t) s) (h2:ws≠[]→Q (.ref s.heap.objs.size) { s with heap:=s.heap.push { cls:=.type "tuple", data:=.seq (vs++ws).toArray } })
  (hsz:vs.length+ws.length≤sizeLine):wpAny (model prog w) A (binaryOp .Add (.ref t) (.ref b)) Q E s:=by
 obtain⟨⟨cls,dd,data,sl⟩,ho,hc,n,hd⟩:=id ht
 obtain⟨⟨cls2,dd2,data2,sl2⟩,ho2,hc2,n2,hd2⟩:=id hb
 simp only at hc hd hc2 hd2
 subst hc hd hc2 hd2
 have e:vs.toArray++ws.toArray=(vs++ws).toArray:=by simp
 by_cases hw:ws=[]
 ·exact concat_meets ⟨_,ho,rfl⟩ ⟨_,ho2,rfl⟩ noFill_tuple_add seq_tuple_add PySem.F.slot_tuple_add PySem.F.entry_tuple_add (PySem.F.args_tuple_add_2 _ _)
   (tuple_addW1 t b vs.toArray ws.toArray n n2 dd dd2 sl sl2 (by simpa using hv) (by simp[hw])) ⟨ho,ho2,h1 hw⟩
 ·refine concat_meets ⟨_,ho,rfl⟩ ⟨_,ho2,rfl⟩ noFill_tuple_add seq_tuple_add PySem.F.slot_tuple_add PySem.F.entry_tuple_add (PySem.F.args_tuple_add_2 _ _)
   (tuple_addW2 t b vs.toArray ws.toArray n n2 dd dd2 sl sl2 (by simpa using hv) (by simpa using hw) (by rw[xkX,xkX];exact hsz)) ⟨ho,ho2,?_⟩
  rw[e]
  exact h2 hw
def sIx (n d:Nat):Option Int→Nat
 | none=>d
 | some v=>if v<0 then(v+(n:Int)).toNat else min v.toNat n
theorem oG (n d:Nat):sIx n d none=d:=rfl
theorem xbi (n d k:Nat):sIx n d (some (k:Int))=min k n:=by
 show(if (k:Int)<0 then((k:Int)+(n:Int)).toNat else min (k:Int).toNat n)=min k n
 rw[if_neg (by omega),xjR]
theorem xf0 (n d:Nat)(hd:d≤n)(o:Option Int):sIx n d o≤n:=by
 cases o with
 | none=>exact hd
 | some v =>
  show(if v<0 then(v+(n:Int)).toNat else min v.toNat n)≤n
  by_cases hv:v<0
  ·rw[if_pos hv];omega
  ·rw[if_neg hv];exact Nat.min_le_right _ _
theorem xaQ (v:Int)(n d:Nat):(if v<0 then max (v+(n:Int)) 0 else min v (n:Int))=((sIx n d (some v):Nat):Int):=by
 show(if v<0 then max (v+(n:Int)) 0 else min v (n:Int))=(((if v<0 then(v+(n:Int)).toNat else min v.toNat n):Nat):Int)
 by_cases hv:v<0
 ·simp only[if_pos hv];omega
 ·simp only[if_neg hv];omega
theorem lP (lo hi:Option Int)(n:Nat):Builtin.Slice.sliceAdjust lo hi 1 (n:Int)=(((sIx n 0 lo:Nat):Int),((sIx n n hi:Nat):Int)):=by
 have h1:¬((1:Int)<0):=by omega
 unfold Builtin.Slice.sliceAdjust
 simp only[h1,if_false]
 refine Prod.ext ?_ ?_
 ·cases lo with
  | none=>rfl
  | some v=>exact xaQ v n 0
 ·cases hi with
  | none=>rfl
  | some v=>exact xaQ v n n
theorem lO (i j:Nat):Builtin.Slice.slicePlaces (i:Int) (j:Int) 1=j-i:=by
 unfold Builtin.Slice.slicePlaces
 have h1:(1:Int)>0:=by omega
 simp only[h1,if_true,Int.ediv_one]
 split<;>omega
theorem aE (p:IsPart v o)(h:Q o s):wpAny (model prog w) A (Builtin.Slice.slicePartIndex v) Q E s:=by
 cases p with
 | none=>exact slicePart_none h
 | int i t=>exact slicePart_int h
theorem qp {sl:Addr}{vl vu:Value}{lo hi:Option Int}{n:Nat}{Q:Int×Int×Nat→Shared→Prop}(hs:s.heap.IsSliceOf sl vl vu .none)(pl:IsPart vl lo)(pu:IsPart vu hi)
  (h:Q (((sIx n 0 lo:Nat):Int),1,sIx n n hi-sIx n 0 lo) s):wpAny (model prog w) A (Builtin.Slice.sliceApplied (.ref sl) (pure (n:Int))) Q E s:=by
 obtain⟨os,hos,hcs,hds⟩:=id hs
 unfold Builtin.Slice.sliceApplied Builtin.Slice.sliceFields
 refine wpAny_bind (wpAny_bind (wpAny_field hos hds (x:=vl) rfl (wpAny_bind (wpAny_field hos hds (x:=vu) rfl (wpAny_bind (wpAny_field hos hds (x:=.none) rfl (wpAny_pure ?_)))))))
 refine wpAny_bind (slicePart_none ?_)
 show wpAny _ _ (if ((1:Int) == 0)=true then _ else _) _ _ s
 rw[if_neg (by decide)]
 refine wpAny_bind (aE pl (wpAny_bind (aE pu (wpAny_bind (wpAny_pure ?_)))))
 show wpAny _ _ (match Builtin.Slice.sliceAdjust lo hi 1 (n:Int) with | (lo,hi)=>pure (lo,(1:Int),Builtin.Slice.slicePlaces lo hi 1)) _ _ s
 rw[lP lo hi n]
 show wpAny _ _ (pure (((sIx n 0 lo:Nat):Int),(1:Int),Builtin.Slice.slicePlaces ((sIx n 0 lo:Nat):Int) ((sIx n n hi:Nat):Int) 1)) _ _ s
 rw[lO]
 exact wpAny_pure h
theorem xdj (xs:Array Value)(i k:Nat):((List.range k).filterMap fun(m:Nat)=>xs[((i:Int)+(m:Int)*1).toNat]?).toArray=((xs.toList.drop i).take k).toArray:=by
 have e:(fun(m:Nat)=>xs[((i:Int)+(m:Int)*1).toNat]?)=fun m=>xs[i+m]?:=by
  funext m
  have:((i:Int)+(m:Int)*1).toNat=i+m:=by omega
  rw[this]
 rw[e]
 have:=pick_run xs i k
 rw[List.filterMap_map] at this
 have e2:((fun x=>xs[x]?) ∘ fun x=>i+x)=fun m=>xs[i+m]?:=rfl
 rw[e2] at this
 rw[this]
theorem hV {t sl:Addr}{items:Array Value}{vl vu:Value}{lo hi:Option Int}{Q:Value→Shared→Prop}(ht:IsTup s.heap t items)(hs:s.heap.IsSliceOf sl vl vu .none)(pl:IsPart vl lo)(pu:IsPart vu hi)
  (hw:¬(sIx items.size 0 lo=0∧sIx items.size items.size hi=items.size))
  (h:Q (.ref s.heap.objs.size) { s with heap:=s.heap.push { cls:=.type "tuple", data:=.seq ((items.toList.drop (sIx items.size 0 lo)).take (sIx items.size items.size hi-sIx items.size 0 lo)).toArray } })
  (hsz:items.size≤sizeLine):wpAny (model prog w) A (getItem (.ref t) (.ref sl)) Q E s:=by
 have htake:sizeOk (.seq ((items.toList.drop (sIx items.size 0 lo)).take (sIx items.size items.size hi-sIx items.size 0 lo)).toArray):=by
  show((items.toList.drop (sIx items.size 0 lo)).take (sIx items.size items.size hi-sIx items.size 0 lo)).toArray.size≤sizeLine
  rw[xkX,xkw,xko,Array.length_toList]
  omega
 have hj:sIx items.size items.size hi≤items.size:=xf0 _ _ (xk7 _) hi
 obtain⟨os,hos,hcs,hds⟩:=id hs
 have hTs:s.TypeIs (.ref sl) "slice" := ⟨os,hos,hcs⟩
 unfold getItem
 try with_reducible refine wpAny_holding ?_
 first | refine wpAny_bind (wpAny_pure ?_) | skip
 refine wpAny_bind (wpAny_sequenceKey ht.typeIs (by decide) ?_)
 refine wpAny_bind (wpAny_callSpecial?_slot (name:=Str.ofString "__getitem__") ht.typeIs PyProof.Rows.slot_tuple_getitem
  (wpAny_call_entry PyProof.Rows.slot_tuple_getitem ht.typeIs entry_tuple_getitem ?_ (args_tuple_getitem _ _)))
 show wpAny _ _ (Builtin.Tuple.tupleItemsOf (.ref t) >>= _) _ _ s
 refine wpAny_bind (tupleItemsOf_ ht ?_)
 refine wpAny_bind (wpAny_typeOf hTs ?_)
 rw[if_pos (by decide)]
 refine wpAny_bind (qp hs pl pu ?_)
 have hno:¬((((sIx items.size 0 lo:Nat):Int) == 0&&(1:Int) == 1&&(sIx items.size items.size hi-sIx items.size 0 lo) == items.size)=true):=by
  intro q
  rw[xjh,xjh] at q
  have q1:((sIx items.size 0 lo:Nat):Int)=0:=eq_of_beq q.1.1
  have q2:sIx items.size items.size hi-sIx items.size 0 lo=items.size:=eq_of_beq q.2
  exact hw ⟨by omega,by omega⟩
 show wpAny _ _ (if (((sIx items.size 0 lo:Nat):Int) == 0&&(1:Int) == 1&&(sIx items.size items.size hi-sIx items.size 0 lo) == items.size)=true then _ else _) _ _ s
 rw[if_neg hno,xdj]
 first
  | exact wpAny_bind (m:=Builtin.Tuple.tupleExact _) (wpAny_newObj_type (wpAny_pure ⟨_,rfl,wpAny_pure h⟩) htake)
  | exact wpAny_bind (m:=Builtin.Tuple.tupleExact _) (wpAny_newObj_type (wpAny_bind (wpAny_pure (wpAny_pure ⟨_,rfl,wpAny_pure h⟩))) htake)
  | exact wpAny_bind (wpAny_bind (m:=Builtin.Tuple.tupleExact _) (wpAny_newObj_type (wpAny_pure (wpAny_pure ⟨_,rfl,wpAny_pure h⟩)) htake))
  | exact wpAny_bind (wpAny_bind (m:=Builtin.Tuple.tupleExact _) (wpAny_newObj_type (wpAny_pure ⟨_,rfl,wpAny_pure h⟩) htake))
end
end HT
namespace L2
open PySem PySem.Spec PyProof.Rows
abbrev TO:=St→Hp→(Option Int→Hp→Prop)→Prop
def PO (X:Cx)(e:Option Expr)(t:TO):Prop :=
 ∀(pins:List (Addr×Obj)) (s:Shared) (σ:St) (H:Hp) (Q:Option Int→Hp→Prop),Inv X pins σ H s→t σ H Q →
  wpAny (model X.prog X.w) X.A (evalPart e X.env) (fun u s'=>∃o H',Inv X pins σ H' s'∧IsPart u o∧Q o H') X.xe s
def xcc:TO:=fun _ H Q=>Q none H
def xg9 (t:TE):TO:=fun σ H Q=>t σ H fun x H1=>∃i,x=.int i∧Q (some i) H1
theorem intsAre_of:∀ {us:List Value},zh (ns.map V.int) us→IntsAre us ns:=by
 induction ns with
 | nil=>intro us r;rw[List.map_nil] at r;cases r;exact .nil
 | cons n ns ih =>
  intro us r
  rw[xkz] at r
  cases r with
  | cons r1 r2 =>
   obtain⟨t,e⟩:=r1
   subst e
   exact .cons n t (ih r2)
section
variable {X:Cx} {e:Expr} {te:TE} {lo hi:Option Expr} {tl th:TO} {pos p2:Pos}
theorem qY:PO X none xcc:=by
 intro pins s σ H Q I h
 rw[evalPart_none]
 exact wpAny_pure ⟨none,H,I,.none,h⟩
theorem qS (h:PE X e te):PO X (some e) (xg9 te):=by
 intro pins s σ H Q I hw
 rw[evalPart_some]
 refine thn (@h pins s σ H _ I hw) fun u s1 ⟨x,H1,I1,r1,q1⟩=>?_
 obtain⟨i,rfl,q⟩:=q1
 obtain⟨t,rfl⟩:=r1
 exact⟨some i,H1,I1,.int i t,q⟩
def SlR (X:Cx)(r:V→Option Int→Option Int→Hp→VK→Prop):Prop :=
 ∀(pins:List (Addr×Obj)) (s:Shared) (σ:St) (H:Hp) (x:V) (v vl vu:Value) (lo hi:Option Int) (sl:Addr) (Q:VK),Inv X pins σ H s→RelV x v→s.heap.IsSliceOf sl vl vu .none→IsPart vl lo→IsPart vu hi→r x lo hi H Q →
  ∃T id,typeLookup (.type T) "__getitem__" = pure (some (.builtin id))∧s.TypeIs v T∧wpAny (model X.prog X.w) X.A (getItem v (.ref sl)) (EP X pins σ Q) X.xe s
def tSl (r:V→Option Int→Option Int→Hp→VK→Prop)(te:TE)(tl th:TO):TE:=fun σ H Q=>te σ H fun x H1=>tl σ H1 fun l H2=>th σ H2 fun u H3=>r x l u H3 Q
theorem u_ (hr:SlR X r)(he:PE X e te)(hl:PO X lo tl)(hu:PO X hi th):PE X (.Subscript e (.Slice lo hi none p2) pos) (tSl r te tl th):=by
 intro pins s σ H Q I h
 refine Subscript_ (thn (@he pins s σ H _ I h) fun v s1 ⟨x,H1,I1,r1,q1⟩=>?_)
 refine wpAny_Slice (thn (@hl pins s1 σ H1 _ I1 q1) fun vl s2 ⟨l,H2,I2,pl,q2⟩=>thn (@hu pins s2 σ H2 _ I2 q2) fun vu s3 ⟨u,H3,I3,pu,q3⟩=>?_)
 rw[evalPart_none]
 refine wpAny_pure ?_
 have I4:Inv X pins σ H3 { s3 with heap:=s3.heap.push { cls:=.type "slice", data:=.fields #[vl,vu,.none] } }:=I3.kept (t':=s3.toks) fun b ob q=>Heap.get?_push_of_some _ q
 obtain⟨T,id,hT,ht,hg⟩:=hr pins { s3 with heap:=s3.heap.push { cls:=.type "slice", data:=.fields #[vl,vu,.none] } } σ H3 x v vl vu l u s3.heap.objs.size Q I4 r1 (Heap.IsSliceOf.new ..) pl pu q3
 show wpAny (model X.prog X.w) X.A (subscriptTail e (.Slice lo hi none p2) v (.ref s3.heap.objs.size)) (EP X pins σ Q) X.xe { s3 with heap:=s3.heap.push { cls:=.type "slice", data:=.fields #[vl,vu,.none] } }
 exact tail_any (ops:=[.ref s3.heap.objs.size,v]) ht hT hg (by with_unfolding_all rfl)
def lG (xs:List V)(lo hi:Option Int):List V:=(xs.drop (HT.sIx xs.length 0 lo)).take (HT.sIx xs.length xs.length hi-HT.sIx xs.length 0 lo)
theorem fS (xs:List V)(lo hi:Option Int):(lG xs lo hi).length≤xs.length:=by
 unfold lG
 rw[xkw,xko]
 omega
def xi6 (K:PySem.W.Frag):V→Option Int→Option Int→Hp→VK→Prop:=fun x lo hi H Q=>∃a xs,x=.ref a∧SqT K H a xs ∧
 ¬(HT.sIx xs.length 0 lo=0∧HT.sIx xs.length xs.length hi=xs.length)∧∀p,H p=none→Q (.ref p) (upd H p (.tup (lG xs lo hi)))
theorem xhb:SlR X (xi6 X.K):=by
 intro pins s σ H x v vl vu lo hi sl Q I rx hs pl pu h
 obtain⟨a,xs,rfl,hx,hw,q⟩:=h
 cases rx
 obtain⟨its,r,ht,hz⟩:=I.tuple hx
 have hlen:its.toArray.size=xs.length:=by rw[xkX];exact r.length.symm
 refine⟨"tuple", _,PyProof.Rows.slot_tuple_getitem.lookup,ht.typeIs,?_⟩
 refine HT.hV ht hs pl pu (by rw[hlen];exact hw) ?_ (by rw[hlen];exact hz)
 rw[hlen]
 refine⟨.ref s.heap.objs.size,_,I.laid (t':=s.toks) (o:=.tup (lG xs lo hi)) (fun b ob q=>Heap.get?_push_of_some _ q) (xk7 _) ?_,rfl,q _ (I.hok.fresh (xk7 _))⟩
 exact⟨xk9 (fS xs lo hi) hz,_,(r.drop (HT.sIx xs.length 0 lo)).take (HT.sIx xs.length xs.length hi-HT.sIx xs.length 0 lo),IsTup.new _ _⟩
def xiv (K:PySem.W.Frag):R2:=fun x y H Q=>∃a b ns ms,x=.ref a∧y=.ref b∧SqT K H a (ns.map V.int)∧SqT K H b (ms.map V.int)∧Q (.bl (HT.lexLt ns ms)) H
theorem xgb (hu:X.A.units<cLine):OpR X (compareOp .Lt) (xiv X.K):=by
 intro pins s σ H x y v u Q I rx ry h
 obtain⟨a,b,ns,ms,rfl,rfl,ha,hb,q⟩:=h
 cases rx
 cases ry
 obtain⟨its,r1,p1,_⟩:=I.tuple ha
 obtain⟨its2,r2,p2,_⟩:=I.tuple hb
 have i1:IntsAre its.toArray.toList ns:=intsAre_of r1
 have i2:IntsAre its2.toArray.toList ms:=intsAre_of r2
 exact HT.lS p1 p2 i1 i2 hu ⟨.bl (HT.lexLt ns ms),H,I,rfl,q⟩
def xh2 (K:PySem.W.Frag):R2:=fun x y H Q=>∃a b xs ys,x=.ref a∧y=.ref b∧SqT K H a xs∧SqT K H b ys∧xs≠[]∧xs.length+ys.length≤sizeLine ∧
 (ys=[]→Q (.ref a) H)∧(ys≠[]→∀p,H p=none→Q (.ref p) (upd H p (.tup (xs++ys))))
theorem zh.nil_iff (r:zh xs us):us=[]↔xs=[]:=by
 cases r with
 | nil=>simp
 | cons _ _=>simp
theorem xeR:OpR X (binaryOp .Add) (xh2 X.K):=by
 intro pins s σ H x y v u Q I rx ry h
 obtain⟨a,b,xs,ys,rfl,rfl,ha,hb,hx,hz,q1,q2⟩:=h
 cases rx
 cases ry
 obtain⟨its,r1,p1,_⟩:=I.tuple ha
 obtain⟨its2,r2,p2,_⟩:=I.tuple hb
 refine HT.xfu p1 p2 (fun z=>hx (r1.nil_iff.mp z)) (fun z=>⟨.ref a,H,I,rfl,q1 (r2.nil_iff.mp z)⟩) (fun z=>?_) (by rw[←r1.length,←r2.length];exact hz)
 refine⟨.ref s.heap.objs.size,_,I.laid (t':=s.toks) (o:=.tup (xs++ys)) (fun b ob q=>Heap.get?_push_of_some _ q) (xk7 _) ?_,rfl,q2 (fun w=>z (r2.nil_iff.mpr w)) _ (I.hok.fresh (xk7 _))⟩
 exact⟨by rw[xkm];exact hz,_,r1.append r2,IsTup.new _ _⟩
end
end L2
namespace L2
open PySem PySem.Spec PyProof.Rows
def ixN (n:Nat)(i:Int):Option Nat:=if 0≤i then(if i<n then some i.toNat else none) else if -(n:Int)≤i then some (i+n).toNat else none
def atI (xs:List α)(i:Int):Option α:=(ixN xs.length i).bind fun j=>xs[j]?
theorem xa3 (h:ixN n i=some j):seqIndex? i n=some j∧j<n∧-(n:Int)≤i∧i<n:=by
 unfold ixN at h
 by_cases h0:0≤i
 ·rw[if_pos h0] at h
  by_cases h1:i<n
  ·rw[if_pos h1] at h
   have e:i.toNat=j:=xlj h
   exact⟨by rw[seqIndex_of h0 h1,e],by omega,by omega,h1⟩
  ·rw[if_neg h1] at h;cases h
 ·rw[if_neg h0] at h
  by_cases h1:-(n:Int)≤i
  ·rw[if_pos h1] at h
   have e:(i+n).toNat=j:=xlj h
   exact⟨by rw[seqIndex_neg (by omega) h1,e],by omega,h1,by omega⟩
  ·rw[if_neg h1] at h;cases h
theorem bI (h:atI xs i=some v):∃j,seqIndex? i xs.length=some j∧xs[j]? = some v∧j<xs.length∧-(xs.length:Int)≤i∧i<xs.length:=by
 unfold atI at h
 cases e:ixN xs.length i with
 | none=>rw[e] at h;cases h
 | some j =>
  rw[e] at h
  obtain⟨h1,h2,h3,h4⟩:=xa3 e
  exact⟨j,h1,h,h2,h3,h4⟩
theorem xeD {α:Type}{xs:List α}{j:Nat}{v:α}(h:xs[j]? = some v):atI xs (j:Int)=some v:=by
 have hj:j<xs.length:=(xkg.mp h).1
 have e:ixN xs.length (j:Int)=some j:=by
  unfold ixN
  rw[if_pos (by omega),if_pos (by omega)];simp
 unfold atI;rw[e];exact h
theorem xdh (xs:List α)(v:α):atI (xs++[v]) (-1)=some v:=by
 have hl:(xs++[v]).length=xs.length+1:=by simp
 have e:ixN (xs++[v]).length (-1)=some xs.length:=by
  unfold ixN
  rw[hl,if_neg (by decide),if_pos (by omega)]
  congr 1
  omega
 unfold atI
 rw[e]
 show(xs++[v])[xs.length]? = some v
 simp
def xfx (b:Expr):Prop:=∀o i,subscripted b false o i=operate [o,i] (getItem o i)
def IxR (X:Cx)(r:R2):Prop :=
 ∀(value slice:Expr) (pins:List (Addr×Obj)) (s:Shared) (σ:St) (H:Hp) (x y:V) (v u:Value) (Q:VK),Inv X pins σ H s→RelV x v→RelV y u→r x y H Q →
  subscripted slice false v u=operate [v,u] (getItem v u)→wpAny (model X.prog X.w) X.A (subscriptTail value slice v u) (EP X pins σ Q) X.xe s
def MtR (X:Cx)(id:String)(r:V→List V→Hp→VK→Prop):Prop :=
 ∀(pins:List (Addr×Obj)) (s:Shared) (σ:St) (H:Hp) (x:V) (xs:List V) (v:Value) (us:List Value) (Q:VK),Inv X pins σ H s→RelV x v→zh xs us→r x xs H Q →
  wpAny (model X.prog X.w) X.A (call (.builtin id) (v::us)) (EP X pins σ Q) X.xe s
section
variable {X:Cx} {a b:Expr} {ta tb:TE} {pos:Pos}
theorem IxR.or (h:IxR X r)(h':IxR X r'):IxR X (fun x y H Q=>r x y H Q∨r' x y H Q):=by
 intro value slice pins s σ H x y v u Q I rx ry q hs
 rcases q with q | q
 ·exact h value slice pins s σ H x y v u Q I rx ry q hs
 ·exact h' value slice pins s σ H x y v u Q I rx ry q hs
theorem zV (hr:IxR X r)(ha:PE X a ta)(hb:PE X b tb)(hs:xfx b):PE X (.Subscript a b pos) (tOp r ta tb):=by
 intro pins s σ H Q I h
 exact Subscript_ (xhy ha hb I h fun v u s2 x y H2 I2 rx ry q=>hr a @b pins s2 σ H2 x y v u Q I2 rx ry q (hs _ _))
def xh8 (K:PySem.W.Frag):R2:=fun x y H Q=>∃p xs i v,x=.ref p∧y=.int i∧SqL K H p xs∧atI xs i=some v∧Q v H
def xij (K:PySem.W.Frag):R2:=fun x y H Q=>∃p xs i v,x=.ref p∧y=.int i∧SqT K H p xs∧atI xs i=some v∧Q v H
def xiF:R2:=fun x y H Q=>∃z i c,x=.str z∧y=.int i∧z.length≤sizeLine∧atI z.cps.toList i=some c∧Q (.str ⟨#[c]⟩) H
theorem xaS:IxR X (xh8 X.K):=by
 intro value slice pins s σ H x y v u Q I rx ry h hs
 obtain⟨p,xs,i,z,rfl,rfl,hq,he,q⟩:=h
 cases rx
 obtain⟨t,rfl⟩:=ry
 obtain⟨its,r,pl,hz⟩:=I.list hq
 obtain⟨j,h1,h2,h3,h4,h5⟩:=bI he
 obtain⟨w,ew,rw'⟩:=r.get h2
 have hl:=r.length
 have hn:=sI
 have fin:EP X pins σ Q w s:=⟨z,H,I,rw',q⟩
 by_cases h0:0≤i
 ·have hj:i.toNat=j:=by
   rw[seqIndex_of h0 h5] at h1
   exact xlj h1
  exact item_listR pl.isList h0 (by omega) (by rw[hj];simpa using ew) fin hs
 ·have hj:(i+(its.toArray.size:Int)).toNat=j:=by
   rw[seqIndex_neg (by omega) h4] at h1
   rw[xkX,←hl]
   exact xlj h1
  exact subscriptTail_builtinR (x:=w) pl.isList.typeIs slot_list_getitem.lookup
   (wpAny_getItem_list_neg (Q:=fun r s'=>r=w∧EP X pins σ Q r s') pl.isList (by omega) (by rw[xkX]<;>omega) (by omega) (by rw[hj];simpa using ew) ⟨rfl,fin⟩) hs
theorem xgM:IxR X (xij X.K):=by
 intro value slice pins s σ H x y v u Q I rx ry h hs
 obtain⟨p,xs,i,z,rfl,rfl,hq,he,q⟩:=h
 cases rx
 obtain⟨t,rfl⟩:=ry
 obtain⟨its,r,pl,hz⟩:=I.tuple hq
 obtain⟨j,h1,h2,h3,h4,h5⟩:=bI he
 obtain⟨w,ew,rw'⟩:=r.get h2
 have hl:=r.length
 have hn:=sI
 have fin:EP X pins σ Q w s:=⟨z,H,I,rw',q⟩
 exact subscriptTail_builtinR (x:=w) pl.typeIs slot_tuple_getitem.lookup
  (getItem_tuple (j:=j) (Q:=fun r s'=>r=w∧EP X pins σ Q r s') pl (by omega) (by omega) (by rw[xkX,←hl];exact h1) (by simpa using ew) ⟨rfl,fin⟩) hs
theorem xf8:IxR X xiF:=by
 intro value slice pins s σ H x y v u Q I rx ry h hs
 obtain⟨z,i,c,rfl,rfl,hz,he,q⟩:=h
 obtain⟨t,rfl⟩:=rx
 obtain⟨t',rfl⟩:=ry
 obtain⟨j,h1,h2,h3,h4,h5⟩:=bI he
 have hl:z.cps.toList.length=z.length:=by simp[Str.length]
 rw[hl] at h1 h4 h5
 have hn:=sI
 exact tail_any (typeIs_str s z t) slot_str_getitem.lookup (getItem_str (c:=c) (by
  have e1:decide (i < -(2 ^ 63:Int))=false:=xlm (by omega)
  have e2:decide (i≥2 ^ 63)=false:=xlm (by omega)
  rw[e1,e2,Bool.or_false]) (by rw[h1];simpa using h2) ⟨.str ⟨#[c]⟩,H,I.tok _,⟨_,rfl⟩,q⟩) hs
def rIx (K:PySem.W.Frag):R2:=fun x y H Q=>xh8 K x y H Q∨xij K x y H Q∨xiF x y H Q
theorem xf2:IxR X (rIx X.K):=xaS.or (xgM.or xf8)
theorem lH (its:List Value)(n j:Nat)(u:Value):Obj.mapSeq (·.setIfInBounds j u) { cls:=.type "list", data:=.seq its.toArray n }={ cls:=.type "list", data:=.seq (its.set j u).toArray n }:=by
 simp[Obj.mapSeq]
theorem Inv.lst {pins:List (Addr×Obj)}{σ:St}{H:Hp}{s:Shared}{p:Addr}{xs:List V}(I:Inv X pins σ H s)(h:H p=some (.lst xs)) :
  ∃(its:List Value) (n:Nat),zh xs its∧s.heap.get? p=some { cls:=.type "list", data:=.seq its.toArray n }∧xs.length≤sizeLine:=by
 obtain⟨z,its,n,r,e⟩:=I.hok p _ h
 exact⟨its,n,r,e,z⟩
theorem Inv.lstUpd {pins:List (Addr×Obj)}{σ:St}{H:Hp}{s:Shared}{p:Addr}{xs ys:List V}{its its':List Value}{n n':Nat}{f:Obj→Obj}(I:Inv X pins σ H s)(h:H p=some (.lst xs))
  (ho:s.heap.get? p=some { cls:=.type "list", data:=.seq its.toArray n }) (hf:f { cls:=.type "list", data:=.seq its.toArray n }={ cls:=.type "list", data:=.seq its'.toArray n' }) (r:zh ys its') (hz:ys.length≤sizeLine) (t:Nat) :
  Inv X pins σ (upd H p (.lst ys)) { s with heap:=s.heap.update p f,toks:=t }:=by
 have e:(s.heap.update p f).get? p=some { cls:=.type "list", data:=.seq its'.toArray n' }:=by
  rw[Heap.get?_update_self f ho (by rw[hf]<;>rfl),hf]
 refine I.write (x:=p) (e:=p) (by rw[h];trivial) (.inl rfl) (fun b u hb q=>(Heap.get?_update_other _ _ (Ne.symm hb)).trans q) ⟨_,e⟩ ?_
 exact⟨hz,its',n',r,e⟩
def xgq:V→V→V→Hp→(Hp→Prop)→Prop:=fun o i v H Q=>∃p xs k j,o=.ref p∧i=.int k∧H p=some (.lst xs)∧ixN xs.length k=some j∧Q (upd H p (.lst (xs.set j v)))
theorem set_list:xia X xgq:=by
 intro pins s σ H o i v ov iv u Q I ro ri rv h
 obtain⟨p,xs,k,j,rfl,rfl,hp,hj,q⟩:=h
 cases ro
 obtain⟨t,rfl⟩:=ri
 obtain⟨its,n,r,ho,hz⟩:=I.lst hp
 obtain⟨h1,h2,h3,h4⟩:=xa3 hj
 have hl:=r.length
 have hn:=sI
 have I':Inv X pins σ (upd H p (.lst (xs.set j v))) { s with heap:=s.heap.update p (Obj.mapSeq (·.setIfInBounds j u)) } :=
  I.lstUpd hp ho (lH its n j u) (r.set rv j) (by rw[xku];exact hz) s.toks
 by_cases h0:0≤k
 ·have hk:k.toNat=j:=by
   rw[seqIndex_of h0 h4] at h1
   exact xlj h1
  exact PySem.W.ki_setAt ho h0 (by omega) (by rw[xkX,←hl];exact h4) (by rw[hk];exact⟨_,I',q⟩)
 ·have hk:(k+(its.toArray.size:Int)).toNat=j:=by
   rw[seqIndex_neg (by omega) h3] at h1
   rw[xkX,←hl]
   exact xlj h1
  exact PySem.W.ki_setBack ho (by omega) (by rw[xkX,←hl];exact h3) (by omega) (by rw[hk];exact⟨_,I',q⟩)
theorem nR (lo hi:Option Int)(n:Nat):(sliceBounds lo hi none n).1=((HT.sIx n 0 lo:Nat):Int)∧(sliceBounds lo hi none n).2.1=((HT.sIx n n hi:Nat):Int)∧(sliceBounds lo hi none n).2.2=1:=by
 refine⟨?_,?_,rfl⟩
 ·cases lo with
  | none=>simp[sliceBounds,HT.sIx]
  | some i =>
   simp only[sliceBounds,HT.sIx,Option.getD_none,show(1:Int)>0 by decide,if_true]
   by_cases h:i<0
   ·simp only[h,if_true]<;>omega
   ·simp only[h,if_false]<;>omega
 ·cases hi with
  | none=>simp[sliceBounds,HT.sIx]
  | some i =>
   simp only[sliceBounds,HT.sIx,Option.getD_none,show(1:Int)>0 by decide,if_true]
   by_cases h:i<0
   ·simp only[h,if_true]<;>omega
   ·simp only[h,if_false]<;>omega
theorem tK (its:List Value)(lo hi:Option Int):slicePick its.toArray lo hi none=((its.drop (HT.sIx its.length 0 lo)).take (HT.sIx its.length its.length hi-HT.sIx its.length 0 lo)).toArray:=by
 obtain⟨h1,h2,h3⟩:=nR lo hi its.toArray.size
 unfold slicePick
 rw[h1,h2,h3]
 simp only[sliceRange_one,pick_run,xkX]<;>rfl
def xgL (K:PySem.W.Frag):V→Option Int→Option Int→Hp→VK→Prop:=fun x lo hi H Q=>∃a xs,x=.ref a∧SqL K H a xs∧∀p,H p=none→Q (.ref p) (upd H p (.lst (lG xs lo hi)))
theorem xbE:SlR X (xgL X.K):=by
 intro pins s σ H x v vl vu lo hi sl Q I rx hs pl pu h
 obtain⟨a,xs,rfl,hx,q⟩:=h
 cases rx
 obtain⟨its,r,ht,hz⟩:=I.list hx
 have hlen:=r.length
 refine⟨"list", _,slot_list_getitem.lookup,ht.isList.typeIs,?_⟩
 refine wpAny_getItem_list_slice ht.isList hs pl pu .none (by simp) ?_ (by rw[xkX]<;>omega)
 rw[tK,←hlen]
 refine⟨.ref s.heap.objs.size,_,I.laid (t':=s.toks) (o:=.lst (lG xs lo hi)) (fun b ob q=>Heap.get?_push_of_some _ q) (xk7 _) ?_,rfl,q _ (I.hok.fresh (xk7 _))⟩
 exact⟨xk9 (fS xs lo hi) hz,_,0,(r.drop (HT.sIx xs.length 0 lo)).take (HT.sIx xs.length xs.length hi-HT.sIx xs.length 0 lo),Heap.get?_push_size _ rfl⟩
theorem m6:ja X (.builtin "len") (fun xs H Q=>∃p ys,xs=[.ref p]∧(SqL X.K H p ys∨SqT X.K H p ys)∧Q (.int ys.length) H):=by
 intro pins s σ H xs us Q I r h
 obtain⟨p,ys,rfl,hq,q⟩:=h
 obtain⟨u,rfl,rx⟩:=vals1 r
 cases rx
 have hn:=sI
 rcases hq with hq | hq
 ·obtain⟨its,r',pl,hz⟩:=I.list hq
  have hlen:=r'.length
  exact Calls.call_len_list pl.isList (by simp only[xkX]<;>omega) ⟨.int ys.length,H,I.tok _,⟨s.toks+1,by rw[xkX,hlen]⟩,q⟩
 ·obtain⟨its,r',pl,hz⟩:=I.tuple hq
  have hlen:=r'.length
  exact len_tuple pl (by simp only[xkX]<;>omega) ⟨.int ys.length,H,I.tok _,⟨s.toks+1,by rw[xkX,hlen]⟩,q⟩
theorem tz:ja X (.type "tuple") (fun xs H Q=>∃p ys,xs=[.ref p]∧((SqL X.K H p ys∧∀l,H l=none→Q (.ref l) (upd H l (.tup ys)))∨(SqT X.K H p ys∧Q (.ref p) H))):=by
 intro pins s σ H xs us Q I r h
 obtain⟨p,ys,rfl,h⟩:=h
 obtain⟨u,rfl,rx⟩:=vals1 r
 cases rx
 rcases h with ⟨hq,q⟩ | ⟨hq,q⟩
 ·obtain⟨its,r',pl,hz⟩:=I.list hq
  have hlen:=r'.length
  refine call_tuple_list pl.isList (fun h' kp=>?_) (by simp only[xkX]<;>omega)
  have I1:Inv X pins σ H { s with heap:=h' }:=I.kept (t':=s.toks) kp
  have I2:Inv X pins σ (upd H h'.objs.size (.tup ys)) { s with heap:=h'.push { cls:=.type "tuple", data:=.seq its.toArray } } :=
   I1.laid (t':=s.toks) (fun b o e=>Heap.get?_push_of_some _ e) (xk7 _) (show uJ X.prog X.w _ _ _ (.tup ys) from⟨hz,its,r',IsTup.new _ _⟩)
  exact⟨.ref h'.objs.size,_,I2,rfl,q _ (I1.hok.fresh (xk7 _))⟩
 ·obtain⟨its,r',pl,hz⟩:=I.tuple hq
  exact call_tuple_same pl ⟨.ref p,H,I,rfl,q⟩
def tyV (K:PySem.W.Frag)(T:String)(x:V)(H:Hp):Prop:=match x with
 | .str _=>T = "str"
 | .int _=>T = "int"
 | .ref p=>(T = "list" ∧ ∃xs,SqL K H p xs)∨(T = "tuple" ∧ ∃o,K.lookup p=some o∧o.cls=.type "tuple" ∧ o.dict=none) ∨
   (T = "dict" ∧ ((∃kvs,H p=some (.dK kvs))∨∃kvs,H p=some (.dT kvs)))∨(T = "set" ∧ ∃S n,H p=some (.set S n))
 | _=>False
theorem xgf (I:Inv X pins σ H s)(r:RelV x v)(ty:tyV X.K T x H) :
  s.TypeIs v T∧∀a,v=.ref a→∃ob,s.heap.get? a=some ob∧ob.dict=none:=by
 cases x with
 | str z =>
  obtain⟨t,rfl⟩:=r
  cases (show T = "str" from ty)
  exact⟨typeIs_str s z t,fun _ e=>nomatch e⟩
 | int i =>
  obtain⟨t,rfl⟩:=r
  cases (show T = "int" from ty)
  exact⟨typeIs_int s i t,fun _ e=>nomatch e⟩
 | ref p =>
  cases r
  rcases ty with ⟨rfl,xs,hq⟩ | ⟨rfl,o,hk,hc,hd⟩ | ⟨rfl,hk⟩ | ⟨rfl,S,n,hk⟩
  ·obtain⟨its,_,pl,_⟩:=I.list hq
   refine⟨pl.isList.typeIs,fun a e=>?_⟩
   cases e
   obtain⟨o,n,e,c,hd,_⟩:=pl
   exact⟨o,e,hd⟩
  ·refine⟨⟨o,I.kIn p o hk,hc⟩,fun a e=>?_⟩
   cases e
   exact⟨o,I.kIn _ o hk,hd⟩
  ·have z:∃o,s.heap.get? p=some o∧o.ExactDict:=by
    rcases hk with ⟨kvs,hk⟩ | ⟨kvs,hk⟩
    ·obtain⟨_,_,_,_,o,_,_,e,ex,_⟩:=I.hok p _ hk
     exact⟨o,e,ex⟩
    ·obtain⟨_,_,_,_,o,_,_,e,ex,_⟩:=I.hok p _ hk
     exact⟨o,e,ex⟩
   obtain⟨o,e,ex⟩:=z
   refine⟨⟨o,e,ex.1⟩,fun a e2=>?_⟩
   cases e2
   exact⟨o,e,ex.2.1⟩
  ·obtain⟨o,_,_,_,e,ex,_⟩:=I.hok p _ hk
   refine⟨⟨o,e,ex.1⟩,fun a e2=>?_⟩
   cases e2
   exact⟨o,e,ex.2.1⟩
 | _=>exact False.elim ty
def tBM (K:PySem.W.Frag)(T:String)(r:V→List V→Hp→VK→Prop)(to:TE)(t:TA):TE:=fun σ H Q=>to σ H fun x H1=>tyV K T x H1∧t σ H1 fun xs H2=>r x xs H2 Q
variable {o e:Expr} {es:List Expr} {to:TE} {t:TA} {name:Str} {apos cpos:Pos} {T id:String} {r:V→List V→Hp→VK→Prop}
theorem aZ (pa:PlainAttrs T)(slot:Slot T name id)(hty:typeOf (.builtin id)=pure (.type "method_descriptor"))(hm:MtR X id r)(ho:PE X o to)(ha:PA X (e::es) t)
  (hbase:attributeBase o name X.env (eval o X.env)=eval o X.env:=by rfl)
  (hfew:((backTo cpos (starEach (e::es) X.env)).all (fun x=>!x.1)&&(backToKw cpos (keywordEach [] X.env)).all (fun x=>x.1.isSome)
   && decide ((e::es).length+([]:List Keyword).length+(if ([]:List Keyword).isEmpty then 0 else 1)<30))=true:=by rfl)
  (hline:(apos.endLine == cpos.line)=true:=by rfl) (hs:starEach (e::es) X.env=(false,eval e X.env)::starEach es X.env:=by rfl) (hplain:(backTo cpos (starEach es X.env)).any (·.1)=false:=by rfl) :
  PE X (.Call (.Attribute o name apos) (e::es) [] cpos) (tBM X.K T r to t):=by
 intro pins s σ H Q I h
 refine wpAny_Call_method_late hbase hfew hline rfl (thn (@ho pins s σ H _ I h) fun v s1 ⟨x,H1,I1,r1,ty,q1⟩=>?_)
 obtain⟨h1,h2⟩:=xgf I1 r1 ty
 refine⟨T,id,pa,slot,hty,h1,h2,?_⟩
 have hA:=@ha cpos pins s1 σ H1 _ I1 q1
 rw[hs] at hA ⊢
 refine Calls.callWith_builtin (by show(false || (backTo cpos (starEach es X.env)).any (·.1))=false;rw[hplain]<;>rfl) (Calls.evalArgs_plain ?_)
 exact thn hA fun us s2 ⟨vs,H2,I2,r2,q2⟩=>@hm pins s2 σ H2 x vs v us Q I2 r1 r2 q2
end
end L2
namespace L2
open PySem PySem.Spec PyProof.Rows
def MtM (X:Cx)(id:String)(r:V→List V→Hp→VK→Prop):Prop :=
 ∀(pins:List (Addr×Obj)) (s:Shared) (σ:St) (H:Hp) (x:V) (xs:List V) (v:Value) (us:List Value) (Q:VK),Inv X pins σ H s→RelV x v→zh xs us→r x xs H Q →
  wpAny (model X.prog X.w) X.A (call (.builtin id) (v::us)) (EP X pins σ Q) X.xe s
theorem zh.one:∀ {x:V} {us:List Value},zh [x] us→∃u,us=[u]∧RelV x u
 | _,_,.cons r .nil=>⟨_,rfl,r⟩
theorem zh.rep (h:zh xs us):∀k:Nat,zh (List.replicate k xs).flatten (List.replicate k us).flatten
 | 0=>.nil
 | k+1=>by
  rw[xkV,xkV,xj_,xj_]
  exact zh.append h (zh.rep h k)
theorem foldl_rep (its:List Value):∀(k:Nat) (acc:List Value),
  List.foldl (fun x1 x2=>x1++x2) acc.toArray (List.replicate k its.toArray)=(acc++(List.replicate k its).flatten).toArray
 | 0,acc=>by simp
 | k+1,acc=>by
  have e:acc.toArray++its.toArray=(acc++its).toArray:=by simp
  have e2:(acc++its)++(List.replicate k its).flatten=acc++(List.replicate (k+1) its).flatten:=by
   rw[xkV,xj_,xjY]
  rw[←e2,←foldl_rep its k (acc++its),←e,xkV,xkb]
section
variable {X:Cx} {pins:List (Addr×Obj)} {σ:St} {H:Hp} {s:Shared} {l b:Addr} {xs ys zs:List V}
theorem Inv.lset {its its':List Value}{n:Nat}{f:Array Value→Array Value}{t':Nat}(I:Inv X pins σ H s)(hH:H l=some (.lst xs))
  (e:s.heap.get? l=some { cls:=.type "list", data:=.seq its.toArray n }) (hf:f its.toArray=its'.toArray) (hv:zh ys its') (hz:ys.length≤sizeLine) :
  Inv X pins σ (upd H l (.lst ys)) { s with heap:=s.heap.update l (Obj.mapSeq f),toks:=t' }:=by
 have q:=PySem.IsL.update e f
 rw[hf] at q
 refine I.write (x:=l) (e:=l) (by rw[hH];exact trivial) (.inl rfl) (fun b' u hb hu=>(Heap.get?_update_other s.heap (Obj.mapSeq f) (Ne.symm hb)).trans hu) ⟨_,q⟩ ?_
 exact⟨hz,its',_,hv,q⟩
theorem Inv.lnew (I:Inv X pins σ H s)(hv:zh ys its)(hz:ys.length≤sizeLine) :
  Inv X pins σ (upd H s.heap.objs.size (.lst ys)) { s with heap:=s.heap.push { cls:=.type "list", data:=.seq its.toArray },toks:=t' } :=
 I.laid (fun _ _ q=>Heap.get?_push_of_some _ q) (xk7 _) ⟨hz,its,0,hv,Heap.get?_push_size _ rfl⟩
theorem Inv.fresh (I:Inv X pins σ H s):H s.heap.objs.size=none:=I.hok.fresh (xk7 _)
theorem Inv.lstM (I:Inv X pins σ H s)(hH:H l=some (.lst xs)):xs.length≤sizeLine∧∃(its:List Value) (n:Nat),zh xs its∧xs.length=its.length∧s.heap.get? l=some { cls:=.type "list", data:=.seq its.toArray n }:=by
 obtain⟨z,its,n,r,e⟩:=I.hok l _ hH
 exact⟨z,its,n,r,r.length,e⟩
theorem xdt (h:n≤sizeLine):Builtin.List.listTooLong n=false:=by
 unfold Builtin.List.listTooLong
 exact xlm (by omega)
end
section
variable {X:Cx}
def xbS:V→List V→Hp→VK→Prop:=fun x vs H Q=>∃l xs y,x=.ref l∧vs=[y]∧H l=some (.lst xs)∧xs.length<sizeLine∧Q .non (upd H l (.lst (xs++[y])))
theorem uc:MtM X "list.append" xbS:=by
 intro pins s σ H x vs v us Q I rx rv h
 obtain⟨l,xs,y,rfl,rfl,hH,hz,q⟩:=h
 cases rx
 obtain⟨u,rfl,ru⟩:=rv.one
 obtain⟨z,its,n,r,hl,e⟩:=I.lstM hH
 refine call_meets F.slot_list_append ⟨_,e,rfl⟩ F.entry_list_append (F.args_list_append_2 _ _) (PySem.list_append l its.toArray n u (by rw[xkX];omega)) ⟨e,?_⟩
 refine⟨.non,_,I.lset (its':=its++[u]) hH e (by simp) (r.append (.cons ru .nil)) ?_,rfl,q⟩
 rw[xkm,xkv]
 omega
def xhf:R2:=fun x y H Q=>∃l b xs zs,x=.ref l∧y=.ref b∧H l=some (.lst xs)∧H b=some (.lst zs)∧xs.length+zs.length≤sizeLine∧∀p,H p=none→Q (.ref p) (upd H p (.lst (xs++zs)))
theorem aj:OpR X (binaryOp .Add) xhf:=by
 intro pins s σ H x y v u Q I rx ry h
 obtain⟨l,b,xs,zs,rfl,rfl,hH,hB,hz,q⟩:=h
 cases rx
 cases ry
 obtain⟨z,its,n,r,hl,e⟩:=I.lstM hH
 obtain⟨z2,its2,n2,r2,hl2,e2⟩:=I.lstM hB
 refine PySem.P.add_list e e2 ?_ (by rw[xkX,xkX];omega)
 have ea:its.toArray++its2.toArray=(its++its2).toArray:=by simp
 rw[ea]
 exact⟨.ref _,_,I.lnew (t':=s.toks) (r.append r2) (by rw[xkm];omega),rfl,q _ I.fresh⟩
def xiI:R2:=fun x y H Q=>∃l k xs,x=.ref l∧y=.int k∧H l=some (.lst xs)∧-(2 ^ 63)≤k∧k<2 ^ 63∧xs.length*k.toNat≤sizeLine ∧
 ∀p,H p=none→Q (.ref p) (upd H p (.lst (List.replicate k.toNat xs).flatten))
theorem len_rep (xs:List α)(k:Nat):(List.replicate k xs).flatten.length=k*xs.length:=by
 induction k with
 | zero=>simp
 | succ k ih=>rw[xkV,xj_,xkm,ih,Nat.succ_mul,Nat.add_comm]
theorem xgF:OpR X (binaryOp .Mult) xiI:=by
 intro pins s σ H x y v u Q I rx ry h
 obtain⟨l,k,xs,rfl,rfl,hH,h1,h2,hz,q⟩:=h
 cases rx
 obtain⟨t,rfl⟩:=ry
 obtain⟨z,its,n,r,hl,e⟩:=I.lstM hH
 have hlen:its.toArray.size*k.toNat≤sizeLine:=by rw[xkX,←hl];exact hz
 have hcap:¬its.toArray.size*k.toNat>(2 ^ 63-1) / 8:=by
  have:(sizeLine:Nat)≤(2 ^ 63-1) / 8:=by decide
  omega
 have hfit:¬(!Builtin.List.listFitsIndex k)=true:=by
  rw[fitsIndex_both h1 h2]
  exact xji
 have hlong:¬Builtin.List.listTooLong (its.toArray.size*k.toNat)=true:=by
  rw[xdt hlen]
  exact xji
 have hnew:List.foldl (fun x1 x2=>x1++x2) #[] (List.replicate (if its.toArray.isEmpty=true then 0 else k.toNat) its.toArray)=(List.replicate k.toNat its).flatten.toArray:=by
  have f0:∀m:Nat,List.foldl (fun x1 x2=>x1++x2) #[] (List.replicate m its.toArray)=(List.replicate m its).flatten.toArray:=fun m=>by
   have:=foldl_rep its m []
   rw[xkQ] at this
   exact this
  rw[f0]
  cases its with
  | nil=>simp
  | cons a r'=>rw[if_neg (by simp)]
 refine wpAny_binaryOp_repeat_ref (T := "list") (U := "int") (by decide) ⟨_,e,rfl⟩ (fun s'=>typeIs_int s' k t) noFill_list_mul F.fills_int_mul F.slot_int_rmul repeat_list F.slot_int_index.lookup
  (call_meets F.slot_int_rmul (typeIs_int s k t) F.entry_int_rmul (F.args_int_rmul_2 _ _) (int___rmul___int_list k t l its.toArray n)
   ⟨e,rfl,⟨_,e,rfl⟩,call_meets F.slot_list_mul ⟨_,e,rfl⟩ F.entry_list_mul (F.args_list_mul_2 _ _) (AutoListH.list___mul___list_int_3 l its.toArray n k t hfit hcap hlong) ⟨e,?_⟩⟩)
 rw[hnew]
 exact⟨.ref _,_,I.lnew (t':=s.toks) (r.rep k.toNat) (by rw[len_rep,Nat.mul_comm];exact hz),rfl,q _ I.fresh⟩
end
section
variable {prog:Program} {w:World} {A:Around} {E:Value→Shared→Prop} {s:Shared}
end
section
variable {X:Cx}
end
end L2
namespace Att
open PySem PySem.W PySem.Calls PyProof.Rows
theorem fy:∀(ns:List Int) (vs:List Value),WellAll P h vs (ns.map WData.int)→IntsAre vs ns:=by
 intro ns
 induction ns with
 | nil =>
  intro vs w
  rw[List.map_nil] at w
  cases w
  exact .nil
 | cons n ns ih =>
  intro vs w
  rw[xkz] at w
  cases w with
  | cons a b =>
   cases a
   exact .cons _ _ (ih _ b)
theorem xaU {l:OpenLaw}{n:Nat}(hn:l.most=some n){P:Params}{h:Heap}{args:List WData}{vals:List Value}
  (hpre:l.row.toRowW.claim.pre args=true) (hwl:WellAll P h vals args) :
  ∃a vs ns,vals=[Value.ref a]∧args=[WData.list (ns.map WData.int)]∧h.get? a=some { cls:=.type "list", data:=.seq vs.toArray }∧IntsAre vs ns∧ns.length≤n:=by
 have hsh:WShape.hasAll [] args [.list .int]=true:=(pre_splitW hpre).1
 have hc:l.pre.holds [] { args:=args }=true:=(pre_splitW hpre).2
 obtain⟨d,r,rfl,h1,h2⟩:=hasAllW_cons hsh
 obtain rfl:=hasAllW_nil h2
 obtain⟨xs,rfl,h3⟩:=hasW_list h1
 obtain⟨ns,rfl⟩:=items_int h3
 have hlen:ns.length≤n:=by
  unfold OpenLaw.pre at hc
  have h4:(WTm.not (.lt (.lit (.int (n:Int))) (.len (.arg 0)))).holds [] { args:=[.list (ns.map .int)] }=true:=by
   have h4:=(holds_andW hc).1
   rw[hn] at h4
   exact h4
  have h5:=condW_of h4 (w_not (w_lt w_lit (w_len_list (w_arg rfl))))
  rw[xkr] at h5
  refine Nat.le_of_not_lt fun q=>?_
  have q':(n:Int)<((ns.length:Nat):Int):=by omega
  first
   | (rw[xln q'] at h5;exact absurd h5 (by decide))
   | (simp at h5;omega)
 cases hwl with
 | cons w1 w2 =>
  cases w2
  cases w1 with
  | list ho hall=>exact⟨_,_,ns,rfl,rfl,ho,fy ns _ hall,hlen⟩
theorem xaG (l:OpenLaw)(args:List WData):l.row.toRowW.claim.post args (.bool true) args=true :=
 postW_of (r:=l.row.toRowW) (X:=(true == true))
  (show WShape.has [] (.bool true) .bool=true by first | rfl | decide | simp[WShape.has,WShape.arms,WShape.armsAll])
  (show(WTm.eq .res (.lit (.bool true))).value [] { args:=args,res:=some (.bool true),after:=args }=some (.bool (true == true)) from w_eq_bool (w_res rfl) w_lit) rfl
theorem fx {l:OpenLaw}{n:Nat}{q:Program}{loose:List Str}{XP:(Str→Option Value)→Heap→Prop}{YP:World→Heap→Prop}{d:DefRec}
  (hn:l.most=some n) (hdf:d.params.defaults=[])
  (call:∀(w:World) (s₀ s₁:Shared) (mg mb:Str→Option Value) (fa:Addr) (o:Obj) (pm cd doc:Value) (a:Addr) (vs:List Value) (ns:List Int),
   Ground q loose [] XP w s₀ mg mb s₁.heap→YP w s₁.heap →
   s₁.heap.get? fa=some o→o.data=.func (docDef d.name d.params d.body d.scope pm cd doc)→s₁.heap.CodeRec cd d.name→mg d.name=some (.ref fa) →
   s₁.heap.get? a=some { cls:=.type "list", data:=.seq vs.toArray }→IntsAre vs ns→ns.length≤n→s₁.gens = #[] →
   codeAny (model l.prog w) callerA (.call (.ref fa) ⟨[.ref a],[]⟩) (fun r s'=>r=.ok (.ret (.bool true))∧OldK s₁.heap s'.heap∧s'.os=s₁.os∧AllBare s'.gens) s₁) :
  WalkO q loose XP YP l.row.toRowW d [] (fun f vs=>PySem.call f vs):=by
 intro w s₀ s₁ mg mb G Y fa o pm cd doc dV kV ho hd hcd hD hmg hg args vals as hpre hlay hrd hwl hlo
 obtain rfl:dV=.none:=Dflts.none hD hdf
 obtain rfl:kV=.none:=Dflts.noKw hD
 obtain⟨a,vs,ns,rfl,rfl,hobj,hints,hlen⟩:=xaU hn hpre hwl
 refine enter_call (codeAny_mono (call w s₀ s₁ mg mb fa o pm cd doc a vs ns G Y ho (fd_plain hd) hcd hmg hobj hints hlen hg) fun r s' hq=>?_)
 obtain⟨rfl,h2,h3,h4⟩:=hq
 exact⟨.inl ⟨.bool true,.bool true,[],rfl,fun _=>rfl,.bool true,xaG l _,fun _=>⟨List.Pairwise.nil,fun _ hm=>(nomatch hm)⟩⟩,h2,h3,h4⟩
section
variable {prog:Program} {w:World} {A:Around} {E:Value→Shared→Prop} {s:Shared} {K:Frag}
def ledger (h:Heap)(L d:Addr):List (Addr×Obj):=(List.range h.objs.size).filterMap fun a=>if a=L∨a=d then none else(h.get? a).map fun o=>(a,o)
end
end Att
namespace L2
open PySem PySem.Spec PyProof.Rows
theorem fA:∀ {vs:List Value} {ns:List Int},IntsAre vs ns→zh (ns.map V.int) vs
 | _,_,.nil=>.nil
 | _,_,.cons n t h=>.cons ⟨t,rfl⟩ (fA h)
def xhI (H:Hp):Prop:=∀b,H b=none∨∃o xs,H b=some (.frz o (.lst xs))
theorem xcq {P:Program}{w:World}{K:PySem.W.Frag}{mg mb:Str→Option Value}{CX:CXT}{k:Nat}{fa a:Addr}{fd:FuncData}{x:Str}{sp:Sp}{s₁:Shared}{vs:List Value}{ns:List Int}
  (KX:K.In s₁.heap) (hns:s₁.heap.Ns mainGlobals mg) (hb:s₁.heap.Ns builtinsNs mb) (hbb:∀x:Str,x ≠ "__name__" → mb x=bootBuiltins x) (hlim:s₁.heap.NoLimit) (hg:s₁.gens = #[])
  (ha:s₁.heap.get? a=some { cls:=.type "list", data:=.seq vs.toArray }) (hi:IntsAre vs ns) (hl:ns.length≤sizeLine) (hr:k7 k callerA)
  (F:∀base:Heap,K.In base→base.Ns mainGlobals mg→aD P w K mg base CX k fa fd [x] sp) (hbind:∀(s:Shared) (u:Value),BindsTo s fd ⟨[u],[]⟩ [(x,u)])
  (hsp:∀H:Hp,xhI H→SqL K H a (ns.map V.int)→sp [.ref a] H (fun v _=>v=.bl true) fun _ _ _=>False)
  (hCX:∀H e s',CX [] H s₁ (fun _ _ _=>False) e s'→False) :
  codeAny (model P w) callerA (.call (.ref fa) ⟨[.ref a],[]⟩) (fun r s'=>r=.ok (.ret (.bool true))∧OldK s₁.heap s'.heap∧s'.os=s₁.os∧AllBare s'.gens) s₁:=by
 have rv:=fA hi
 have lenV:=hi.length
 have core:∀H:Hp,xhI H→SqL K H a (ns.map V.int)→HOk P w H s₁.heap→(∀b,H b≠none→b=a)→(H a≠none→K.lookup a=none) →
   codeAny (model P w) callerA (.call (.ref fa) ⟨[.ref a],[]⟩) (fun r s'=>r=.ok (.ret (.bool true))∧OldK s₁.heap s'.heap∧s'.os=s₁.os∧AllBare s'.gens) s₁:=by
  intro H hO hS hok hA hK
  have base_of:∀ {b:Addr} {o:Obj},s₁.heap.get? b=some o→H b=none→(pN s₁.heap H).get? b=some o:=fun e n=>p6 e n
  have noA:∀ {b:Addr} {o:Obj} {es:Array DictEntry} {ep:Nat},s₁.heap.get? b=some o→o.data=.dict es ep→H b=none:=fun {b o es ep} e d=>by
   cases q:H b with
   | none=>rfl
   | some u =>
    have e':b=a:=hA b (by rw[q];simp)
    subst e'
    rw[ha] at e;cases e
    have d':Data.seq vs.toArray _=Data.dict es ep:=d
    cases d'
  have nsK:∀ {b:Addr} {m:Str→Option Value},s₁.heap.Ns b m→(pN s₁.heap H).Ns b m:=fun {b m} ⟨o,es,ep,e,d,r⟩=>⟨o,es,ep,base_of e (noA e d),d,r⟩
  have hKb:K.In (pN s₁.heap H):=fun b o e=>base_of (KX b o e) (by
   cases q:H b with
   | none=>rfl
   | some u =>
    have e':b=a:=hA b (by rw[q];simp)
    subst e'
    rw[hK (by rw[q];simp)] at e;cases e)
  have hM:Mod K mg (pN s₁.heap H):=⟨hKb,nsK hns,⟨mb,nsK hb,hbb⟩,let ⟨mc,h1,h2⟩:=hlim;⟨mc,nsK h1,h2⟩⟩
  have e0:xcx P w K mg (pN s₁.heap H) callerA [] s₁ H:=⟨rfl,hM,fun b o e=>xaH e,Nat.le_of_eq (m7 _ _),trivial,fun b hb=>absurd (show b∈([]:List Addr) from hb) (by simp),hok,.of_eq hg⟩
  refine codeAny_mono ((F _ hKb (nsK hns)).run callerA [] s₁ H ⟨[.ref a],[]⟩ [.ref a] [.ref a] _ _ hr e0 (hbind s₁ (.ref a)) (.cons rfl .nil) (hsp H hO hS)) fun r s' h=>?_
  cases r with
  | error e=>exact(hCX H e s' h).elim
  | ok fl =>
   cases fl with
   | next=>exact False.elim h
   | brk=>exact False.elim h
   | cont=>exact False.elim h
   | ret u =>
    obtain⟨v,H',os,bare,un,hok',r',q⟩:=h
    have q':v=.bl true:=q
    subst q'
    obtain rfl:u=Value.bool true:=r'
    refine⟨rfl,OldK.of_keep fun b o e=>?_,os,bare⟩
    cases q:H b with
    | none=>exact un.keep b o e q (by intro z;exact absurd (show b∈([]:List Addr) from z) (by simp)) (by simp)
    | some u =>
     rcases hO b with z | ⟨ob,xs,z⟩
     ·rw[q] at z;cases z
     ·have z2:=un.frzs b ob _ z
      obtain⟨e1,_⟩:=hok b _ z
      obtain⟨e2,_⟩:=hok' b _ z2
      rw[e] at e1;cases e1
      exact e2
 cases hk:K.lookup a with
 | some o =>
  have e:=KX a o hk
  rw[ha] at e
  cases e
  refine core (fun _=>none) (fun _=>.inl rfl) (.inr ⟨_,vs.toArray,_,hk,rfl,rfl,rfl,by rw[xkX,lenV];exact hl,by simpa using rv⟩) (fun b u z=>by have z':(none:Option HO)=some u:=z;cases z') (fun b z=>absurd rfl z) fun z=>absurd rfl z
 | none =>
  refine core (fun b=>if b=a then some (.frz { cls:=.type "list", data:=.seq vs.toArray } (.lst (ns.map V.int))) else none) (fun b=>?_) (.inl (.inr ⟨{ cls:=.type "list", data:=.seq vs.toArray },if_pos rfl⟩)) (fun b u z=>?_) (fun b z=>?_) fun _=>hk
  ·by_cases hb:b=a
   ·exact .inr ⟨_,_,if_pos hb⟩
   ·exact .inl (if_neg hb)
  ·by_cases hb:b=a
   ·have z':=(if_pos hb).symm.trans z
    cases z'
    subst hb
    exact⟨ha,by rw[xkr];exact hl,vs,_,rv,ha⟩
   ·have z':=(if_neg hb).symm.trans z
    cases z'
  ·by_cases hb:b=a
   ·exact hb
   ·exact absurd (if_neg hb) z
end L2
namespace L2
open PySem PySem.Spec PyProof.Rows
abbrev KOf {K:PySem.W.Frag}{h:Heap}(_:K.In h):PySem.W.Frag:=K
theorem xhD {l:PySem.W.OpenLaw}{n k:Nat}{q:Program}{loose:List Str}{XP:(Str→Option Value)→Heap→Prop}{YP:World→Heap→Prop}{d:DefRec}{K:Params→PySem.W.Frag}{CX:World→CXT}{sp:World→Sp}{x:Str}
  (hn:l.most=some n) (hn2:n≤sizeLine) (hdf:d.params.defaults=[]) (hr:k7 k callerA)
  (hY:∀(w:World) (h:Heap),YP w h→(K w.params).In h)
  (F:∀(w:World) (mg:Str→Option Value) (fa:Addr) (h:Heap),(K w.params).In h→h.Ns mainGlobals mg→mg d.name=some (.ref fa) →
   ∃fd:FuncData,(∀(s:Shared) (u:Value),BindsTo s fd ⟨[u],[]⟩ [(x,u)]) ∧
    ∀base:Heap,(K w.params).In base→base.Ns mainGlobals mg→aD l.prog w (K w.params) mg base (CX w) k fa fd [x] (sp w))
  (hsp:∀(w:World) (H:Hp) (a:Addr) (ns:List Int),ns.length≤n→xhI H→SqL (K w.params) H a (ns.map V.int)→sp w [.ref a] H (fun v _=>v=.bl true) fun _ _ _=>False)
  (hCX:∀(w:World) (H:Hp) (s:Shared) (e:Value) (s':Shared),CX w [] H s (fun _ _ _=>False) e s'→False) :
  PySem.W.WalkO q loose XP YP l.row.toRowW d [] (fun f vs=>PySem.call f vs):=by
 refine Att.fx hn hdf fun w s₀ s₁ mg mb fa o pm cd doc a vs ns G Y ho hd hcd hmg hobj hints hlen hg=>?_
 have KX:=hY w _ Y
 obtain⟨fd,hb,hF⟩:=F w mg fa _ KX G.T.g hmg
 exact xcq KX G.T.g G.T.b G.T.builtins G.T.nolimit hg hobj hints (xk9 hlen hn2) hr hF hb (fun H hO hS=>hsp w H a ns hlen hO hS) fun H e s'=>hCX w H s₁ e s'
end L2
namespace L2
open PySem PySem.Spec PyProof.Rows
def wO (s:Stmt):Arguments:=match s with
 | .FunctionDef _ a _ _ _ _ _ _ _ _=>a
 | _=>{ posonlyargs:=[],args:=[],vararg:=none,kwonlyargs:=[],kw_defaults:=[],kwarg:=none,defaults:=[] }
def yV (s:Stmt):List Stmt:=match s with
 | .FunctionDef _ _ b _ _ _ _ _ _ _=>b
 | _=>[]
def xf (s:Stmt):Scope:=match s with
 | .FunctionDef _ _ _ _ _ _ sc _ _ _=>sc
 | _=>{ kind:=.function,names:=[],isGenerator:=false,isCoroutine:=false }
abbrev CX0:CXT:=fun _ _ _ _ _ _=>False
abbrev E0:XK:=fun _ _ _=>False
theorem xhu:aC CX0 X E0:=fun _ _ _ _ _ _ _ h=>h.elim
structure Fun (K:PySem.W.Frag)(x qual:Str)(st:Stmt)(f:Addr)(fd:FuncData):Prop where
 ex:∃(oc:Value) (od:Option Addr) (kV doc pm:Value) (an:Option Addr) (cdv ct:Value) (osl:Array (Option Value)),
  fd=PySem.W.fnOf x qual (wO st) (yV st) (xf st) .none kV doc pm an cdv ct∧K.lookup f=some ⟨oc,od,.func fd,osl⟩∧PySem.W.codeIn K cdv qual=true
 kp:PySem.W.keepIn K (.ref f)=true
section
variable {P:Program} {w:World} {K:PySem.W.Frag} {mg:Str→Option Value} {base:Heap}
theorem Fun.ok {x qual:Str}{st:Stmt}{f:Addr}{fd:FuncData}{N ps:List Str}{k:Nat}{sp:Sp}(F:Fun K x qual st f fd)(S:xw N ps (xf st))(len:∀vs H Q E,sp vs H Q E→vs.length=ps.length)
  (hbody:∀(cdv:Value) (A:Around) (outer:List Env) (s:Shared) (H:Hp) (vs:List V) (Q:VK) (E:XK),k7 k (A.deeper (envOfC qual (xf st) s.heap.objs.size f cdv))→sp vs H Q E →
   ∃t,PSs (fN CX0 P w K mg base N qual (xf st) f cdv A outer s H E).nox (yV st) t∧t { nx:=fun _ H'=>Q .non H',rt:=Q } (start N vs) H):aD P w K mg base CX0 (k+1) f fd ps sp:=by
 obtain⟨oc,od,kV,doc,pm,an,cdv,ct,osl,rfl,lk,hcd⟩:=F.ex
 refine xfp lk hcd S len fun A outer s H vs Q E hr hsp=>?_
 obtain⟨t,h,q⟩:=hbody cdv A outer s H vs Q E hr hsp
 exact⟨t,h.nox,q⟩
theorem Fun.binds {x qual:Str}{st:Stmt}{f:Addr}{fd:FuncData}{ps:List Str}(F:Fun K x qual st f fd)
  (h:∀(kV doc pm:Value) (an:Option Addr) (cdv ct:Value) (us:List Value),us.length=ps.length→bindArgs (PySem.W.fnOf x qual (wO st) (yV st) (xf st) .none kV doc pm an cdv ct) ⟨us,[]⟩=pure (ps.zip us)):Binds K fd ps []:=by
 obtain⟨oc,od,kV,doc,pm,an,cdv,ct,osl,rfl,lk,hcd⟩:=F.ex
 exact .all (h kV doc pm an cdv ct)
theorem xdN {x qual:Str}{st:Stmt}{f:Addr}{oc:Value}{od an:Option Addr}{osl:Array (Option Value)}{kV doc pm cdv ct:Value}(l:K.lookup f=some ⟨oc,od,.func (PySem.W.fnOf x qual (wO st) (yV st) (xf st) .none kV doc pm an cdv ct),osl⟩)
  (c:PySem.W.codeIn K cdv qual=true) (k:PySem.W.keepIn K (.ref f)=true):Fun K x qual st f (PySem.W.fnOf x qual (wO st) (yV st) (xf st) .none kV doc pm an cdv ct):=⟨⟨oc,od,kV,doc,pm,an,cdv,ct,osl,rfl,l,c⟩,k⟩
end
theorem xbB (h:n≤1000):n<sizeLine:=xla h (by decide)
section
variable {X:Cx}
theorem pv (i:Nat)(hN:X.N[i]? = some x:=by rfl)(hv:Vis X.env.scope x:=by first | exact Or.inl rfl | exact Or.inr (Or.inl rfl) | exact Or.inr (Or.inr rfl))(hd:(x == ("__debug__" : Str))=false:=by decide)
  (hcd:(x == ("__classdict__" : Str))=false:=by decide):PE X (.Name x pos) (sZ i):=xem hN hv hd hcd
end
theorem bc {A B:Prop}(h:B):if false=true then A else B:=by
 rw[if_neg xji]
 exact h
theorem o9 {A B:Prop}(h:A):if true=true then A else B:=by
 rw[if_pos rfl]
 exact h
theorem xig {c A B:Prop}[Decidable c](h1:c→A)(h2:¬c→B):if c then A else B:=by
 by_cases h:c
 ·rw[if_pos h]
  exact h1 h
 ·rw[if_neg h]
  exact h2 h
end L2
namespace L2
open PySem PySem.Spec PyProof.Rows
def g9 (env:Env):List (Str×NameKind)→List (Str×Addr)→List (Str×Addr)
 | [],cs=>cs
 | (n,k)::r,cs=>if k == NameKind.free then(match env.cells.lookup n with | some a=>g9 env r ((n,a)::cs) | none=>g9 env r cs) else g9 env r cs
theorem pG:∀(l:List (Str×NameKind)) (cs:List (Str×Addr)),(∀y∈l,y.2=NameKind.free→∃c,env.cells.lookup y.1=some c) →
  (forIn l cs (fun(x:Str×NameKind) (r:List (Str×Addr))=>(if (x.2 == NameKind.free)=true then(do let a ←cellOf env x.1;pure (ForInStep.yield ((x.1,a)::r))) else pure (ForInStep.yield r):Sem (ForInStep (List (Str×Addr))))))=pure (g9 env l cs)
 | [],cs,_=>rfl
 | (n,k)::r,cs,h=>by
  rw[List.forIn_cons]
  have hr:∀y∈r,y.2=NameKind.free→∃c,env.cells.lookup y.1=some c:=fun y hy=>h y (xkF _ hy)
  by_cases hk:k=NameKind.free
  ·subst hk
   obtain⟨c,hc⟩:=h (n,.free) xkG rfl
   have hc':env.cells.lookup n=some c:=hc
   have e1:cellOf env n=pure c:=by unfold cellOf;rw[hc']
   have e2:g9 env ((n,.free)::r) cs=g9 env r ((n,c)::cs):=by
    show(if (NameKind.free == NameKind.free)=true then _ else _)=_
    rw[if_pos (show(NameKind.free == NameKind.free)=true from rfl),hc']
   rw[e2,if_pos (show((NameKind.free == NameKind.free)=true) from rfl),e1,pure_bind,pure_bind]
   exact pG r _ hr
  ·have hb:(k == NameKind.free)=false:=by simpa using hk
   have e2:g9 env ((n,k)::r) cs=g9 env r cs:=by
    show(if (k == NameKind.free)=true then _ else _)=_
    rw[hb];rfl
   rw[e2,if_neg (by rw[hb];exact xji),pure_bind]
   exact pG r _ hr
theorem bK (h:∀y∈sc.names,y.2=NameKind.free→∃c,env.cells.lookup y.1=some c):closureFor sc env=pure (g9 env sc.names []):=by
 have q:=pG (env:=env) sc.names [] h
 unfold closureFor
 show(do let r ←forIn sc.names [] (fun(x:Str×NameKind) (r:List (Str×Addr))=>_);pure r)=_
 rw[show(forIn sc.names ([]:List (Str×Addr)) (fun(x:Str×NameKind) (r:List (Str×Addr))=>match x with
   | (name,kind)=>if (kind == NameKind.free)=true then(do let a ←cellOf env name;pure (ForInStep.yield ((name,a)::r))) else pure (ForInStep.yield r)):Sem (List (Str×Addr)))=pure (g9 env sc.names []) from q]
 rfl
theorem vf:∀(l:List (Str×NameKind)) (cs:List (Str×Addr)),(g9 env l cs).lookup x=some c→(∀c,cs.lookup x=some c→env.cells.lookup x=some c)→env.cells.lookup x=some c
 | [],cs,h,hc=>hc c h
 | (n,k)::r,cs,h,hc=>by
  unfold g9 at h
  split at h
  ·split at h
   ·rename_i a ha
    refine vf r _ h fun c' h'=>?_
    rw[xkx] at h'
    by_cases e:x == n
    ·rw[e] at h'
     have:x=n:=by simpa using e
     rw[this,ha];exact h'
    ·have e':(x == n)=false:=by simpa using e
     rw[e'] at h'
     exact hc c' h'
   ·exact vf r _ h hc
  ·exact vf r _ h hc
theorem jA (he:env.cells.lookup x=some c):∀(l:List (Str×NameKind)) (cs:List (Str×Addr)),cs.lookup x=some c→(g9 env l cs).lookup x=some c
 | [],cs,h=>h
 | (n,k)::r,cs,h=>by
  unfold g9
  split
  ·split
   ·rename_i a ha
    refine jA he r _ ?_
    rw[xkx]
    by_cases e:x == n
    ·rw[e]
     have e':x=n:=by simpa using e
     rw[e',ha] at he
     exact he
    ·have e':(x == n)=false:=by simpa using e
     rw[e']
     exact h
   ·exact jA he r _ h
  ·exact jA he r _ h
theorem jQ (he:env.cells.lookup x=some c):∀(l:List (Str×NameKind)) (cs:List (Str×Addr)),(x,NameKind.free)∈l→(g9 env l cs).lookup x=some c
 | (n,k)::r,cs,h=>by
  rcases xkE.mp h with e | e
  ·have e1:n=x:=xlk (·.1) e.symm
   have e2:k=.free:=xlk (·.2) e.symm
   subst e1 e2
   unfold g9
   rw[if_pos (show(NameKind.free == NameKind.free)=true from rfl),he]
   exact jA he r _ (by rw[xkx];simp)
  ·unfold g9
   split
   ·split
    ·exact jQ he r _ e
    ·exact jQ he r _ e
   ·exact jQ he r _ e
def yd (X:Cx)(sc:Scope)(N:List Str)(C:Addr)(s:Shared)(H:Hp)(ex:List Addr):Cx :=
 { X with N:=N,s₀:=s,H₀:=H,env:=compEnvC sc (g9 X.env sc.names []) C X.env,outer:=X.stack,stack:=X.stack,ex:=ex,fn:=fun _=>false,pn:=[],xe:=fun _ _=>False }
def xbL (XN:List Str)(xs sc:Scope)(N:List Str)(tau:List (Option Nat)):Bool :=
 decide (sc.kind=.function)&&sc.names.all (fun y=>decide (y.2≠.cell))&&sc.names.all (fun y=>decide (y.2≠.local) || decide (sc.names.lookup y.1=some .local))&&decide N.Nodup&&decide (tau.length=N.length) &&
 (tau.zip N).all (fun p=>match p.1 with | none=>true | some j=>decide (XN[j]? = some p.2)&&decide (sc.names.lookup p.2=some .free)) &&
 sc.names.all (fun y=>decide (y.2≠.free) || decide (xs.names.lookup y.1=some .cell) || decide (xs.names.lookup y.1=some .free))&&decide (xs.kind=.function)
structure vG (X:Cx)(sc:Scope)(N:List Str)(tau:List (Option Nat)):Prop where
 kind:sc.kind=.function
 nocell:∀y∈sc.names,y.2≠.cell
 loc:∀y∈sc.names,y.2=.local→sc.names.lookup y.1=some .local
 nd:N.Nodup
 len:tau.length=N.length
 out:∀(i j:Nat) (x:Str),tau[i]? = some (some j)→N[i]? = some x→X.N[j]? = some x∧sc.names.lookup x=some .free
 fr:∀y∈sc.names,y.2=.free→X.env.scope.names.lookup y.1=some .cell∨X.env.scope.names.lookup y.1=some .free
 okind:X.env.scope.kind=.function
theorem zip_get:∀ {l:List α} {k:List β} {i:Nat} {a:α} {b:β},l[i]? = some a→k[i]? = some b→(a,b)∈l.zip k
 | [],_,_,_,_,h,_=>by simp at h
 | _::_,[],_,_,_,_,h=>by simp at h
 | x::l,y::k,0,a,b,h1,h2=>by simp at h1 h2;subst h1;subst h2;simp
 | x::l,y::k,i+1,a,b,h1,h2=>by
  have:=zip_get (l:=l) (k:=k) (i:=i) (by simpa using h1) (by simpa using h2)
  rw[xk4]
  exact xkF _ this
theorem yf (h:xbL XN xs sc N tau=true)(h1:X.N=XN)(h2:X.env.scope=xs):vG X sc N tau:=by
 subst h1 h2
 unfold xbL at h
 simp only[xjh,xjV,xlo,Bool.or_eq_true] at h
 obtain⟨⟨⟨⟨⟨⟨⟨k,c⟩,l⟩,nd⟩,len⟩,out⟩,fr⟩,ok⟩:=h
 refine⟨k,c,fun y hy e=>(l y hy).resolve_left (fun z=>z e),nd,len,fun i j x e1 e2=>?_,fun y hy e=>?_,ok⟩
 ·have:=out _ (zip_get e1 e2)
  simpa using this
 ·rcases fr y hy with (z | z) | z
  ·exact absurd e z
  ·exact .inl z
  ·exact .inr z
def k9 (tau:List (Option Nat))(σ:St):St:=tau.map fun o=>match o with | some j=>(σ[j]?).getD none | none=>none
theorem qZ {sc:Scope}{env:Env}:∀ {l:List (Str×NameKind)} {x:Str} {k:NameKind},
  (l.map fun(n,k)=>if (k == NameKind.free&&env.scope.kind == .function&&env.kindOf n == some .cell) then(n,NameKind.cell) else(n,k)).lookup x=some k→((∀y∈l,y.2≠NameKind.cell)→k≠.local→(x,NameKind.free)∈l∨l.lookup x=some k∧k≠.cell)
 | [],x,k,h=>by simp at h
 | (n,k')::r,x,k,h=>by
  intro nc nl
  have ih:=@qZ sc env r x k
  have h:List.lookup x ((if (k' == NameKind.free&&env.scope.kind == .function&&env.kindOf n == some .cell)=true then(n,NameKind.cell) else(n,k'))::(r.map _))=some k:=h
  by_cases hx:x=n
  ·subst hx
   by_cases hc:(k' == NameKind.free&&env.scope.kind == .function&&env.kindOf x == some .cell)=true
   ·left
    have:k'=.free:=by
     simp only[xjh] at hc
     simpa using hc.1.1
    subst this
    exact xkG
   ·rw[if_neg hc,xkx] at h
    simp at h
    subst h
    right
    exact⟨by rw[xkx];simp,nc (x,k') xkG⟩
  ·have e:(x == n)=false:=by simpa using hx
   have h':List.lookup x (r.map fun(n,k)=>if (k == NameKind.free&&env.scope.kind == .function&&env.kindOf n == some .cell) then(n,NameKind.cell) else(n,k))=some k:=by
    split at h
    ·rw[xkx,e] at h;exact h
    ·rw[xkx,e] at h;exact h
   rcases ih h' (fun y hy=>nc y (xkF _ hy)) nl with z | ⟨z,w⟩
   ·exact .inl (xkF _ z)
   ·exact .inr ⟨by rw[xkx,e];exact z,w⟩
section
variable {X:Cx} {sc:Scope} {N:List Str} {tau:List (Option Nat)} {pins:List (Addr×Obj)} {σ:St} {H:Hp} {s:Shared}
theorem vG.cells (k:vG X sc N tau)(ok:X.Ok):∀y∈sc.names,y.2=NameKind.free→∃c,X.env.cells.lookup y.1=some c:=fun y hy e=>ok.has y.1 (k.fr y hy e)
theorem vG.vis (k:vG X sc N tau)(h:(relabel sc X.env).names.lookup x=some .cell∨(relabel sc X.env).names.lookup x=some .free):(x,NameKind.free)∈sc.names:=by
 rcases h with h | h
 ·rcases qZ (sc:=sc) (env:=X.env) (l:=sc.names) h k.nocell (by decide) with z | ⟨_,z⟩
  ·exact z
  ·exact absurd rfl z
 ·rcases qZ (sc:=sc) (env:=X.env) (l:=sc.names) h k.nocell (by decide) with z | ⟨z,_⟩
  ·exact z
  ·exact PySem.mem_of_lookup z
theorem pK (k:vG X sc N tau)(I:Inv X pins σ H s)(hf:∀b∈fp,cY X pins H b)(hob:∀b∈fp,∃o,s.heap.get? b=some o) :
  (yd X sc N (s.heap.objs.size+1) s H fp).Ok where
 mod:=I.ok.mod
 kind:=k.kind
 glob:=I.ok.glob
 blt:=I.ok.blt
 above:=xk8 _
 inj:=fun x y c h1 h2=>I.ok.inj x y c (vf _ _ h1 fun _ z=>by simp at z) (vf _ _ h2 fun _ z=>by simp at z)
 has:=fun x h=>by
  have m:=k.vis h
  obtain⟨c,e⟩:=k.cells I.ok _ m rfl
  exact⟨c,jQ e _ _ m⟩
 cab:=fun x c h=>by cases h
 hd:=I.ok.hd
 frames:=I.ok.frames
 stk:=.inl rfl
 exf:=fun b hb=>⟨fun z=>by
  obtain⟨o,e⟩:=hob b hb
  have l:=Heap.lt_size e
  have z':b=s.heap.objs.size+1:=z
  rw[z'] at l
  exact xk_ _ (Nat.lt_of_succ_lt l),fun x c h=>(hf b hb).2.2.2.2.1 x c (vf _ _ h fun _ z=>by simp at z)⟩
 bs:=I.bs
 bsz:=xk9 I.ok.bsz I.sz
 noex:=fun b o e hb=>by
  rcases(hf b hb).2.2.2.1 with z | z
  ·exact I.ok.noex b o e z
  ·exact absurd (xlb (Heap.lt_size (I.ok.bs b o e).1) z) (xk_ _)
 exfs:=fun b hb z=>by
  rcases xkE.mp (I.stkSub b z) with e | e
  ·exact(hf b hb).2.1 e
  ·exact(hf b hb).2.2.1 e
 funs:=I.stack
 frf:=I.stkFree
theorem jN {i:Nat}{v:V}(h:(k9 tau σ)[i]? = some (some v)):∃j,tau[i]? = some (some j)∧σ[j]? = some (some v):=by
 unfold k9 at h
 rw[xkh] at h
 cases e:tau[i]? with
 | none=>rw[e] at h;cases h
 | some o =>
  rw[e] at h
  cases o with
  | none=>cases h
  | some j =>
   have h':(σ[j]?).getD none=some v:=by simpa using h
   refine⟨j,rfl,?_⟩
   cases q:σ[j]? with
   | none=>rw[q] at h';cases h'
   | some o'=>rw[q] at h';exact xlk some h'
theorem oW (k:vG X sc N tau)(I:Inv X pins σ H s){fp:List Addr}(hf:∀b∈fp,cY X pins H b)(hob:∀b∈fp,∃o,s.heap.get? b=some o){h1:Heap}{t':Nat}
  (kp:∀b o,s.heap.get? b=some o→h1.get? b=some o) (hn:h1.Ns (s.heap.objs.size+1) (fun _=>none)) (hD:h1.get? s.heap.objs.size=some { cls:=.type "list", data:=.seq #[] 0 }) :
  Inv (yd X sc N (s.heap.objs.size+1) s H fp) [(s.heap.objs.size,{ cls:=.type "list", data:=.seq #[] 0 })] (k9 tau σ) H { s with heap:=h1,toks:=t' } where
 ok:=pK k I hf hob
 os:=rfl
 bare:=I.bare
 base:=Un.kept kp
 loc:=⟨_,hn,fun i x v e1 e2 e3=>by
  obtain⟨j,t1,t2⟩:=jN e2
  obtain⟨o1,o2⟩:=k.out i j x t1 e1
  have m:(x,NameKind.free)∈sc.names:=PySem.mem_of_lookup o2
  have hk:=k.fr _ m rfl
  obtain⟨mm,hn',hl⟩:=I.loc
  obtain⟨u,r,l⟩:=hl j x v o1 t2 (hk.elim (fun z=>.inr (.inl z)) fun z=>.inr (.inr z))
  refine⟨u,r,.inr ⟨?_,?_⟩⟩
  ·rcases e3 with z | z | z
   ·exfalso
    have:∀ {l:List (Str×NameKind)},l.lookup x=some .free→(l.map fun(n,k)=>if (k == NameKind.free&&X.env.scope.kind == .function&&X.env.kindOf n == some .cell) then(n,NameKind.cell) else(n,k)).lookup x≠some .local:=by
     intro l
     induction l with
     | nil=>intro h;simp at h
     | cons y r ih =>
      obtain⟨n,k'⟩:=y
      intro h q
      have q:List.lookup x ((if (k' == NameKind.free&&X.env.scope.kind == .function&&X.env.kindOf n == some .cell)=true then(n,NameKind.cell) else(n,k'))::(r.map _))=some .local:=q
      by_cases hx:x=n
      ·subst hx
       rw[xkx] at h
       simp at h
       subst h
       split at q
       ·rw[xkx] at q;simp at q
       ·rw[xkx] at q;simp at q
      ·have e:(x == n)=false:=by simpa using hx
       rw[xkx,e] at h
       refine ih h ?_
       split at q
       ·rw[xkx,e] at q;exact q
       ·rw[xkx,e] at q;exact q
    exact this o2 z
   ·exact .inl z
   ·exact .inr z
  ·rcases l with ⟨z,_⟩ | ⟨_,c,ec,hc⟩
   ·exfalso
    have z:X.env.scope.names.lookup x=some .local:=z
    rcases hk with q | q<;>rw[z] at q<;>cases q
   ·obtain⟨o,ho,hd⟩:=hc
    exact⟨c,jQ ec _ _ m,o,kp c o ho,hd⟩⟩
 cell:=fun x c h=>by
  obtain⟨v,o,ho,hd⟩:=I.cell x c (vf _ _ h fun _ z=>by simp at z)
  exact⟨v,o,kp c o ho,hd⟩
 free:=I.hok.fresh (xk8 _)
 freeC:=fun x c h=>I.freeC x c (vf _ _ h fun _ z=>by simp at z)
 pin:=fun p hp=>by
  have e:p=(s.heap.objs.size,{ cls:=.type "list", data:=.seq #[] 0 }):=by simpa [yd] using hp
  subst e
  refine⟨hD,I.hok.fresh (xk7 _),xlg (xld _),fun z=>?_,fun v=>by simp⟩
  rcases xkE.mp (I.stkSub _ z) with e | e
  ·exact absurd (e▸I.lt) (xk_ _)
  ·exact I.nofs (xk7 _) e
 hok:=I.hok.kept kp
 len:=by
  show(k9 tau σ).length=N.length
  unfold k9
  rw[xkr]
  exact k.len
end
end L2
namespace L2
open PySem PySem.Spec PyProof.Rows
theorem mO (I:Nat→Shared→Prop)
  (turn:∀n s,I n s→wpAny (model prog w) A (pyNext it) (fun r s₁=>match r with
   | none=>R (.ok .next) s₁
   | some v=>wpAny (model prog w) A (letOwnedTupleGo target it v) (fun _ s₀=>wpAny (model prog w) A (assign target env v) (fun _ s₂ =>
     wpAny (model prog w) A (forIn ifs true fun c r=>if r=true then do let ok ←isTrue c env (eval c env);pure (ForInStep.yield ok) else pure (ForInStep.yield r)) (fun ok s₃ =>
      if ok=true then wpAny (model prog w) A (eval elt env) (fun x s₄ =>
       wpAny (model prog w) A (call (.builtin "list.append") [acc,x]) (fun _ s₅=>∃m,m<n∧I m s₅) (notedBy (model prog w) A env fun e s'=>R (.error e) s') s₄) (notedBy (model prog w) A env fun e s'=>R (.error e) s') s₃
      else ∃m,m<n∧I m s₃) (notedBy (model prog w) A env fun e s'=>R (.error e) s') s₂) (notedBy (model prog w) A env fun e s'=>R (.error e) s') s₀) (notedBy (model prog w) A env fun e s'=>R (.error e) s') s₁) (notedBy (model prog w) A env fun e s'=>R (.error e) s') s)
  (n:Nat) (h:I n s) :
  codeAny (model prog w) A (.compLoop (.ListComp elt [⟨target,iter,ifs,0⟩] scope pos) 0 it acc env) R s:=by
 refine codeAny_loop rfl I (fun n s hI=>?_) n h
 show wpAny _ A ((compTurn (.ListComp elt [⟨target,iter,ifs,0⟩] scope pos) 0 it acc env).onRaise (fun x=>do noteFrame x env;theTreesLotGoes x)) _ _ s
 refine wpAny_noted ?_
 rw[compTurn_list]
 refine wpAny_bind (wpAny_standAt (wpAny_bind (wpAny_mono (turn n s hI) (fun r s₁ h₁=>?_) fun _ _ h'=>h')))
 cases r with
 | none=>exact wpAny_pure h₁
 | some v =>
  refine wpAny_bind (wpAny_mono h₁ (fun _ s₀ h₀=>?_) fun _ _ h'=>h')
  refine wpAny_bind (wpAny_mono h₀ (fun _ s₂ h₂=>wpAny_bind (wpAny_mono h₂ (fun ok s₃ h₃=>?_) fun _ _ h'=>h')) fun _ _ h'=>h')
  cases ok with
  | false=>exact wpAny_pure ⟨rfl,h₃⟩
  | true =>
   exact wpAny_bind (wpAny_bind (wpAny_mono h₃ (fun x s₄ h₄=>wpAny_bind (wpAny_mono h₄ (fun _ s₅ h₅=>wpAny_pure (wpAny_pure ⟨rfl,h₅⟩)) fun _ _ h'=>h')) fun _ _ h'=>h'))
def PIf (Y:Cx)(ifs:List Expr)(t:TT):Prop :=
 ∀(pins:List (Addr×Obj)) (s:Shared) (σ:St) (H:Hp) (Q:Bool→Hp→Prop),Inv Y pins σ H s→t σ H Q →
  wpAny (model Y.prog Y.w) Y.A (forIn ifs true fun c r=>if r=true then do let ok ←isTrue c Y.env (eval c Y.env);pure (ForInStep.yield ok) else pure (ForInStep.yield r)) (TP Y pins σ Q) Y.xe s
def xfP:TT:=fun _ H Q=>Q true H
theorem wL:PIf Y [] xfP:=fun pins s σ H Q I h=>wpAny_tests_nil ⟨H,I,h⟩
theorem uM (h:PT Y c t):PIf Y [c] t:=fun pins s σ H Q I q=>wpAny_tests_one (@h pins s σ H Q I q)
def Agree (tau:List (Option Nat))(σ σ2:St):Prop:=∀i j:Nat,tau[i]? = some (some j)→σ2[i]? = σ[i]?
def GA (tau:List (Option Nat))(g:TG):Prop:=∀x σ H Q,g x σ H Q→g x σ H (fun σ2 H2=>Q σ2 H2∧Agree tau σ σ2)
def GAs (tau:List (Option Nat))(t:TGs):Prop:=∀xs σ H Q,t xs σ H Q→t xs σ H (fun σ2 H2=>Q σ2 H2∧Agree tau σ σ2)
theorem zL (h:tau[i]? = some none):GA tau (gJ i):=fun x σ H Q q=>⟨q,fun k j e=>by
 rw[xkj]
 rintro rfl
 rw[h] at e;cases e⟩
theorem qK:GAs tau xhs:=fun xs σ H Q q=>⟨q.1,q.2,fun _ _ _=>rfl⟩
theorem ui {K:PySem.W.Frag}{n:Nat}{t:TGs}{tau:List (Option Nat)}(h:GAs tau t):GA tau (xgW K n t):=fun x σ H Q q=>by
 obtain⟨a,xs,e,sq,l,r⟩:=q
 exact⟨a,xs,e,sq,l,h _ _ _ _ r⟩
theorem yK (h:tau[i]? = some none)(hu:GAs tau u):GAs tau (xcB (gJ i) u):=fun xs σ H Q q=>by
 obtain⟨v,r,e,q⟩:=q
 refine⟨v,r,e,?_⟩
 have q':u r (σ.set i (some v)) H Q:=q
 show u r (σ.set i (some v)) H _
 have:=hu _ _ _ _ q'
 have e2:(fun σ2 H2=>Q σ2 H2∧Agree tau (σ.set i (some v)) σ2)=(fun σ2 H2=>Q σ2 H2∧Agree tau σ σ2):=by
  funext σ2 H2
  have:Agree tau (σ.set i (some v)) σ2↔Agree tau σ σ2:=by
   have key:∀(k j:Nat),tau[k]? = some (some j)→(σ.set i (some v))[k]? = σ[k]?:=fun k j e=>by
    rw[xkj]
    rintro rfl
    rw[h] at e;cases e
   constructor
   ·intro z k j e;rw[z k j e,key k j e]
   ·intro z k j e;rw[z k j e,key k j e]
  exact propext (and_congr_right fun _=>this)
 rw[←e2]
 exact this
def xfs (wi:TI)(tau:List (Option Nat))(g:TG)(tc:TT)(te:TE):TE:=fun σ H Q=>wi σ H fun J H1 =>
 ∃W:Nat→Nat→List V→Hp→Prop,(∃m,W 0 m [] H1)∧∀i m ys H,W i m ys H →
  (J.stop i H∧∀p,H p=none→Q (.ref p) (upd H p (.lst ys))) ∨
  (J.go i H∧ys.length<sizeLine∧∀x H',J.yld i H x H'→g x (k9 tau σ) H' fun σ2 H2=>tc σ2 H2 fun b H3=>if b=true then te σ2 H3 fun y H4=>∃m',m' < m∧W (i+1) m' (ys++[y]) H4 else ∃m',m' < m∧W (i+1) m' ys H3)
section
variable {X:Cx} {sc:Scope} {N:List Str} {tau:List (Option Nat)} {pins:List (Addr×Obj)} {σ:St} {H:Hp} {s:Shared}
theorem tJ (k:vG X sc N tau)(I:Inv X pins σ H s)(hf:∀b∈fp,cY X pins H b)
  (J:Inv (yd X sc N (s.heap.objs.size+1) s H fp) [(s.heap.objs.size,{ cls:=.type "list", data:=.seq its.toArray n })] σ' H' s') (rv:zh ys its) (hz:ys.length≤sizeLine) :
  Inv X pins σ (upd H' s.heap.objs.size (.lst ys)) s'∧H' s.heap.objs.size=none∧(upd H' s.heap.objs.size (.lst ys)) (s.heap.objs.size+1)=none:=by
 obtain⟨pD,nD,_,_,_⟩:=J.pin (s.heap.objs.size,{ cls:=.type "list", data:=.seq its.toArray n }) (by simp[yd])
 have nC:H' (s.heap.objs.size+1)=none:=J.free
 have B:Un (frs X.stack) fp H H' s.heap s'.heap:=J.base
 have ltD:∀b o,s.heap.get? b=some o→b≠s.heap.objs.size:=fun b o e=>xlg (Heap.lt_size e)
 refine⟨I.call' (ch:=fp) J.os ⟨B.keep,B.slot,fun b o e n hx=>?_,B.there,fun b xs e=>?_,fun b o u e=>?_,fun b ps e=>?_⟩ (fun b u e=>?_) J.bare (fun b hb=>?_),nD,?_⟩
 ·rw[xX (ltD b o e)];exact B.free b o e n hx
 ·have q:=B.tups b xs e
  rw[xX (xI q nD)];exact q
 ·have q:=B.frzs b o u e
  rw[xX (xI q nD)];exact q
 ·obtain⟨more,q⟩:=B.tbls b ps e
  exact⟨more,by rw[xX (xI q nD)];exact q⟩
 ·by_cases hb:b=s.heap.objs.size
  ·subst hb
   rw[x9] at e
   cases e
   exact⟨hz,its,n,rv,pD⟩
  ·rw[xX hb] at e
   exact(J.hok b u e).stay (fun c v _ q=>q) (fun c q=>by rw[xX (xI q nD)];exact q) (fun c xs q=>by rw[xX (xI q nD)];exact q) fun c o u q=>by rw[xX (xI q nD)];exact q
 ·obtain⟨_,f1,_,f3,f4,f5⟩:=hf b hb
  exact⟨f3,f1,f4,f5⟩
 ·rw[xX (xlf (xld _))];exact nC
theorem fR (I0:Inv X pins σ H s)(I:Inv X pins σ' H' s')(hC:H' (s.heap.objs.size+1)=none)(hs:Heap.SameBut (s.heap.objs.size+1) s'.heap h') :
  Inv X pins σ' H' { s' with heap:=h' }:=by
 have lt:∀b o,s.heap.get? b=some o→b≠s.heap.objs.size+1:=fun b o e=>xlg (xlc (Heap.lt_size e))
 refine I.turned (t':=s'.toks) (it:=s.heap.objs.size+1) (fun b o hb e=>(hs.2 b hb).trans e) hC ?_ (.inr (xk9 I0.sz (xk8 _))) (fun x c e=>?_) (fun p hp=>?_)
 ·exact xlf (xlc I0.lt)
 ·obtain⟨v,o,ho,_⟩:=I0.cell x c e
  exact lt c o ho
 ·exact lt _ _ (I0.pin p hp).1
theorem ax (k:vG X sc N tau)(hc:X.calm=true)(I:Inv X pins σ H s)
  (T:Turn X.prog X.w X.K tg J fp it tn) (st0:tn 0 s.heap) (hf:∀b∈fp,cY X pins H b) (hga:GA tau g)
  (hg:∀C s H ex,PG (yd X sc N C s H ex) tg g) (ht:∀C s H ex,PIf (yd X sc N C s H ex) ifs tc) (he:∀C s H ex,PE (yd X sc N C s H ex) elt te)
  {W:Nat→Nat→List V→Hp→Prop} {Z:List V→Hp→Prop} (w0:∃m,W 0 m [] H) (turn:∀i m ys H,W i m ys H →
   (J.stop i H∧Z ys H) ∨
   (J.go i H∧ys.length<sizeLine∧∀x H',J.yld i H x H'→g x (k9 tau σ) H' fun σ2 H2=>tc σ2 H2 fun b H3=>if b=true then te σ2 H3 fun y H4=>∃m',m' < m∧W (i+1) m' (ys++[y]) H4 else ∃m',m' < m∧W (i+1) m' ys H3))
  {E:Value→Shared→Prop} {RR:Value→Addr→Result→Shared→Prop}
  (fin:∀ σ' H' s' ys its n,Inv (yd X sc N (s.heap.objs.size+1) s H fp) [(s.heap.objs.size,{ cls:=.type "list", data:=.seq its.toArray n })] σ' H' s'→zh ys its→ys.length≤sizeLine→Z ys H'→RR (.ref s.heap.objs.size) (s.heap.objs.size+1) (.ok .next) s') :
  wpAny (model X.prog X.w) X.A (newList []) (fun acc s₃=>wpAny (model X.prog X.w) X.A (newFunctionEnv sc X.env.globals (g9 X.env sc.names []) [] X.env.qual none .none (some X.env)) (fun cenv s₄ =>
   codeAny (model X.prog X.w) X.A (.compStart (.ListComp elt [⟨tg,iter,ifs,0⟩] sc pos) 0 (.ref it) acc { cenv with scope:=relabel sc X.env }) (RR acc cenv.locals) s₄) E s₃) E s:=by
 have hob:∀b∈fp,∃o,s.heap.get? b=some o:=fun b hb=>let ⟨o,e,_⟩:=T.obj _ _ st0 b hb;⟨o,e⟩
 refine wpAny_newObj_type (wpAny_newFunctionEnv k.nocell (by intro y hy;simp at hy) (fun h₁ hns₁ hsb₁=>?_) k.kind)
 dsimp only at hns₁ hsb₁ ⊢
 generalize hH2:s.heap.push { cls:=.type "list", dict:=none,data:=.seq ([]:List Value).toArray }=H2 at hns₁ hsb₁ ⊢
 have hC:H2.objs.size=s.heap.objs.size+1:=by rw[←hH2,Heap.size_push]
 have old:∀b o,s.heap.get? b=some o→h₁.get? b=some o:=fun b o e=>hsb₁.extBut b o (by rw[hC];exact xlg (xlc (Heap.lt_size e))) (Heap.get?_push_of_some _ (hH2▸Heap.get?_push_of_some _ e))
 have hacc:h₁.get? s.heap.objs.size=some { cls:=.type "list", data:=.seq #[] 0 }:=hsb₁.extBut _ _ (by rw[hC];exact xlg (xld _)) (Heap.get?_push_of_some _ (hH2▸Heap.get?_push_size _ rfl))
 rw[hC] at hns₁ ⊢
 have I1:Inv (yd X sc N (s.heap.objs.size+1) s H fp) [(s.heap.objs.size,{ cls:=.type "list", data:=.seq #[] 0 })] (k9 tau σ) H { s with heap:=h₁,toks:=s.toks+([]:List (Str×Value)).length } :=
  oW k I hf hob old hns₁ hacc
 have st1:tn 0 h₁:=T.keep _ _ _ st0 fun b _ o e=>old b o e
 have ltD:∀b∈fp,b≠s.heap.objs.size:=fun b hb=>by
  obtain⟨o,e⟩:=hob b hb
  exact xlg (Heap.lt_size e)
 have ltC:∀b∈fp,b≠s.heap.objs.size+1:=fun b hb=>by
  obtain⟨o,e⟩:=hob b hb
  exact xlg (xlc (Heap.lt_size e))
 have stat:∀ {H':Hp} {its:List Value} {n:Nat},(∀b∈fp,H' b=none)→∀b∈fp,cY (yd X sc N (s.heap.objs.size+1) s H fp) [(s.heap.objs.size,{ cls:=.type "list", data:=.seq its.toArray n })] H' b:=fun {H' its n} hn b hb=>by
  have cx:=pK (N:=N) k I hf hob
  refine⟨hn b hb,ltC b hb,cx.exfs b hb,.inl hb,(cx.exf b hb).2,fun p hp=>?_⟩
  have e:p=(s.heap.objs.size,{ cls:=.type "list", data:=.seq its.toArray n }):=by simpa [yd] using hp
  subst e
  exact Ne.symm (ltD b hb)
 obtain⟨m0,w0⟩:=w0
 have loop:codeAny (model X.prog X.w) X.A (.compLoop (.ListComp elt [⟨tg,iter,ifs,0⟩] sc pos) 0 (.ref it) (.ref s.heap.objs.size) (compEnvC sc (g9 X.env sc.names []) (s.heap.objs.size+1) X.env)) (RR (.ref s.heap.objs.size) (s.heap.objs.size+1)) { s with heap:=h₁,toks:=s.toks+([]:List (Str×Value)).length }:=by
  refine mO (fun m s'=>∃i ys H' its n,Inv (yd X sc N (s.heap.objs.size+1) s H fp) [(s.heap.objs.size,{ cls:=.type "list", data:=.seq its.toArray n })] (k9 tau σ) H' s'∧zh ys its∧ys.length≤sizeLine∧tn i s'.heap∧(∀b∈fp,H' b=none)∧W i m ys H') ?_ m0
   ⟨0,[],H,[],0,I1,.nil,xlh _,st1,fun b hb=>(hf b hb).1,w0⟩
  rintro m s3 ⟨i,ys,H3,its,n,I3,rv,hz,st3,fr3,w3⟩
  rcases turn i m ys H3 w3 with ⟨stop,z⟩ | ⟨go,hlt,step⟩
  ·refine wpAny_mono (T.done (yd X sc N (s.heap.objs.size+1) s H fp) rfl rfl rfl hc i _ s3 _ H3 (fun _ _=>False) I3 (stat fr3) st3 stop) (fun r s4 ⟨hr,I4⟩=>?_) fun _ _ f=>f.elim
   subst hr
   exact fin _ _ _ _ _ _ I4 rv hz z
  ·refine wpAny_mono (T.item (yd X sc N (s.heap.objs.size+1) s H fp) rfl rfl rfl hc i _ s3 _ H3 (fun _ _=>False) I3 (stat fr3) st3 go) (fun r s4 ⟨u,hr,h4⟩=>?_) fun _ _ f=>f.elim
   subst hr
   refine wpAny_mono h4 (fun _ s5 ⟨x,H5,I5,r5,y5,st5,fr5⟩=>?_) fun _ _ f=>f.elim
   have I5':=I5.pinned (stat fr5) (T.obj _ _ st5)
   refine wpAny_mono (hg _ _ _ _ _ s5 _ H5 x u _ I5' r5 (hga _ _ _ _ (step x H5 y5))) (fun _ s6 ⟨σ6,H6,I6,q6,ag⟩=>?_) fun _ _ f=>f.elim
   refine wpAny_mono (ht _ _ _ _ _ s6 σ6 H6 _ I6 q6) (fun b s7 ⟨H7,I7,q7⟩=>?_) fun _ _ f=>f.elim
   have back:∀ {H8:Hp} {s8:Shared},Inv (yd X sc N (s.heap.objs.size+1) s H fp) ([(s.heap.objs.size,{ cls:=.type "list", data:=.seq its.toArray n })]++qT fp s5.heap) σ6 H8 s8 →
     Inv (yd X sc N (s.heap.objs.size+1) s H fp) [(s.heap.objs.size,{ cls:=.type "list", data:=.seq its.toArray n })] (k9 tau σ) H8 s8∧tn (i+1) s8.heap∧∀b∈fp,H8 b=none:=fun {H8 s8} I8=>by
    refine⟨I8.unpinned.weak (I1.len.trans I8.len.symm) fun j v e=>?_,T.keep _ _ _ st5 fun b hb o e=>(I8.pin (b,o) (xkD _ (xkD _ (zZ hb e)))).1,fun b hb=>?_⟩
    ·obtain⟨j',t1,_⟩:=jN e
     rw[ag j j' t1];exact e
    ·obtain⟨o,e,d⟩:=T.obj _ _ st5 b hb
     exact(I8.pin (b,o) (xkD _ (xkD _ (zZ hb e)))).2.1
   cases b with
   | false =>
    obtain⟨m',hm,w7⟩:=q7
    obtain⟨I8,st8,fr8⟩:=back I7
    rw[if_neg xji]
    exact⟨m',hm,i+1,ys,H7,its,n,I8,rv,hz,st8,fr8,w7⟩
   | true =>
    rw[if_pos rfl]
    refine wpAny_mono (he _ _ _ _ s7 σ6 H7 _ I7 q7) (fun y s8 ⟨yv,H8,I8,r8,m',hm,w8⟩=>?_) fun _ _ f=>f.elim
    obtain⟨I9,st9,fr9⟩:=back I8
    obtain⟨pD,nD,dL,dF,dC⟩:=I9.pin (s.heap.objs.size,{ cls:=.type "list", data:=.seq its.toArray n }) (by simp[yd])
    refine call_meets F.slot_list_append ⟨_,pD,rfl⟩ F.entry_list_append (F.args_list_append_2 _ _) (PySem.list_append s.heap.objs.size its.toArray n y (by rw[xkX,←rv.length];exact hz)) ⟨pD,?_⟩
    have q:=PySem.IsL.update pD (fun x=>x.push y)
    obtain⟨n',q'⟩:∃n',(s8.heap.update s.heap.objs.size (Obj.mapSeq fun x=>x.push y)).get? s.heap.objs.size=some { cls:=.type "list", data:=.seq (its++[y]).toArray n' }:=⟨_,by
     rw[show(its++[y]).toArray=its.toArray.push y by simp];exact q⟩
    have kp:∀b o,b≠s.heap.objs.size→s8.heap.get? b=some o→(s8.heap.update s.heap.objs.size (Obj.mapSeq fun x=>x.push y)).get? b=some o:=fun b o hb e=>(Heap.get?_update_other s8.heap _ (Ne.symm hb)).trans e
    have I10:Inv (yd X sc N (s.heap.objs.size+1) s H fp) [] (k9 tau σ) H8 s8:=I9.pins_of fun p hp=>absurd hp (by simp)
    have I11:Inv (yd X sc N (s.heap.objs.size+1) s H fp) [] (k9 tau σ) H8 { s8 with heap:=s8.heap.update s.heap.objs.size (Obj.mapSeq fun x=>x.push y),toks:=s8.toks } :=
     I10.turned (it:=s.heap.objs.size) (t':=s8.toks) kp nD dL (.inr (xk7 _)) (fun x c e z=>by
      obtain⟨v,o,ho,hd⟩:=I10.cell x c e
      rw[z,pD] at ho
      cases ho
      cases hd) (fun p hp=>absurd hp (by simp[yd]))
    refine⟨m',hm,i+1,ys++[yv],H8,its++[y],n',I11.pins_of fun p hp=>?_,rv.append (.cons r8 .nil),?_,T.keep _ _ _ st9 fun b hb o e=>kp b o (ltD b hb) e,fr9,w8⟩
    ·have e:p=(s.heap.objs.size,{ cls:=.type "list", data:=.seq (its++[y]).toArray n' }):=by simpa using hp
     subst e
     exact⟨q',nD,dL,dF,fun v=>by simp⟩
    ·rw[xkm,xkv];exact hlt
 exact codeAny_compStart_list loop (T.self _ 0 _ _ _ st1 loop)
theorem zU (k:vG X sc N tau)(hc:X.calm=true)(hga:GA tau g)(hi:PI X tg iter wi)
  (hg:∀C s H ex,PG (yd X sc N C s H ex) tg g) (ht:∀C s H ex,PIf (yd X sc N C s H ex) ifs tc) (he:∀C s H ex,PE (yd X sc N C s H ex) elt te)
  (hs:∀x,foldedSetIterable iter X.env x=pure x:=by intro _;rfl):PE X (.ListComp elt [⟨tg,iter,ifs,0⟩] sc pos) (xfs wi tau g tc te):=by
 intro pins s σ H Q I h
 rw[eval_ListComp]
 refine wpAny_comprehension_free (use:=none) rfl hs (bK (k.cells I.ok)) k.kind k.loc ?_
 refine thn (@hi pins s σ H _ I h) fun v s1 h1=>thn h1 fun itv s2 h2=>?_
 obtain⟨it,fp,tn,J,H2,e,I2,T,st2,f2,W,w0,turn⟩:=h2
 subst e
 refine ax (RR:=fun acc C=>compPost (model X.prog X.w) X.A X.xe none (EP X pins σ Q) acc C) (W:=W) (Z:=fun ys H'=>∀p,H' p=none→Q (.ref p) (upd H' p (.lst ys))) k hc I2 T st2 f2 hga hg ht he w0 turn ?_
 intro σ' H' s' ys its n J' rv hz z
 obtain⟨I',hD,hC⟩:=tJ k I2 f2 J' rv hz
 obtain⟨m,hn,_⟩:=J'.loc
 exact⟨m,hn,fun h' hs'=>⟨.ref _,_,fR I2 I' hC hs',rfl,z _ hD⟩⟩
theorem wQ (hN:X.N.Nodup)(hi':X.N[i]? = some x)(hx:Loc X.env.scope x)(k:vG X sc N tau)(hc:X.calm=true)(hga:GA tau g)(hi:PI X tg iter wi)
  (hg:∀C s H ex,PG (yd X sc N C s H ex) tg g) (ht:∀C s H ex,PIf (yd X sc N C s H ex) ifs tc) (he:∀C s H ex,PE (yd X sc N C s H ex) elt te)
  (hsw:swapsWith (.ListComp elt [⟨tg,iter,ifs,0⟩] sc pos) (some (.Name x py)) spos.line X.env=pure true:=by rfl)
  (hs:∀x,foldedSetIterable iter X.env x=pure x:=by intro _;rfl) (hf:X.fn x=true∨X.env.scope.names.lookup x=some .local:=by first | exact .inl rfl | exact .inr rfl | assumption) :
  PS X (.Assign [.Name x py] (.ListComp elt [⟨tg,iter,ifs,0⟩] sc pos) spos) (xc2 (xfs wi tau g tc te) (gJ i)):=by
 intro pins s σ H D I h
 rw[exec_Assign_Name_used _ _ _ _ hsw]
 refine wpAny_bind (wpAny_standAt (wpAny_bind ?_))
 show wpAny _ X.A (do let _ ←comprehension (.ListComp elt [⟨tg,iter,ifs,0⟩] sc pos) sc X.env _ (newList []) false (eval iter X.env) (some (assign (.Name x py) X.env))) _ _ s
 refine wpAny_bind (wpAny_mono (wpAny_comprehension_free (use:=some (assign (.Name x py) X.env)) (Q:=fun _ s'=>SP X pins D .next s') rfl hs (bK (k.cells I.ok)) k.kind k.loc ?_) (fun _ s' q=>wpAny_pure (wpAny_pure q)) fun _ _ e=>e)
 refine thn (@hi pins s σ H _ I h) fun v s1 h1=>thn h1 fun itv s2 h2=>?_
 obtain⟨it,fp,tn,J,H2,e,I2,T,st2,f2,W,w0,turn⟩:=h2
 subst e
 refine ax (RR:=fun acc C=>compPost (model X.prog X.w) X.A X.xe (some (assign (.Name x py) X.env)) (fun _ s'=>SP X pins D .next s') acc C) (W:=W) (Z:=fun ys H'=>∀p,H' p=none→D.nx (σ.set i (some (.ref p))) (upd H' p (.lst ys))) k hc I2 T st2 f2 hga hg ht he w0 turn ?_
 intro σ' H' s' ys its n J' rv hz z
 obtain⟨I',hD,hC⟩:=tJ k I2 f2 J' rv hz
 obtain⟨m,hn,_⟩:=J'.loc
 have hn:s'.heap.Ns (s2.heap.objs.size+1) m:=hn
 refine wpAny_assign_Name (dY (v:=.ref s2.heap.objs.size) I' hN hi' hx rfl (fun s'' I'' ⟨a,sb,ha⟩=>?_) hf)
 refine⟨m,hn.sameBut sb ?_,fun h' hs'=>⟨_,_,fR I2 I'' hC hs',z _ hD⟩⟩
 rcases ha with ha | ha
 ·rw[ha];exact xlf (xlc I2.lt)
 ·obtain⟨v,o,ho,_⟩:=I2.cell x a ha
  exact xlf (xlc (Heap.lt_size ho))
end
end L2
namespace L2
open PySem PySem.Spec PyProof.Rows
structure Own (P:Program)(w:World)(K:PySem.W.Frag)(mg:Str→Option Value)(base:Heap)(k:Nat)(x:Str)(ps:List Str)(sp:Sp):Prop where
 ex:∃(f:Addr) (fd:FuncData),aD P w K mg base CX0 k f fd ps sp∧Binds K fd ps []∧PySem.W.keepIn K (.ref f)=true∧mg x=some (.ref f)
theorem Own.mono {P:Program}{w:World}{K:PySem.W.Frag}{mg:Str→Option Value}{base:Heap}{j k:Nat}{x:Str}{ps:List Str}{sp:Sp}(h:Own P w K mg base j x ps sp)(hjk:j≤k):Own P w K mg base k x ps sp:=by
 obtain⟨f,fd,F,b,kp,m⟩:=h.ex
 exact⟨f,fd,F.mono hjk,b,kp,m⟩
theorem Own.imp {P:Program}{w:World}{K:PySem.W.Frag}{mg:Str→Option Value}{base:Heap}{k:Nat}{x:Str}{ps:List Str}{sp sp':Sp}(h:Own P w K mg base k x ps sp)(q:∀vs H Q E,sp' vs H Q E→sp vs H Q E):Own P w K mg base k x ps sp':=by
 obtain⟨f,fd,F,b,kp,m⟩:=h.ex
 exact⟨f,fd,F.imp q,b,kp,m⟩
def xgi (sp:Sp)(t:TA):TE:=fun σ H Q=>t σ H fun vs H1=>sp vs H1 Q E0
theorem xo (h:Own X.prog X.w X.K X.mg X.base j x ps sp)(hr:k7 k X.A)(ha:PA X (e::es) t)(hjk:j≤k:=by decide)(hg:Gl X x:=by rfl)
  (hdb:(x == ("__debug__" : Str))=false:=by decide) (he:starEach (e::es) X.env=(false,eval e X.env)::starEach es X.env:=by rfl) (hpl:(backTo pos (starEach es X.env)).any (·.1)=false:=by rfl) :
  PE X (.Call (.Name x p) (e::es) [] pos) (xgi sp t):=by
 obtain⟨f,fd,F,b,kp,m⟩:=(h.mono hjk).ex
 intro pins s σ H Q I q
 refine xbY (E:=E0) F hr hg m kp b .nil xhu ha hdb he hpl s σ H Q I ?_
 have e:(fun(vs:List V) (H1:Hp)=>sp (vs++[]) H1 Q E0)=fun vs H1=>sp vs H1 Q E0:=by
  funext vs H1;rw[xjZ]
 show t σ H fun vs H1=>sp (vs++[]) H1 Q E0
 rw[e];exact q
theorem sJ {P:Program}{w:World}{K:PySem.W.Frag}{mg:Str→Option Value}{base:Heap}{k:Nat}{x qual:Str}{st:Stmt}{f:Addr}{fd:FuncData}{N ps:List Str}{sp:Sp}(F:Fun K x qual st f fd)(S:xw N ps (xf st))(mgx:mg x=some (.ref f))(b:Binds K fd ps [])
  (len:∀vs H Q E,sp vs H Q E→vs.length=ps.length)
  (body:∀(cdv:Value) (A:Around) (outer:List Env) (s:Shared) (H:Hp) (vs:List V) (Q:VK) (E:XK),k7 k (A.deeper (envOfC qual (xf st) s.heap.objs.size f cdv))→sp vs H Q E →
   ∃t,PSs (fN CX0 P w K mg base N qual (xf st) f cdv A outer s H E).nox (yV st) t∧t { nx:=fun _ H'=>Q .non H',rt:=Q } (start N vs) H):Own P w K mg base (k+1) x ps sp :=
 ⟨f,fd,F.ok S len body,b,F.kp,mgx⟩
section
variable {X:Cx}
def xfS (i j:Int):Prop:=0<j∧j.natAbs.log2<9000
theorem p8:OpR X (binaryOp .FloorDiv) (rI xfS fun i j=>.int (i / j)):=opI fun i j _ _ _ _ _ hc q=>by
 refine floordiv_int (by have:=hc.1;omega) ?_ (.inl (PyProof.noPylong_of_log2 hc.2))
 rw[xjq i (by have:=hc.1;omega)]
 exact q
theorem fi (h0:0<j)(h:j<2 ^ 128):xfS i j:=by
 refine⟨h0,?_⟩
 have:j.natAbs<2 ^ 128:=by omega
 have:=Nat.log2_lt (n:=j.natAbs) (k:=128) (by omega)
 have h':j.natAbs.log2<128:=this.mpr (by omega)
 omega
def xeS (n c:String):Bool:=n == c || (n == "bool" && c == "int")
def bQ:List String:=["NoneType", "bool", "int", "str", "list", "tuple", "dict"]
def jZ:List String:=["bool", "int", "str", "list", "tuple", "dict"]
theorem xaW {K:PySem.W.Frag}{n c:String}(hn:n∈bQ)(hc:c∈jZ):PySem.W.kitOne K (.type n) (.type c)=some (xeS n c):=by
 simp only[bQ,jZ,xkE,xkT,xls] at hn hc
 rcases hn with rfl | rfl | rfl | rfl | rfl | rfl | rfl<;>rcases hc with rfl | rfl | rfl | rfl | rfl | rfl<;>kernel_rfl
def tyN (H:Hp):V→Option String
 | .non=>some "NoneType"
 | .bl _=>some "bool"
 | .int _=>some "int"
 | .str _=>some "str"
 | .ref a=>match H a with
  | some (.lst _)=>some "list"
  | some (.frz _ (.lst _))=>some "list"
  | some (.tup _)=>some "tuple"
  | some (.dK _)=>some "dict"
  | _=>none
 | _=>none
theorem xg6 {K:PySem.W.Frag}{H:Hp}{x:V}{n:String}(h:tyN H x=some n):lz K H x (.type n)∧n∈bQ:=by
 cases x with
 | non=>cases h;exact⟨.non,by decide⟩
 | bl b=>cases h;exact⟨.bl b,by decide⟩
 | int i=>cases h;exact⟨.int i,by decide⟩
 | str y=>cases h;exact⟨.str y,by decide⟩
 | ref a =>
  have h:(match H a with
   | some (.lst _)=>some "list"
   | some (.frz _ (.lst _))=>some "list"
   | some (.tup _)=>some "tuple"
   | some (.dK _)=>some "dict"
   | _=>none)=some n:=h
  split at h
  ·rename_i xs e;cases h;exact⟨.lst e,by decide⟩
  ·rename_i o xs e;cases h;exact⟨.frz e,by decide⟩
  ·rename_i xs e;cases h;exact⟨.tup e,by decide⟩
  ·rename_i xs e;cases h;exact⟨.dK e,by decide⟩
  ·cases h
 | _=>cases h
def xiB (xs:List V)(H:Hp)(Q:VK):Prop:=∃x c n,xs=[x,.ty c]∧tyN H x=some n∧c∈jZ∧Q (.bl (xeS n c)) H
theorem wX:ja X (.builtin "isinstance") xiB:=by
 intro pins s σ H xs us Q I r h
 obtain⟨x,c,n,rfl,ty,hc,q⟩:=h
 obtain⟨u,w',rfl,rx,ry⟩:=vals2 r
 cases ry
 obtain⟨t1,t2⟩:=xg6 (K:=X.K) ty
 exact xbn I rx t1 (xaW t2 hc) fun tk=>⟨.bl _,H,I.tok tk,rfl,q⟩
theorem s_:∀ {bs:List Bool} {us:List Value},zh (bs.map V.bl) us→us=bs.map Value.bool
 | [],_,.nil=>rfl
 | c::cs,_,.cons r t=>by
  cases r
  rw[s_ t];rfl
def xes (K:PySem.W.Frag)(xs:List V)(H:Hp)(Q:VK):Prop:=∃(p:Addr) (bs:List Bool),xs=[.ref p]∧SqL K H p (bs.map V.bl)∧Q (.bl (bs.all id)) H
theorem tE {bs:List Bool}:(List.range bs.length).all (fun i=>(bs[i]?).getD false)=bs.all id:=by
 rw[Bool.eq_iff_iff]
 simp only[xjV,xkO,id]
 constructor
 ·intro h b hb
  obtain⟨i,hi,rfl⟩:=xkJ.mp hb
  have:=h i hi
  rw[xke hi] at this
  exact this
 ·intro h i hi
  rw[xke hi]
  exact h _ (xkl hi)
theorem xbo (hc:X.calm=true):ja X (.builtin "all") (xes X.K):=by
 intro pins s σ H xs us Q I r h
 obtain⟨p,bs,rfl,hl,q⟩:=h
 obtain⟨u,rfl,ru⟩:=vals1 r
 cases ru
 obtain⟨its,rv,pl,hz⟩:=I.list hl
 have e:=s_ rv
 subst e
 have hl':=pl.isList
 refine call_all_walk (wpAny_pyIter_list hl' ?_)
 have hlt:p<s.heap.objs.size:=by obtain⟨o,ho,_⟩:=id hl';exact Heap.lt_size ho
 have hne:p≠s.heap.objs.size:=xlg hlt
 refine⟨_,_,_,_,_,_,fun i=>(bs[i]?).getD false,rfl,Walks.list (A:=X.A.in1) (I.ok.hd hc) _ p hne (bs.map Value.bool).toArray,⟨⟨_,Heap.get?_push_size _ rfl,rfl,rfl⟩,hl'.at fun o e=>Heap.get?_push_of_some _ e⟩,?_,fun h' tk hk=>?_⟩
 ·intro i v s' Q' E' hP hq
  have hP':(bs.map Value.bool)[i]? = some v:=by simpa using hP
  rw[xkh] at hP'
  cases eb:bs[i]? with
  | none=>rw[eb] at hP';cases hP'
  | some b =>
   rw[eb] at hP'
   cases hP'
   simp only[eb,xli] at hq
   exact wpAny_truthy_bool hq
 ·have hk':=old_kept (l:=p) hk
  refine⟨.bl (bs.all id),H,I.kept hk',?_,q⟩
  show Value.bool _=Value.bool _
  have:(bs.map Value.bool).toArray.size=bs.length:=by simp
  rw[this,tE]
end
end L2
namespace L2
open PySem PySem.Spec PyProof.Rows
structure Blt (mg:Str→Option Value)(ns:List Str):Prop where
 all:∀x∈ns,mg x=none
theorem Blt.get (B:Blt mg ns)(x:Str)(h:x∈ns:=by decide +kernel):mg x=none:=B.all x h
theorem ug:bootBuiltins "len" = some (.builtin "len"):=by decide +kernel
theorem xfU:bootBuiltins "max" = some (.builtin "max"):=by decide +kernel
theorem xfW:bootBuiltins "min" = some (.builtin "min"):=by decide +kernel
theorem jF:bootBuiltins "abs" = some (.builtin "abs"):=by decide +kernel
theorem oT:bootBuiltins "all" = some (.builtin "all"):=by decide +kernel
theorem xP:bootBuiltins "isinstance" = some (.builtin "isinstance"):=by decide +kernel
theorem wC:bootBuiltins "tuple" = some (.type "tuple"):=by decide +kernel
theorem xec:bootBuiltins "int" = some (.type "int"):=by decide +kernel
theorem xbQ:bootBuiltins "bool" = some (.type "bool"):=by decide +kernel
theorem xf9:bootBuiltins "zip" = some (.type "zip"):=by decide +kernel
def xh5 (n:Int)(b:Bool):Prop:=0≤n∧(b=false→n<2147483647)
def bj (p:Addr)(H:Hp):Prop:=∃(n:Int) (b:Bool),H p=some (.lst [.int n,.bl b])∧xh5 n b
structure SB (p:Addr)(H H':Hp):Prop where
 keep:∀(b:Addr) (o:HO),b≠p→H b=some o→H' b=some o
 st:bj p H'
def xdK (K:PySem.W.Frag):Sp:=fun vs H Q _=>∃(a:Addr) (ns:List Int) (k:Int),vs=[.ref a,.int k]∧SqL K H a (ns.map V.int)∧ns.length≤63∧0≤k∧∀n:Int,Q (.int n) H
def bH (K:PySem.W.Frag):Sp:=fun vs H Q _=>∃(a:Addr) (ns:List Int) (k:Int),vs=[.ref a,.int k]∧SqL K H a (ns.map V.int)∧ns.length≤63∧0≤k ∧
 ∀(p:Addr) (n:Int) (b:Bool),H p=none→xh5 n b→Q (.ref p) (upd H p (.lst [.int n,.bl b]))
def xdH:Sp:=fun vs H Q _=>∃(p:Addr) (many:Int),vs=[.ref p,.int many]∧bj p H∧0<many∧many<2 ^ 128∧∀(r:Int) (H':Hp),0≤r→r<many→SB p H H'→Q (.int r) H'
theorem xcW {ns:List Int}{k:Int}(h0:0≤k)(h:k<(ns.length:Int)):∃v:Int,atI (ns.map V.int) k=some (.int v):=by
 have hk:k.toNat<ns.length:=by omega
 have ek:k=((k.toNat:Nat):Int):=by omega
 have q:atI (ns.map V.int) ((k.toNat:Nat):Int)=some (.int ns[k.toNat]):=xeD (by rw[xkh,xke hk]<;>rfl)
 rw[←ek] at q
 exact⟨_,q⟩
end L2
namespace L2
open PySem PySem.Spec PyProof.Rows
section
variable {X:Cx}
theorem vd (K:PySem.W.Frag)(e:X.K=K:=by rfl):IxR X (xh8 K):=e▸xaS
theorem fe (K:PySem.W.Frag)(e:X.K=K:=by rfl):SlR X (xgL K):=e▸xbE
theorem kP (K:PySem.W.Frag)(hc:X.calm=true)(e:X.K=K:=by rfl):ja X (.builtin "all") (xes K):=e▸xbo hc
def xeN (K:PySem.W.Frag)(xs:List V)(H:Hp)(Q:VK):Prop:=∃p ys,xs=[.ref p]∧(SqL K H p ys∨SqT K H p ys)∧Q (.int ys.length) H
theorem yB (K:PySem.W.Frag)(e:X.K=K:=by rfl):ja X (.builtin "len") (xeN K):=e▸m6
def xev (K:PySem.W.Frag)(xs:List V)(H:Hp)(Q:VK):Prop:=∃p ys,xs=[.ref p]∧((SqL K H p ys∧∀l,H l=none→Q (.ref l) (upd H l (.tup ys)))∨(SqT K H p ys∧Q (.ref p) H))
theorem uK (K:PySem.W.Frag)(e:X.K=K:=by rfl):ja X (.type "tuple") (xev K):=e▸tz
theorem yt (K:PySem.W.Frag)(hc:X.calm=true)(h:PGs X es t)
  (hn:(assignEach es X.env).length=n:=by rfl) (hst:(assignEach es X.env).findIdx? (·.1)=none:=by rfl) (e:X.K=K:=by rfl):PG X (.Tuple es k pos) (xgW K n t):=by
 subst e
 exact xg7 hc h hn hst
end
theorem sQ:∀ {l:List α} {k:List β} {i:Nat} {b:β},Paired F l k→k[i]? = some b→∃a,l[i]? = some a∧F a b
 | _,_,_,_,.nil,h=>by simp at h
 | _,_,0,_,.cons r _,h=>by simp at h;subst h;exact⟨_,rfl,r⟩
 | _,_,i+1,b,.cons _ t,h=>by
  obtain⟨a,e,f⟩:=sQ (i:=i) t (by simpa using h)
  exact⟨a,by simpa using e,f⟩
theorem lq (h:Paired F l k):l.length=k.length:=Paired.length h
theorem bN (h:Paired F l k)(r:F a b):Paired F (l++[a]) (k++[b]):=Paired.snoc h r
theorem aq:∀ {l l':List α} {k k':List β},Paired F l k→Paired F l' k'→Paired F (l++l') (k++k')
 | _,_,_,_,.nil,s=>s
 | _,_,_,_,.cons r t,s=>.cons r (aq t s)
theorem k6:∀(n:Nat) {l:List α} {k:List β},Paired F l k→Paired F (l.drop n) (k.drop n)
 | 0,_,_,h=>h
 | _+1,_,_,.nil=>.nil
 | n+1,_,_,.cons _ t=>k6 n t
theorem jg:∀(n:Nat) {l:List α} {k:List β},Paired F l k→Paired F (l.take n) (k.take n)
 | 0,_,_,_=>.nil
 | _+1,_,_,.nil=>.nil
 | n+1,_,_,.cons r t=>.cons r (jg n t)
theorem take_succ {α:Type}{l:List α}{i:Nat}{a:α}(h:l[i]? = some a):l.take (i+1)=l.take i++[a]:=by
 rw[xk3,h];rfl
theorem sz (h:n≤1000):n≤sizeLine:=xk6 (xbB h)
end L2
namespace L2
open PySem PySem.Spec PyProof.Rows
open Builtin.SmallTypes (nextOf)
structure Drw (it a:Addr)(vs:List Value)(tn:Nat→Heap→Prop)(src:Heap→Prop):Prop where
 mv:∀i h h',tn i h→(∀o,h.get? it=some o→h'.get? it=some o)→tn i h'
 smv:∀h h',src h→(∀o,h.get? a=some o→h'.get? a=some o)→src h'
 ob:∀i h,tn i h→∃o,h.get? it=some o∧∀v,o.data≠.cell v
 item:∀(prog:Program) (w:World) (A:Around) (E:Value→Shared→Prop) (i:Nat) (x:Value) (s:Shared) (Q:Value→Shared→Prop),tn i s.heap→src s.heap→vs[i]? = some x →
  (∀h',tn (i+1) h'→Heap.SameBut it s.heap h'→Q x { s with heap:=h' })→wpAny (model prog w) A (nextOf (.ref it)) Q E s
 fin:∀(prog:Program) (w:World) (A:Around) (E:Value→Shared→Prop) (i:Nat) (s:Shared) (Q:Value→Shared→Prop),A.handled=none→tn i s.heap→src s.heap→vs[i]? = none →
  (∀h' e,Heap.ExtBut it s.heap h'→(∃o,h'.get? e=some o∧o.cls=.type "StopIteration")→E (.ref e) { s with heap:=h' })→wpAny (model prog w) A (nextOf (.ref it)) Q E s
theorem xcm (it a:Addr)(vs:List Value):Drw it a vs (fun i h=>h.IsListIter it a i) (fun h=>h.IsList a vs.toArray) where
 mv:=fun i h h' t k=>t.at k
 smv:=fun h h' t k=>t.at k
 ob:=fun i h t=>let ⟨o,e,_,d⟩:=t;⟨o,e,fun v z=>by rw[d] at z;cases z⟩
 item:=fun prog w A E i x s Q t l e h=>wpAny_nextOf_list_item t l (by simpa using e) h
 fin:=fun prog w A E i s Q hh t l e h=>wpAny_nextOf_list_end hh t l (by simpa using e) h
section
variable {prog:Program} {w:World} {A:Around} {E:Value→Shared→Prop} {s:Shared}
theorem mF {it a:Addr}{i:Nat}{vs:List Value}{x:Value}{Q:Value→Shared→Prop}(T:s.heap.IsTupleIter it a i)(S:s.heap.IsTuple a vs.toArray)(e:vs[i]? = some x)
  (h:∀h',h'.IsTupleIter it a (i+1)→Heap.SameBut it s.heap h'→Q x { s with heap:=h' }):wpAny (model prog w) A (nextOf (.ref it)) Q E s:=by
 obtain⟨ob,hob,hcl,hdt⟩:=id T
 obtain⟨os,hos,_,nn,hsq⟩:=id S
 have e':vs.toArray[i]? = some x:=by simpa using e
 unfold nextOf
 refine wpAny_bind (wpAny_callSpecial?_slot (name:=Str.ofString "__next__") T.typeIs F.slot_tuple_iterator_next (wpAny_call_entry F.slot_tuple_iterator_next T.typeIs F.entry_tuple_iterator_next (wpAny_bind (m:=field (.ref it) 0) (wpAny_field hob hdt (x:=.ref a) rfl ?_)) (F.args_tuple_iterator_next_1 _)))
 refine wpAny_bind (m:=field (.ref it) 1) (wpAny_field hob hdt (x:=.int i 0) rfl (wpAny_bind (m:=seqItems? (.ref a)) (wpAny_seqItems hos hsq ?_)))
 simp only[xjR,e']
 refine wpAny_bind (wpAny_setField hob hdt (by simp) (wpAny_pure ⟨x,rfl,wpAny_pure (h _ ⟨_,Heap.get?_update_self _ hob (Obj.isFreed_of_fields (Obj.data_mapFields hdt _)),(Obj.cls_mapFields ..).trans hcl,?_⟩ (Heap.SameBut.update ..))⟩))
 rw[Obj.data_mapFields hdt]
 simp[rawInt]
theorem ck {it a:Addr}{i:Nat}{vs:List Value}{Q:Value→Shared→Prop}(hn:A.handled=none)(T:s.heap.IsTupleIter it a i)(S:s.heap.IsTuple a vs.toArray)(e:vs[i]? = none)
  (h:∀h' x,Heap.ExtBut it s.heap h'→(∃o,h'.get? x=some o∧o.cls=.type "StopIteration")→E (.ref x) { s with heap:=h' }):wpAny (model prog w) A (nextOf (.ref it)) Q E s:=by
 obtain⟨ob,hob,hcl,hdt⟩:=id T
 obtain⟨os,hos,_,nn,hsq⟩:=id S
 have e':vs.toArray[i]? = none:=by simpa using e
 unfold nextOf
 refine wpAny_bind (wpAny_callSpecial?_slot (name:=Str.ofString "__next__") T.typeIs F.slot_tuple_iterator_next (wpAny_call_entry F.slot_tuple_iterator_next T.typeIs F.entry_tuple_iterator_next (wpAny_bind (m:=field (.ref it) 0) (wpAny_field hob hdt (x:=.ref a) rfl ?_)) (F.args_tuple_iterator_next_1 _)))
 refine wpAny_bind (m:=field (.ref it) 1) (wpAny_field hob hdt (x:=.int i 0) rfl (wpAny_bind (m:=seqItems? (.ref a)) (wpAny_seqItems hos hsq ?_)))
 simp only[xjR,e']
 refine wpAny_bind (wpAny_rule (wpAny_bind (wpAny_setField hob hdt (by simp) (wpAny_bind ?_))))
 simp only[newExc,newTuple]
 refine wpAny_bind (wpAny_newObj_type (wpAny_bind (m:=firstArgMember _ _) (wpAny_of_eq (a:=Value.none) (by first | rfl | (simp only[firstArgMember];rfl)) (wpAny_newObj_type ?_ (by size_fits)))) (by size_fits))
 simp only[raiseNew]
 refine wpAny_bind (wpAny_handled ?_)
 first | rw[show A.in1.handled=none from hn] | rw[hn]
 exact wpAny_bind (wpAny_pure (wpAny_throw (h _ _ (((Heap.SameBut.update ..).extBut.push _).push _) ⟨_,Heap.get?_push_size _ rfl,rfl⟩)))
end
theorem xfk (it a:Addr)(vs:List Value):Drw it a vs (fun i h=>h.IsTupleIter it a i) (fun h=>h.IsTuple a vs.toArray) where
 mv:=fun i h h' t k=>t.at k
 smv:=fun h h' t k=>let ⟨o,e,r⟩:=t;⟨o,k o e,r⟩
 ob:=fun i h t=>let ⟨o,e,_,d⟩:=t;⟨o,e,fun v z=>by rw[d] at z;cases z⟩
 item:=fun prog w A E i x s Q t l e h=>mF t l e h
 fin:=fun prog w A E i s Q hh t l e h=>ck hh t l e h
structure ZA (z ti to i1 i2 a1 a2:Addr):Prop where
 a:ti≠z∧to≠z∧i1≠z∧i2≠z∧ti≠to∧ti≠i1∧ti≠i2∧to≠i1∧to≠i2∧i1≠i2
 b:a1≠z∧a1≠to∧a1≠i1∧a1≠i2∧a2≠z∧a2≠to∧a2≠i1∧a2≠i2
section
variable {prog:Program} {w:World} {A:Around} {E:Value→Shared→Prop} {s:Shared} {z ti to i1 i2 a1 a2:Addr} {vs us:List Value} {t1 t2:Nat→Heap→Prop} {s1 s2:Heap→Prop}
theorem xbP {k:Nat}{x y p q:Value}{Q:Value→Shared→Prop}(D:ZA z ti to i1 i2 a1 a2)(W1:Drw i1 a1 vs t1 s1)(W2:Drw i2 a2 us t2 s2)(Z:IsZip s.heap z ti to .none)(TI:IsPair s.heap ti (.ref i1) (.ref i2))(TO:IsPair s.heap to p q)
  (b1:t1 k s.heap) (b2:t2 k s.heap) (c1:s1 s.heap) (c2:s2 s.heap) (ex:vs[k]? = some x) (ey:us[k]? = some y)
  (h:∀h',IsZip h' z ti to (rawInt s.heap.objs.size)→IsPair h' to x y→t1 (k+1) h'→t2 (k+1) h'→IsPair h' s.heap.objs.size x y →
   (∀c o,c≠z→c≠to→c≠i1→c≠i2→s.heap.get? c=some o→h'.get? c=some o)→Q (.ref s.heap.objs.size) { s with heap:=h' }) :
  wpAny (model prog w) A (Builtin.«zip.__next__» ⟨[.ref z],[]⟩) (fun fin s'=>∃v,fin=.done (.ret v)∧Q v s') E s:=by
 obtain⟨⟨d1,d2,d3,d4,d5,d6,d7,d8,d9,d10⟩,e1,e2,e3,e4,e5,e6,e7,e8⟩:=D
 refine wpAny_bind (m:=field (.ref z) 2) (wpAny_field Z rfl (x:=.bool false) rfl (wpAny_bind (m:=field (.ref z) 3) (wpAny_field Z rfl (x:=.ref ti) rfl (wpAny_bind (wpAny_seqItems TI rfl ?_)))))
 refine wpAny_bind (m:=Builtin.SmallTypes.ownedTupleIsFree (.ref z)) ?_
 unfold Builtin.SmallTypes.ownedTupleIsFree
 refine wpAny_bind (wpAny_field Z rfl (x:=.none) rfl (wpAny_pure ?_))
 simp only[if_true]
 refine wpAny_bind (wpAny_rule (wpAny_bind (wpAny_field Z rfl (x:=.ref to) rfl (wpAny_bind (wpAny_setField_rec Z (by simp) fun g1 Z1 S1=>wpAny_bind ?_)))))
 replace Z1:IsZip g1 z ti to .ellipsis:=Z1
 simp only[List.zipIdx_cons,List.zipIdx_nil,List.forIn_cons,List.forIn_nil]
 refine wpAny_bind (wpAny_bind (wpAny_onRaise (wpAny_bind (m:=nextOf (.ref i1)) ?_)))
 refine W1.item _ _ _ _ k x _ _ (W1.mv _ _ _ b1 fun o=>S1.extBut _ o d3) (W1.smv _ _ c1 fun o=>S1.extBut _ o e1) ex fun g2 b12 S2=>wpAny_pure ?_
 have TO2:IsPair g2 to p q:=S2.extBut _ _ d8 (S1.extBut _ _ d2 TO)
 refine wpAny_bind (wpAny_seqItems TO2 rfl (wpAny_bind (wpAny_updateSeq_pair TO2 fun g3 TO3 S3=>wpAny_bind (wpAny_letGo (wpAny_pure ?_)))))
 replace TO3:IsPair g3 to x q:=TO3
 refine wpAny_bind (wpAny_bind (wpAny_onRaise (wpAny_bind (m:=nextOf (.ref i2)) ?_)))
 have k3:∀c o,c≠z→c≠to→c≠i1→s.heap.get? c=some o→g3.get? c=some o:=fun c o n1 n2 n3 g=>S3.extBut _ _ n2 (S2.extBut _ _ n3 (S1.extBut _ _ n1 g))
 refine W2.item _ _ _ _ k y _ _ (W2.mv _ _ _ b2 fun o=>k3 _ o d4 (Ne.symm d9) (Ne.symm d10)) (W2.smv _ _ c2 fun o=>k3 _ o e5 e6 e7) ey fun g4 b24 S4=>wpAny_pure ?_
 have TO4:IsPair g4 to x q:=S4.extBut _ _ d9 TO3
 refine wpAny_bind (wpAny_seqItems TO4 rfl (wpAny_bind (wpAny_updateSeq_pair TO4 fun g5 TO5 S5=>wpAny_bind (wpAny_letGo (wpAny_pure (wpAny_pure ?_))))))
 replace TO5:IsPair g5 to x y:=TO5
 refine wpAny_bind (wpAny_seqItems TO5 rfl (wpAny_bind (wpAny_newTuple (wpAny_bind (m:=Builtin.SmallTypes.ownedTupleHandOut (.ref z) (.ref g5.objs.size)) ?_))))
 have sz5:g5.objs.size=s.heap.objs.size:=by rw[S5.1,S4.1,S3.1,S2.1,S1.1]
 have k5:∀c o,c≠to→c≠i2→g3.get? c=some o→g5.get? c=some o:=fun c o n1 n2 g=>S5.extBut _ _ n1 (S4.extBut _ _ n2 g)
 have Z5:IsZip g5 z ti to .ellipsis:=k5 _ _ (Ne.symm d2) (Ne.symm d4) (S3.extBut _ _ (Ne.symm d2) (S2.extBut _ _ (Ne.symm d3) Z1))
 have b15:t1 (k+1) g5:=W1.mv _ _ _ b12 fun o g=>k5 _ o (Ne.symm d8) d10 (S3.extBut _ o (Ne.symm d8) g)
 have b25:t2 (k+1) g5:=W2.mv _ _ _ b24 fun o g=>S5.extBut _ o (Ne.symm d9) g
 have zlt:z<g5.objs.size:=Heap.lt_size Z5
 unfold Builtin.SmallTypes.ownedTupleHandOut
 refine wpAny_bind (wpAny_setField_rec (show IsZip (g5.push { cls:=.type "tuple", data:=.seq #[x,y] }) z ti to .ellipsis from Heap.get?_push_of_some _ Z5) (by simp) fun g7 Z7 S7=>wpAny_setField_rec (show IsZip g7 z ti to (rawInt g5.objs.size) from Z7) (by simp) fun g8 Z8 S8=>?_)
 replace Z8:IsZip g8 z ti to (rawInt g5.objs.size):=Z8
 have up8:∀c o,c≠z→g5.get? c=some o→g8.get? c=some o:=fun c o n g=>S8.extBut _ _ n (S7.extBut _ _ n (Heap.get?_push_of_some _ g))
 have T8:IsPair g8 g5.objs.size x y:=S8.extBut _ _ (xlf zlt) (S7.extBut _ _ (xlf zlt) (Heap.get?_push_size _ rfl))
 refine wpAny_pure ⟨_,rfl,?_⟩
 show Q (.ref g5.objs.size) _
 rw[sz5] at Z8 T8 ⊢
 exact h g8 Z8 (up8 _ _ d2 TO5) (W1.mv _ _ _ b15 fun o g=>up8 _ o d3 g) (W2.mv _ _ _ b25 fun o g=>up8 _ o d4 g) T8 fun c o n1 n2 n3 n4 g=>up8 c o n1 (k5 c o n2 n4 (k3 c o n1 n2 n3 g))
theorem xcU (hn:A.handled=none)(D:ZA z ti to i1 i2 a1 a2)(W1:Drw i1 a1 vs t1 s1)(W2:Drw i2 a2 us t2 s2)(Z:IsZip s.heap z ti to .none)(TI:IsPair s.heap ti (.ref i1) (.ref i2))(TO:IsPair s.heap to p q)
  (b1:t1 k s.heap) (b2:t2 k s.heap) (c1:s1 s.heap) (c2:s2 s.heap) (end':vs[k]? = none∨us[k]? = none)
  (h:∀h' e,(∀c o,c≠z→c≠to→c≠i1→c≠i2→s.heap.get? c=some o→h'.get? c=some o)→(∃o,h'.get? e=some o∧o.cls=.type "StopIteration")→E (.ref e) { s with heap:=h' }) :
  wpAny (model prog w) A (Builtin.«zip.__next__» ⟨[.ref z],[]⟩) Q E s:=by
 obtain⟨⟨d1,d2,d3,d4,d5,d6,d7,d8,d9,d10⟩,e1,e2,e3,e4,e5,e6,e7,e8⟩:=D
 refine wpAny_bind (m:=field (.ref z) 2) (wpAny_field Z rfl (x:=.bool false) rfl (wpAny_bind (m:=field (.ref z) 3) (wpAny_field Z rfl (x:=.ref ti) rfl (wpAny_bind (wpAny_seqItems TI rfl ?_)))))
 refine wpAny_bind (m:=Builtin.SmallTypes.ownedTupleIsFree (.ref z)) ?_
 unfold Builtin.SmallTypes.ownedTupleIsFree
 refine wpAny_bind (wpAny_field Z rfl (x:=.none) rfl (wpAny_pure ?_))
 simp only[if_true]
 refine wpAny_bind (wpAny_rule (wpAny_bind (wpAny_field Z rfl (x:=.ref to) rfl (wpAny_bind (wpAny_setField_rec Z (by simp) fun g1 Z1 S1=>wpAny_bind ?_)))))
 replace Z1:IsZip g1 z ti to .ellipsis:=Z1
 simp only[List.zipIdx_cons,List.zipIdx_nil,List.forIn_cons,List.forIn_nil]
 refine wpAny_bind (wpAny_bind (wpAny_onRaise (wpAny_bind (m:=nextOf (.ref i1)) ?_)))
 have b1':=W1.mv _ _ _ b1 fun o=>S1.extBut _ o d3
 have c1':=W1.smv _ _ c1 fun o=>S1.extBut _ o e1
 cases ex:vs[k]? with
 | none =>
  refine W1.fin _ _ _ _ k _ _ hn b1' c1' ex fun g2 e S2 he=>?_
  obtain⟨oe,hoe,hce⟩:=he
  have Z2:IsZip g2 z ti to .ellipsis:=S2 _ _ (Ne.symm d3) Z1
  have ne:e≠z:=fun y=>by subst y;rw[Z2] at hoe;cases hoe;simp at hce
  exact wpAny_setField_rec Z2 (by simp) fun g3 _ S3=>h g3 e (fun c o n1 _ n3 _ g=>S3.extBut _ _ n1 (S2 _ _ n3 (S1.extBut _ _ n1 g))) ⟨oe,S3.extBut _ _ ne hoe,hce⟩
 | some x =>
  have ey:us[k]? = none:=end'.resolve_left (by rw[ex];exact fun z=>nomatch z)
  refine W1.item _ _ _ _ k x _ _ b1' c1' ex fun g2 b12 S2=>wpAny_pure ?_
  have TO2:IsPair g2 to p q:=S2.extBut _ _ d8 (S1.extBut _ _ d2 TO)
  refine wpAny_bind (wpAny_seqItems TO2 rfl (wpAny_bind (wpAny_updateSeq_pair TO2 fun g3 TO3 S3=>wpAny_bind (wpAny_letGo (wpAny_pure ?_)))))
  refine wpAny_bind (wpAny_bind (wpAny_onRaise (wpAny_bind (m:=nextOf (.ref i2)) ?_)))
  have k3:∀c o,c≠z→c≠to→c≠i1→s.heap.get? c=some o→g3.get? c=some o:=fun c o n1 n2 n3 g=>S3.extBut _ _ n2 (S2.extBut _ _ n3 (S1.extBut _ _ n1 g))
  refine W2.fin _ _ _ _ k _ _ hn (W2.mv _ _ _ b2 fun o=>k3 _ o d4 (Ne.symm d9) (Ne.symm d10)) (W2.smv _ _ c2 fun o=>k3 _ o e5 e6 e7) ey fun g4 e S4 he=>?_
  obtain⟨oe,hoe,hce⟩:=he
  have Z4:IsZip g4 z ti to .ellipsis:=S4 _ _ (Ne.symm d4) (S3.extBut _ _ (Ne.symm d2) (S2.extBut _ _ (Ne.symm d3) Z1))
  have ne:e≠z:=fun y=>by subst y;rw[Z4] at hoe;cases hoe;simp at hce
  exact wpAny_setField_rec Z4 (by simp) fun g5 _ S5=>h g5 e (fun c o n1 n2 n3 n4 g=>S5.extBut _ _ n1 (S4 _ _ n4 (k3 c o n1 n2 n3 g))) ⟨oe,S5.extBut _ _ ne hoe,hce⟩
end
end L2
namespace L2
open PySem PySem.Spec PyProof.Rows
section
variable {prog:Program} {w:World} {A:Around} {E:Value→Shared→Prop} {s:Shared}
end
theorem xf4 (h1:a1<n)(h2:a2<n):ZA (n+4) (n+2) (n+3) n (n+1) a1 a2:=by
 have up:∀(x k:Nat),x<n→x≠n+k:=fun x k h=>xlg (xlb h (xk5 n k))
 have ad:∀j k:Nat,j≠k→n+j≠n+k:=fun j k h e=>h (Nat.add_left_cancel e)
 have a0:∀k:Nat,0≠k→n≠n+k:=fun k h e=>h (Nat.add_left_cancel (n:=n) (by simpa using e))
 exact⟨⟨ad _ _ (by decide),ad _ _ (by decide),a0 _ (by decide),ad _ _ (by decide),ad _ _ (by decide),fun e=>a0 2 (by decide) e.symm,ad _ _ (by decide),fun e=>a0 3 (by decide) e.symm,ad _ _ (by decide),a0 _ (by decide)⟩,
  up _ _ h1,up _ _ h1,xlg h1,up _ _ h1,up _ _ h2,up _ _ h2,xlg h2,up _ _ h2⟩
def Sq2 (K:PySem.W.Frag)(b:Bool)(H:Hp)(a:Addr)(xs:List V):Prop:=if b=true then SqT K H a xs else SqL K H a xs
def xae (b:Bool)(a:Addr)(vs:List Value)(h:Heap):Prop:=if b=true then h.IsTuple a vs.toArray else h.IsList a vs.toArray
def Tn2 (b:Bool)(it a:Addr)(i:Nat)(h:Heap):Prop:=if b=true then h.IsTupleIter it a i else h.IsListIter it a i
theorem rQ (b:Bool)(it a:Addr)(vs:List Value):Drw it a vs (Tn2 b it a) (xae b a vs):=by
 cases b with
 | true=>exact xfk it a vs
 | false=>exact xcm it a vs
theorem Inv.sq2 (I:Inv X pins σ H s)(h:Sq2 X.K b H a xs):∃vs:List Value,zh xs vs∧xae b a vs s.heap:=by
 cases b with
 | true=>obtain⟨vs,r,p,_⟩:=I.tuple (show SqT X.K H a xs from h);exact⟨vs,r,p⟩
 | false=>obtain⟨vs,r,p,_⟩:=I.list (show SqL X.K H a xs from h);exact⟨vs,r,p.isList⟩
section
variable {P:Program} {w:World} {K:PySem.W.Frag} {z ti to i1 i2 a1 a2:Addr} {b:Bool} {xs ys:List V}
end
section
variable {X:Cx}
end
end L2
namespace L2
open PySem PySem.Spec PyProof.Rows
end L2
namespace L2
open PySem PySem.Spec PyProof.Rows
inductive Tr where
 | non | bl (b:Bool) | int (i:Int) | str (x:Str) | emp | tup (xs:List Tr) | lst (xs:List Tr)
mutual
def Rep (F:Addr→Prop)(H:Hp):Tr→V→Prop
 | .non,v=>v=.non
 | .bl b,v=>v=.bl b
 | .int i,v=>v=.int i
 | .str x,v=>v=.str x
 | .emp,v=>∃a,v=.ref a∧¬F a∧H a=some (.dK [])
 | .tup ts,v=>∃a ws,v=.ref a∧¬F a∧H a=some (.tup ws)∧zi F H ts ws
 | .lst ts,v=>∃a ws,v=.ref a∧¬F a∧H a=some (.lst ws)∧zi F H ts ws
def zi (F:Addr→Prop)(H:Hp):List Tr→List V→Prop
 | [],ws=>ws=[]
 | t::ts,ws=>∃w r,ws=w::r∧Rep F H t w∧zi F H ts r
end
theorem zB:∀ {ts:List Tr} {ws:List V},zi F H ts ws↔Paired (Rep F H) ts ws
 | [],ws=>by
  constructor
  ·intro h;cases (show ws=[] from h);exact .nil
  ·intro h;cases h;rfl
 | t::ts,ws=>by
  constructor
  ·rintro⟨w,r,rfl,h1,h2⟩;exact .cons h1 (zB.mp h2)
  ·intro h
   cases h with
   | cons h1 h2=>exact⟨_,_,rfl,h1,zB.mpr h2⟩
theorem zi.len (h:zi F H ts ws):ts.length=ws.length:=lq (zB.mp h)
theorem zi.app (h:zi F H ts ws)(h':zi F H ts' ws'):zi F H (ts++ts') (ws++ws'):=zB.mpr (aq (zB.mp h) (zB.mp h'))
theorem zi.get {F:Addr→Prop}{H:Hp}{ts:List Tr}{ws:List V}{i:Nat}{w:V}(h:zi F H ts ws)(e:ws[i]? = some w):∃t,ts[i]? = some t∧Rep F H t w:=sQ (zB.mp h) e
theorem zi.getT {F:Addr→Prop}{H:Hp}:∀ {ts:List Tr} {ws:List V} {i:Nat} {t:Tr},zi F H ts ws→ts[i]? = some t→∃w,ws[i]? = some w∧Rep F H t w:=fun {ts ws i t} h e=>by
 have hl:=h.len
 have hi:i<ws.length:=by have:=(xkg.mp e).1;omega
 obtain⟨t',e',r⟩:=h.get (xke hi)
 rw[e] at e';cases e'
 exact⟨_,xke hi,r⟩
mutual
theorem yz (m:∀a o,H a=some o→¬F a→H' a=some o∧¬F' a):∀(t:Tr) (v:V),Rep F H t v→Rep F' H' t v
 | .non,v,h=>h
 | .bl b,v,h=>h
 | .int i,v,h=>h
 | .str x,v,h=>h
 | .emp,v,h=>by
  obtain⟨a,e,n,k⟩:=h
  exact⟨a,e,(m a _ k n).2,(m a _ k n).1⟩
 | .tup ts,v,h=>by
  obtain⟨a,ws,e,n,k,r⟩:=h
  exact⟨a,ws,e,(m a _ k n).2,(m a _ k n).1,yl m ts ws r⟩
 | .lst ts,v,h=>by
  obtain⟨a,ws,e,n,k,r⟩:=h
  exact⟨a,ws,e,(m a _ k n).2,(m a _ k n).1,yl m ts ws r⟩
theorem yl (m:∀a o,H a=some o→¬F a→H' a=some o∧¬F' a):∀(ts:List Tr) (ws:List V),zi F H ts ws→zi F' H' ts ws
 | [],ws,h=>h
 | t::ts,ws,h=>by
  obtain⟨w,r,e,h1,h2⟩:=h
  exact⟨w,r,e,yz m t w h1,yl m ts r h2⟩
end
def o_:Tr→Option V
 | .non=>some .non | .bl b=>some (.bl b) | .int i=>some (.int i) | .str x=>some (.str x) | _=>none
theorem vU (h:o_ t=some v):Rep F H t v:=by
 cases t with
 | non=>cases h;rfl
 | bl b=>cases h;rfl
 | int i=>cases h;rfl
 | str x=>cases h;rfl
 | _=>cases h
inductive TV where
 | un | fz (t:Tr) | ow (ts:List Tr) | st | sc (ns:List Int) | ob (a:Addr)
abbrev TSt:=List TV
def nth:TSt→Nat→TV
 | [],_=>.un
 | x::_,0=>x
 | _::r,n+1=>nth r n
theorem jU:∀ {τ:TSt} {i:Nat} (h:i<τ.length),nth τ i=τ[i]
 | [],_,h=>absurd h (by simp)
 | _::_,0,_=>rfl
 | _::r,i+1,h=>jU (τ:=r) (by simpa using h)
theorem ub:∀ {τ:TSt} {i:Nat} (h:τ.length≤i),nth τ i=.un
 | [],_,_=>rfl
 | _::_,0,h=>absurd h (by simp)
 | _::r,i+1,h=>ub (τ:=r) (by simpa using h)
theorem zw:∀ {τ:TSt} {i:Nat} {x:TV} (h:i<τ.length),nth (τ.set i x) i=x
 | [],_,_,h=>absurd h (by simp)
 | _::_,0,_,_=>rfl
 | _::r,i+1,x,h=>zw (τ:=r) (by simpa using h)
theorem yI:∀ {τ:TSt} {i j:Nat} {x:TV} (h:j≠i),nth (τ.set i x) j=nth τ j
 | [],_,_,_,_=>rfl
 | _::_,0,0,_,h=>absurd rfl h
 | _::_,0,_+1,_,_=>rfl
 | _::_,_+1,0,_,_=>rfl
 | _::r,i+1,j+1,x,h=>yI (τ:=r) (fun e=>h (by rw[e]))
structure FB where
 F0:Addr→Prop
 S0:Addr→Prop
 H0:Hp
 G0:List (Tr×V)
abbrev Phi:=Nat→Option Addr
def Av (B:FB)(φ:Phi)(a:Addr):Prop:=B.F0 a∨∃i,φ i=some a
def SA (B:FB)(φ:Phi)(τ:TSt)(a:Addr):Prop:=B.S0 a∨∃i,φ i=some a∧nth τ i=.st
def Wk (B:FB)(φ:Phi)(τ:TSt)(a:Addr):Prop:=B.F0 a∨SA B φ τ a
def AvB:Bool→FB→Phi→TSt→Addr→Prop
 | true,B,φ,_=>Av B φ
 | false,B,φ,τ=>Wk B φ τ
def xfL (K:PySem.W.Frag):Option (Addr×Str):=match K.lookup 4 with
 | none=>none
 | some _=>match PySem.W.nsIn K mainGlobals "law" with
  | some (some (.ref f))=>(match K.lookup f with
   | some ⟨_,_,.func fd,_⟩=>(match fd.code with
    | .ref c=>(match K.lookup c with
     | some ⟨_,_,.fields vs,_⟩=>(match vs.toList.getD 11 Value.none with
      | Value.ref P=>some (P, "law.<locals>.<lambda>")
      | _=>none)
     | _=>none)
    | _=>none)
   | _=>none)
  | _=>none
def xfM (K:PySem.W.Frag)(H:Hp):Prop:=∀P q,xfL K=some (P,q)→H P=some (.tb q)
def xdd (K:PySem.W.Frag)(H:Hp)(a:Addr)(ns:List Int):Prop:=((∃o,H a=some (.frz o (.lst (ns.map V.int))))∨∀H',SqL K H' a (ns.map V.int))∧xfM K H
def Ent (K:PySem.W.Frag)(B:FB)(φ:Phi)(H:Hp)(i:Nat)(o:Option (Option V)):TV→Prop
 | .un=>True
 | .fz t=>∃v,o=some (some v)∧Rep (Av B φ) H t v
 | .ow ts=>∃a ws,o=some (some (.ref a))∧φ i=some a∧B.H0 a=none∧H a=some (.lst ws)∧zi (Av B φ) H ts ws
 | .st=>∃p,o=some (some (.ref p))∧φ i=some p∧(B.S0 p∨B.H0 p=none)
 | .sc ns=>∃a,o=some (some (.ref a))∧ns.length≤63∧xdd K H a ns
 | .ob a=>o=some (some (.ref a))
structure RS (K:PySem.W.Frag)(B:FB)(φ:Phi)(σ:St)(τ:TSt)(H:Hp):Prop where
 f0:∀a,B.F0 a→B.H0 a≠none
 s0:∀a,B.S0 a→B.F0 a
 ext:∀a o,B.H0 a=some o→¬B.S0 a→H a=some o
 sst:∀a,SA B φ τ a→bj a H
 inj:∀i j a ts,nth τ i=.ow ts→φ i=some a→φ j=some a→i=j
 ow:∀i a,φ i=some a→H a≠none
 len:σ.length=τ.length
 ent:∀i,Ent K B φ H i (σ[i]?) (nth τ i)
 gh:∀p∈B.G0,Rep (Av B φ) H p.1 p.2
structure HX (B:FB)(φ:Phi)(τ:TSt)(H H':Hp):Prop where
 keep:∀a o,H a=some o→¬SA B φ τ a→H' a=some o
 st:∀a,SA B φ τ a→bj a H'
section
variable {K:PySem.W.Frag} {B:FB} {φ:Phi} {σ:St} {τ:TSt} {H H' H'':Hp}
theorem bj.ne_none (h:bj p H):H p≠none:=by
 obtain⟨n,b,e,_⟩:=h
 rw[e];exact fun z=>nomatch z
theorem RS.sAv (R:RS K B φ σ τ H)(h:SA B φ τ a):Av B φ a:=by
 rcases h with h | ⟨i,h,_⟩
 ·exact .inl (R.s0 a h)
 ·exact .inr ⟨i,h⟩
theorem RS.wAv (R:RS K B φ σ τ H)(h:Wk B φ τ a):Av B φ a:=by
 rcases h with h | h
 ·exact .inl h
 ·exact R.sAv h
theorem RS.sB (R:RS K B φ σ τ H)(h:SA B φ τ a):AvB b B φ τ a:=by
 cases b with
 | true=>exact R.sAv h
 | false=>exact .inr h
theorem RS.dom (R:RS K B φ σ τ H)(h:Av B φ a):H a≠none:=by
 rcases h with h | ⟨i,h⟩
 ·by_cases s:B.S0 a
  ·exact(R.sst a (.inl s)).ne_none
  ·cases e:B.H0 a with
   | none=>exact absurd e (R.f0 a h)
   | some o=>rw[R.ext a o e s];exact fun z=>nomatch z
 ·exact R.ow i a h
theorem RS.domB (R:RS K B φ σ τ H)(h:AvB b B φ τ a):H a≠none:=by
 cases b with
 | true=>exact R.dom h
 | false=>exact R.dom (R.wAv h)
theorem HX.refl (R:RS K B φ σ τ H):HX B φ τ H H:=⟨fun _ _ h _=>h,R.sst⟩
theorem HX.trans (h:HX B φ τ H H')(h':HX B φ τ H' H''):HX B φ τ H H'':=⟨fun a o e n=>h'.keep a o (h.keep a o e n) n,h'.st⟩
theorem HX.none (h:HX B φ τ H H')(e:H' a=none):H a=none:=by
 cases q:H a with
 | none=>rfl
 | some o =>
  by_cases s:SA B φ τ a
  ·exact absurd e (h.st a s).ne_none
  ·rw[h.keep a o q s] at e;cases e
theorem HX.new (R:RS K B φ σ τ H)(hp:H p=Option.none)(o:HO):HX B φ τ H (upd H p o) :=
 ⟨fun a u e _=>by rw[xX (xI e hp)];exact e,fun a s=>by
  obtain⟨n,b,e,z⟩:=R.sst a s
  exact⟨n,b,by rw[xX (xI e hp)];exact e,z⟩⟩
theorem HX.rep (h:HX B φ τ H H')(hF:∀a,SA B φ τ a→F a)(r:Rep F H t v):Rep F H' t v:=yz (fun a o e n=>⟨h.keep a o e (fun s=>n (hF a s)),n⟩) t v r
theorem HX.repL (h:HX B φ τ H H')(hF:∀a,SA B φ τ a→F a)(r:zi F H t v):zi F H' t v:=yl (fun a o e n=>⟨h.keep a o e (fun s=>n (hF a s)),n⟩) t v r
theorem tj (R:RS K B φ σ τ H)(e:H a=some (.frz o u)):¬SA B φ τ a:=fun s=>by
 obtain⟨n,b,q,_⟩:=R.sst a s
 rw[e] at q;cases q
theorem xet (R:RS K B φ σ τ H)(e:H a=some (.tb q)):¬SA B φ τ a:=fun s=>by
 obtain⟨n,b,y,_⟩:=R.sst a s
 rw[e] at y;cases y
theorem xfM.hx (t:xfM K H)(R:RS K B φ σ τ H)(h:HX B φ τ H H'):xfM K H':=fun P q e=>h.keep P _ (t P q e) (xet R (t P q e))
theorem RS.hx (R:RS K B φ σ τ H)(h:HX B φ τ H H'):RS K B φ σ τ H' where
 f0:=R.f0
 s0:=R.s0
 ext:=fun a o e n=>by
  by_cases s:SA B φ τ a
  ·have q:=R.ext a o e n
   rcases s with s | ⟨i,s,hi⟩
   ·exact absurd s n
   ·have en:=R.ent i
    rw[hi] at en
    obtain⟨p,_,e2,e3⟩:=en
    rw[s] at e2;cases e2
    rcases e3 with z | z
    ·exact absurd z n
    ·rw[z] at e;cases e
  ·exact h.keep a o (R.ext a o e n) s
 sst:=h.st
 inj:=R.inj
 ow:=fun i a e z=>R.ow i a e (h.none z)
 len:=R.len
 ent:=fun i=>by
  have en:=R.ent i
  revert en
  cases hi:nth τ i with
  | un=>exact fun _=>trivial
  | fz t=>exact fun⟨v,e,r⟩=>⟨v,e,h.rep (fun a s=>R.sAv s) r⟩
  | ow ts =>
   intro ⟨a,ws,e1,e2,e3,e4,r⟩
   refine⟨a,ws,e1,e2,e3,?_,h.repL (fun a s=>R.sAv s) r⟩
   by_cases s:SA B φ τ a
   ·rcases s with s | ⟨j,s,hj⟩
    ·exact absurd e3 (R.f0 a (R.s0 a s))
    ·have:=R.inj i j a ts hi e2 s
     subst this
     rw[hi] at hj;cases hj
   ·exact h.keep a _ e4 s
  | st=>exact fun z=>z
  | ob a=>exact fun z=>z
  | sc ns =>
   intro ⟨a,e,l,q,tb⟩
   refine⟨a,e,l,?_,tb.hx R h⟩
   rcases q with ⟨o,q⟩ | q
   ·exact .inl ⟨o,h.keep a _ q (tj R q)⟩
   ·exact .inr q
 gh:=fun p hp=>h.rep (fun a s=>R.sAv s) (R.gh p hp)
end
end L2
namespace L2
open PySem PySem.Spec PyProof.Rows
abbrev DE:=TSt→(Tr→Prop)→Prop
abbrev DT:=TSt→(Bool→Prop)→Prop
abbrev DA:=TSt→(List Tr→Prop)→Prop
structure xbD where
 nx:TSt→Prop
 rt:Tr→Prop
 bk:TSt→Prop:=fun _=>False
 ct:TSt→Prop:=fun _=>False
abbrev DS:=xbD→TSt→Prop
abbrev DG:=Tr→TSt→(TSt→Prop)→Prop
abbrev DGs:=List Tr→TSt→(TSt→Prop)→Prop
def OkE (K:PySem.W.Frag)(b:Bool)(te:TE)(d:DE):Prop:=∀(B:FB) (φ:Phi) (σ:St) (τ:TSt) (H:Hp) (Q:VK) (KK:Tr→Prop),RS K B φ σ τ H→d τ KK →
 (∀t v H',HX B φ τ H H'→KK t→Rep (AvB b B φ τ) H' t v→Q v H')→te σ H Q
def OkF (K:PySem.W.Frag)(te:TE)(d:DE):Prop:=∀(B:FB) (φ:Phi) (σ:St) (τ:TSt) (H:Hp) (Q:VK) (KK:Tr→Prop),RS K B φ σ τ H→d τ KK →
 (∀ts a ws H',HX B φ τ H H'→KK (.lst ts)→H a=none→H' a=some (.lst ws)→zi (fun c=>Av B φ c∨c=a) H' ts ws→Q (.ref a) H')→te σ H Q
def OkT (K:PySem.W.Frag)(t:TT)(d:DT):Prop:=∀(B:FB) (φ:Phi) (σ:St) (τ:TSt) (H:Hp) (Q:Bool→Hp→Prop) (KK:Bool→Prop),RS K B φ σ τ H→d τ KK →
 (∀b H',HX B φ τ H H'→KK b→Q b H')→t σ H Q
def OkA (K:PySem.W.Frag)(b:Bool)(n:Nat)(ta:TA)(d:DA):Prop:=∀(B:FB) (φ:Phi) (σ:St) (τ:TSt) (H:Hp) (Q:List V→Hp→Prop) (KK:List Tr→Prop),RS K B φ σ τ H→d τ KK →
 (∀ts vs H',HX B φ τ H H'→KK ts→ts.length=n→zi (AvB b B φ τ) H' ts vs→Q vs H')→ta σ H Q
def HXA (B:FB)(φ:Phi)(H H':Hp):Prop:=∀a o,H a=some o→¬Av B φ a→H' a=some o
def OkG (K:PySem.W.Frag)(g:TG)(d:DG):Prop:=∀(B:FB) (φ:Phi) (σ:St) (τ:TSt) (H:Hp) (t:Tr) (v:V) (Q:St→Hp→Prop) (KK:TSt→Prop),RS K B φ σ τ H→Rep (Av B φ) H t v→d t τ KK →
 (∀ φ' σ' τ' H',RS K B φ' σ' τ' H'→(∀a,Av B φ' a→Av B φ a)→HXA B φ H H'→KK τ'→Q σ' H')→g v σ H Q
def xhq (K:PySem.W.Frag)(g:TGs)(d:DGs):Prop:=∀(B:FB) (φ:Phi) (σ:St) (τ:TSt) (H:Hp) (t:List Tr) (v:List V) (Q:St→Hp→Prop) (KK:TSt→Prop),RS K B φ σ τ H→zi (Av B φ) H t v→d t τ KK →
 (∀ φ' σ' τ' H',RS K B φ' σ' τ' H'→(∀a,Av B φ' a→Av B φ a)→HXA B φ H H'→KK τ'→Q σ' H')→g v σ H Q
def FrL (F:Addr→Prop)(H H':Hp)(t:Tr)(v:V):Prop:=∃a ts ws,v=.ref a∧t=.lst ts∧H a=none∧H' a=some (.lst ws)∧zi (fun c=>F c∨c=a) H' ts ws
structure xd4 (B:FB)(H:Hp):Prop where
 ext:∀a o,B.H0 a=some o→¬B.S0 a→H a=some o
 st:∀a,B.S0 a→bj a H
structure EOk (K:PySem.W.Frag)(B:FB)(fr:Bool)(E:Ends)(G:xbD):Prop where
 nx:∀ φ σ τ H,RS K B φ σ τ H→G.nx τ→E.nx σ H
 bk:∀ φ σ τ H,RS K B φ σ τ H→G.bk τ→E.bk σ H
 ct:∀ φ σ τ H,RS K B φ σ τ H→G.ct τ→E.ct σ H
 rt:∀t v H,Rep B.F0 H t v→xd4 B H→G.rt t→(fr=true→FrL B.F0 B.H0 H t v)→E.rt v H
def OkS (K:PySem.W.Frag)(fr:Bool)(T:TS)(D:DS):Prop:=∀(B:FB) (φ:Phi) (σ:St) (τ:TSt) (H:Hp) (E:Ends) (G:xbD),RS K B φ σ τ H→D G τ→EOk K B fr E G→T E σ H
section
variable {K:PySem.W.Frag} {B:FB} {φ:Phi} {σ:St} {τ:TSt} {H H' H'':Hp}
theorem RS.extB (R:RS K B φ σ τ H):xd4 B H:=⟨R.ext,fun a s=>R.sst a (.inl s)⟩
theorem xiK (R:RS K B φ σ τ H)(h:Rep (AvB b B φ τ) H' t v):Rep (Wk B φ τ) H' t v:=by
 cases b with
 | true=>exact yz (fun a o e n=>⟨e,fun w=>n (R.wAv w)⟩) t v h
 | false=>exact h
theorem xh0 (R:RS K B φ σ τ H)(h:zi (AvB b B φ τ) H' t v):zi (Wk B φ τ) H' t v:=by
 cases b with
 | true=>exact yl (fun a o e n=>⟨e,fun w=>n (R.wAv w)⟩) t v h
 | false=>exact h
theorem OkF.e (h:OkF K te d):OkE K true te d:=fun B φ σ τ H Q KK R hd q=>h B φ σ τ H Q KK R hd fun ts a ws H' x k e e' r=>q _ _ H' x k ⟨a,ws,rfl,fun z=>R.dom z e,e',yl (fun c o e n=>⟨e,fun z=>n (.inl z)⟩) _ _ r⟩
def bh (i:Nat):DE:=fun τ KK=>match nth τ i with | .fz t=>KK t | _=>False
def xf6 (i:Nat):DE:=fun τ KK=>match nth τ i with | .fz t=>KK t | .ow ts=>KK (.lst ts) | _=>False
def dC (t:Tr):DE:=fun _ KK=>KK t
theorem xa:OkE K true (sZ i) (bh i):=fun B φ σ τ H Q KK R hd q=>by
 have en:=R.ent i
 unfold bh at hd
 revert en hd
 cases nth τ i with
 | fz t=>exact fun k ⟨v,e,r⟩=>⟨v,e,q t v H (HX.refl R) k r⟩
 | _=>exact fun z _=>z.elim
theorem oq (R:RS K B φ σ τ H)(hi:nth τ i=.ow ts)(e2:φ i=some a)(e3:B.H0 a=none):¬Wk B φ τ a:=fun z=>by
 rcases z with z | z | ⟨j,z,hj⟩
 ·exact R.f0 a z e3
 ·exact R.f0 a (R.s0 a z) e3
 ·have:=R.inj i j a ts hi e2 z
  subst this
  rw[hi] at hj;cases hj
theorem fC:OkE K false (sZ i) (xf6 i):=fun B φ σ τ H Q KK R hd q=>by
 have en:=R.ent i
 unfold xf6 at hd
 revert en hd
 cases hi:nth τ i with
 | fz t=>exact fun k ⟨v,e,r⟩=>⟨v,e,q t v H (HX.refl R) k (xiK (b:=true) R r)⟩
 | ow ts =>
  intro k ⟨a,ws,e1,e2,e3,e4,r⟩
  exact⟨_,e1,q _ _ H (HX.refl R) k ⟨a,ws,rfl,oq R hi e2 e3,e4,xh0 (b:=true) R r⟩⟩
 | _=>exact fun z _=>z.elim
theorem xad (h:o_ t=some v:=by rfl):OkE K true (tC v) (dC t):=fun B φ σ τ H Q KK R hd q=>q t v H (HX.refl R) hd (vU h)
def d2 (f:Tr→Tr→(Tr→Prop)→Prop)(da db:DE):DE:=fun τ KK=>da τ fun x=>db τ fun y=>f x y KK
def OpS (r:R2)(f:Tr→Tr→(Tr→Prop)→Prop):Prop:=∀(F G:Addr→Prop) (H:Hp) (x y:V) (t u:Tr) (KK:Tr→Prop) (Q:VK),Rep F H t x→Rep G H u y→f t u KK→(∀w v,o_ w=some v→KK w→Q v H)→r x y H Q
theorem xi (hr:OpS r f)(ha:OkE K b ta da)(hb:OkE K c tb db):OkE K true (tOp r ta tb) (d2 f da db):=fun B φ σ τ H Q KK R hd q =>
 ha B φ σ τ H _ _ R hd fun t v H1 x1 k1 r1=>hb B φ σ τ H1 _ _ (R.hx x1) k1 fun u w H2 x2 k2 r2 =>
  hr _ _ H2 v w t u KK Q (x2.rep (fun a s=>R.sB s) r1) r2 k2 fun z v' e k=>q z v' H2 (x1.trans x2) k (vU e)
def fI (C:Int→Int→Prop)(g:Int→Int→Tr)(x y:Tr)(KK:Tr→Prop):Prop:=match x,y with | .int i,.int j=>C i j∧KK (g i j) | _,_=>False
def fI0 (g:Int→Int→Tr)(x y:Tr)(KK:Tr→Prop):Prop:=match x,y with | .int i,.int j=>KK (g i j) | _,_=>False
theorem xfy (h:∀i j,o_ (g' i j)=some (g i j)):OpS (rI C g) (fI C g'):=by
 intro F G H x y t u KK Q r1 r2 hf q
 unfold fI at hf
 split at hf
 ·rename_i i j
  cases (show x=.int i from r1);cases (show y=.int j from r2)
  exact⟨i,j,rfl,rfl,hf.1,q _ _ (h i j) hf.2⟩
 ·exact hf.elim
theorem oH (h:∀i j,o_ (g' i j)=some (g i j)):OpS (rI0 g) (fI0 g'):=by
 intro F G H x y t u KK Q r1 r2 hf q
 unfold fI0 at hf
 split at hf
 ·rename_i i j
  cases (show x=.int i from r1);cases (show y=.int j from r2)
  exact⟨i,j,rfl,rfl,q _ _ (h i j) hf⟩
 ·exact hf.elim
abbrev xi2:=fI0 fun i j=>.int (i+j)
abbrev xiU:=fI0 fun i j=>.int (i-j)
abbrev fLe:=fI0 fun i j=>.bl (decide (i≤j))
abbrev fGt:=fI0 fun i j=>.bl (decide (j<i))
theorem uW:OpS (rI0 fun i j=>.int (i+j)) xi2:=oH fun _ _=>rfl
theorem zM:OpS (rI0 fun i j=>.int (i-j)) xiU:=oH fun _ _=>rfl
theorem aJ:OpS (rI0 fun i j=>.bl (decide (i≤j))) fLe:=oH fun _ _=>rfl
theorem pF:OpS (rI0 fun i j=>.bl (decide (j<i))) fGt:=oH fun _ _=>rfl
def Bd (i:Int):Prop:=i.natAbs<2 ^ 2000
theorem xb2 (h1:-(10 ^ 100)≤i)(h2:i≤10 ^ 100):Bd i:=by
 have:i.natAbs≤10 ^ 100:=by omega
 exact xla this (by decide +kernel)
theorem log2_lt_of (h:n<2 ^ k)(hk:0<k):n.log2<k:=by
 by_cases h0:n=0
 ·subst h0;simpa using hk
 ·exact(Nat.log2_lt h0).mpr h
theorem Bd.bits (h:Bd i):Builtin.Int.intBits i≤2000:=by
 unfold Builtin.Int.intBits
 split
 ·exact xlh _
 ·have:=log2_lt_of h (by decide)
  omega
def CM (i j:Int):Prop:=Bd i∧Bd j
theorem CM.ok (h:CM i j):IntMulOk i j:=PyProof.Rows.mulOk_of_bits h.1.bits h.2.bits (by decide)
section
variable {X:Cx}
theorem xK:OpR X (binaryOp .Mult) (rI CM fun i j=>.int (i*j)):=opI fun _ _ _ _ _ _ _ hc q=>mul_int q hc.ok
def CDv (_i j:Int):Prop:=j≠0∧Bd j
theorem uj:OpR X (binaryOp .FloorDiv) (rI CDv fun i j=>.int (i.fdiv j)):=opI fun i j _ _ _ _ _ hc q =>
 floordiv_int hc.1 q (.inl (PyProof.noPylong_of_log2 (Nat.lt_trans (log2_lt_of hc.2 (by decide)) (by decide))))
end
abbrev xi4:=fI CM fun i j=>.int (i*j)
abbrev xja:=fI CDv fun i j=>.int (i.fdiv j)
abbrev xjb:=fI (fun _ j=>j≠0) fun i j=>.int (i.fmod j)
theorem x8:OpS (rI CM fun i j=>.int (i*j)) xi4:=xfy fun _ _=>rfl
theorem qm:OpS (rI CDv fun i j=>.int (i.fdiv j)) xja:=xfy fun _ _=>rfl
theorem xd5:OpS (rI (fun _ j=>j≠0) fun i j=>.int (i.fmod j)) xjb:=xfy fun _ _=>rfl
def d1 (f:Tr→(Tr→Prop)→Prop)(da:DE):DE:=fun τ KK=>da τ fun x=>f x KK
def xif (x:Tr)(KK:Tr→Prop):Prop:=match x with | .int i=>KK (.int (-i)) | _=>False
theorem zN (ha:OkE K b ta da):OkE K true (tUn (rU fun i=>.int (-i)) ta) (d1 xif da):=fun B φ σ τ H Q KK R hd q =>
 ha B φ σ τ H _ _ R hd fun t v H1 x1 k1 r1=>by
  cases t with
  | int i=>cases (show v=.int i from r1);exact⟨i,rfl,q _ _ H1 x1 k1 rfl⟩
  | _=>exact k1.elim
def xfA:Tr→Bool
 | .non=>true
 | _=>false
theorem mI (r:Rep F H t v):decide (v=.non)=xfA t:=by
 cases t with
 | non=>cases (show v=.non from r);rfl
 | bl b=>cases (show v=.bl b from r);rfl
 | int b=>cases (show v=.int b from r);rfl
 | str b=>cases (show v=.str b from r);rfl
 | emp=>obtain⟨a,e,_⟩:=r;subst e;rfl
 | tup ts=>obtain⟨a,ws,e,_⟩:=r;subst e;rfl
 | lst ts=>obtain⟨a,ws,e,_⟩:=r;subst e;rfl
theorem sS (ha:OkE K b ta da):OkE K true (xit ta) (d1 (fun x KK=>KK (.bl (xfA x))) da):=fun B φ σ τ H Q KK R hd q =>
 ha B φ σ τ H _ _ R hd fun t v H1 x1 k1 r1=>by
  show Q (.bl (decide (v=.non))) H1
  rw[mI r1];exact q _ _ H1 x1 k1 rfl
theorem bp (ha:OkE K b ta da):OkE K true (xgH ta) (d1 (fun x KK=>KK (.bl (!xfA x))) da):=fun B φ σ τ H Q KK R hd q =>
 ha B φ σ τ H _ _ R hd fun t v H1 x1 k1 r1=>by
  show Q (.bl (!decide (v=.non))) H1
  rw[mI r1];exact q _ _ H1 x1 k1 rfl
def fB (x:Tr)(KK:Bool→Prop):Prop:=match x with | .bl b=>KK b | _=>False
def xhe (d:DE):DT:=fun τ KK=>d τ fun x=>fB x KK
theorem yy (ha:OkE K b ta da):OkT K (tB ta) (xhe da):=fun B φ σ τ H Q KK R hd q =>
 ha B φ σ τ H _ _ R hd fun t v H1 x1 k1 r1=>by
  cases t with
  | bl i=>cases (show v=.bl i from r1);exact⟨i,rfl,q _ H1 x1 k1⟩
  | _=>exact k1.elim
theorem xD (ha:OkE K b ta da):OkT K (xeP ta) (xhe da):=yy ha
def xil (a b:DT):DT:=fun τ KK=>a τ fun c=>if c=true then b τ KK else KK false
def dOr (a b:DT):DT:=fun τ KK=>a τ fun c=>if c=true then KK true else b τ KK
def xjg (a:DT):DT:=fun τ KK=>a τ fun c=>KK (!c)
theorem v_ (ha:OkT K ta da)(hb:OkT K tb db):OkT K (xiz ta tb) (xil da db):=fun B φ σ τ H Q KK R hd q =>
 ha B φ σ τ H _ _ R hd fun c H1 x1 k1=>by
  cases c with
  | true=>exact o9 (hb B φ σ τ H1 _ _ (R.hx x1) k1 fun d H2 x2 k2=>q d H2 (x1.trans x2) k2)
  | false=>exact bc (q false H1 x1 k1)
theorem zG (ha:OkT K ta da)(hb:OkT K tb db):OkT K (tOr ta tb) (dOr da db):=fun B φ σ τ H Q KK R hd q =>
 ha B φ σ τ H _ _ R hd fun c H1 x1 k1=>by
  cases c with
  | false=>exact bc (hb B φ σ τ H1 _ _ (R.hx x1) k1 fun d H2 x2 k2=>q d H2 (x1.trans x2) k2)
  | true=>exact o9 (q true H1 x1 k1)
theorem yO (ha:OkT K ta da):OkT K (xiH ta) (xjg da):=fun B φ σ τ H Q KK R hd q =>
 ha B φ σ τ H _ _ R hd fun c H1 x1 k1=>q (!c) H1 x1 k1
def xhz (a b:DE):DE:=fun τ KK=>a τ fun x=>fB x fun c=>if c=true then b τ KK else KK (.bl false)
def xi1 (a b:DE):DE:=fun τ KK=>a τ fun x=>fB x fun c=>if c=true then KK (.bl true) else b τ KK
def xhW (a:DE):DE:=fun τ KK=>a τ fun x=>fB x fun c=>KK (.bl (!c))
theorem fU (ha:OkE K b ta da)(hb:OkE K c tb db):OkE K c (xgu ta tb) (xhz da db):=fun B φ σ τ H Q KK R hd q =>
 ha B φ σ τ H _ _ R hd fun t v H1 x1 k1 r1=>by
  cases t with
  | bl i =>
   cases (show v=.bl i from r1)
   refine⟨i,rfl,?_⟩
   cases i with
   | true=>exact o9 (hb B φ σ τ H1 _ _ (R.hx x1) k1 fun d w H2 x2 k2 r2=>q d w H2 (x1.trans x2) k2 r2)
   | false=>exact bc (q _ _ H1 x1 k1 (vU rfl))
  | _=>exact k1.elim
theorem xa0 (ha:OkE K b ta da)(hb:OkE K c tb db):OkE K c (xiD ta tb) (xi1 da db):=fun B φ σ τ H Q KK R hd q =>
 ha B φ σ τ H _ _ R hd fun t v H1 x1 k1 r1=>by
  cases t with
  | bl i =>
   cases (show v=.bl i from r1)
   refine⟨i,rfl,?_⟩
   cases i with
   | false=>exact bc (hb B φ σ τ H1 _ _ (R.hx x1) k1 fun d w H2 x2 k2 r2=>q d w H2 (x1.trans x2) k2 r2)
   | true=>exact o9 (q _ _ H1 x1 k1 (vU rfl))
  | _=>exact k1.elim
theorem xar (ha:OkE K b ta da):OkE K true (xgC ta) (xhW da):=fun B φ σ τ H Q KK R hd q =>
 ha B φ σ τ H _ _ R hd fun t v H1 x1 k1 r1=>by
  cases t with
  | bl i=>cases (show v=.bl i from r1);exact⟨i,rfl,q _ _ H1 x1 k1 rfl⟩
  | _=>exact k1.elim
def xgn (f f':Tr→Tr→(Tr→Prop)→Prop)(da db dc:DE):DE:=fun τ KK=>da τ fun x=>db τ fun y=>f x y fun z=>fB z fun k=>if k=true then dc τ fun w=>f' y w KK else KK (.bl false)
theorem xc3 (hr:OpS r f)(hr':OpS r' f')(ha:OkE K b1 ta da)(hb:OkE K b2 tb db)(hc:OkE K b3 tc dc) :
  OkE K true (xeh r r' ta tb tc) (xgn f f' da db dc):=fun B φ σ τ H Q KK R hd q =>
 ha B φ σ τ H _ _ R hd fun t v H1 x1 k1 r1=>hb B φ σ τ H1 _ _ (R.hx x1) k1 fun u w H2 x2 k2 r2 =>
  hr _ _ H2 v w t u _ _ (x2.rep (fun a s=>R.sB s) r1) r2 k2 fun z v' e k=>by
   cases z with
   | bl i =>
    cases e
    refine⟨i,rfl,?_⟩
    cases i with
    | true=>exact o9 (hc B φ σ τ H2 _ _ (R.hx (x1.trans x2)) k fun w3 v3 H3 x3 k3 r3=>hr' _ _ H3 w v3 u w3 KK Q (x3.rep (fun a s=>R.sB s) r2) r3 k3 fun z' v'' e' k'=>q z' v'' H3 ((x1.trans x2).trans x3) k' (vU e'))
    | false=>exact bc (q _ _ H2 (x1.trans x2) k (vU rfl))
   | _=>exact k.elim
def xfv:DA:=fun _ KK=>KK []
def rg (a:DE)(r:DA):DA:=fun τ KK=>a τ fun x=>r τ fun xs=>KK (x::xs)
theorem um:OkA K b 0 lR xfv:=fun B φ σ τ H Q KK R hd q=>q [] [] H (HX.refl R) hd rfl rfl
theorem xJ (he:OkE K b te de)(ha:OkA K b n ta da):OkA K b (n+1) (vD te ta) (rg de da):=fun B φ σ τ H Q KK R hd q =>
 he B φ σ τ H _ _ R hd fun t v H1 x1 k1 r1=>ha B φ σ τ H1 _ _ (R.hx x1) k1 fun ts vs H2 x2 k2 l2 r2=>q (t::ts) (v::vs) H2 (x1.trans x2) k2 (by rw[xkn,l2]) ⟨v,vs,rfl,x2.rep (fun a s=>R.sB s) r1,r2⟩
def xjf (a:DA):DE:=fun τ KK=>a τ fun xs=>KK (.tup xs)
def xhl (a:DA):DE:=fun τ KK=>a τ fun xs=>KK (.lst xs)
theorem rD (hp:H p=none)(r:Rep F H t v):Rep F (upd H p o) t v:=yz (fun a u e n=>⟨by rw[xX (xI e hp)];exact e,n⟩) t v r
theorem uu (hp:H p=none)(r:zi F H t v):zi F (upd H p o) t v:=yl (fun a u e n=>⟨by rw[xX (xI e hp)];exact e,n⟩) t v r
theorem vS (hp:H p=none)(r:zi F H t v):zi (fun c=>F c∨c=p) (upd H p o) t v:=yl (fun a u e n=>⟨by rw[xX (xI e hp)];exact e,fun z=>z.elim n (xI e hp)⟩) t v r
theorem yc (ha:OkA K b n ta da)(hn:n≤sizeLine:=by decide):OkE K b (xiC ta) (xjf da):=fun B φ σ τ H Q KK R hd q =>
 ha B φ σ τ H _ _ R hd fun ts vs H1 x1 k1 l1 r1=>⟨by rw[←r1.len,l1];exact hn,fun p hp =>
  q _ _ _ (x1.trans (HX.new (R.hx x1) hp _)) k1 ⟨p,vs,rfl,fun z=>(R.hx x1).domB z hp,x9,uu hp r1⟩⟩
theorem kj (ha:OkA K true n ta da)(hn:n≤sizeLine:=by decide):OkF K (xh4 ta) (xhl da):=fun B φ σ τ H Q KK R hd q =>
 ha B φ σ τ H _ _ R hd fun ts vs H1 x1 k1 l1 r1=>⟨by rw[←r1.len,l1];exact hn,fun p hp =>
  q ts p vs _ (x1.trans (HX.new (R.hx x1) hp _)) k1 (x1.none hp) x9 (vS hp r1)⟩
theorem uR (ha:OkA K b n ta da)(hn:n≤sizeLine:=by decide):OkE K b (xh4 ta) (xhl da):=fun B φ σ τ H Q KK R hd q =>
 ha B φ σ τ H _ _ R hd fun ts vs H1 x1 k1 l1 r1=>⟨by rw[←r1.len,l1];exact hn,fun p hp =>
  q _ _ _ (x1.trans (HX.new (R.hx x1) hp _)) k1 ⟨p,vs,rfl,fun z=>(R.hx x1).domB z hp,x9,uu hp r1⟩⟩
end
end L2
namespace L2
open PySem PySem.Spec PyProof.Rows
def getT:List α→Nat→Option α
 | [],_=>none
 | x::_,0=>some x
 | _::r,n+1=>getT r n
theorem aP:∀(l:List α) (n:Nat),getT l n=l[n]?
 | [],_=>by simp[getT]
 | _::_,0=>by simp[getT]
 | _::r,n+1=>by simp[getT,aP r n]
def atT (ts:List α):Int→Option α
 | .ofNat n=>getT ts n
 | .negSucc n=>if n<ts.length then getT ts (ts.length-1-n) else none
theorem xek (ts:List α)(i:Int):atT ts i=atI ts i:=by
 unfold atI ixN
 cases i with
 | ofNat n =>
  show getT ts n=_
  rw[aP]
  have h0:(0:Int)≤Int.ofNat n:=xjQ n
  rw[if_pos h0]
  by_cases h:(Int.ofNat n)<(ts.length:Int)
  ·rw[if_pos h];rfl
  ·rw[if_neg h]
   have:ts.length≤n:=by
    have h':¬((n:Int)<(ts.length:Int)):=h
    omega
   rw[xkf this];rfl
 | negSucc n =>
  show(if n<ts.length then getT ts (ts.length-1-n) else none)=_
  have h0:¬(0:Int)≤Int.negSucc n:=by omega
  rw[if_neg h0]
  by_cases h:n<ts.length
  ·rw[if_pos h,aP,if_pos (by omega)]
   show ts[ts.length-1-n]? = ts[(Int.negSucc n+(ts.length:Int)).toNat]?
   congr 1
   omega
  ·rw[if_neg h,if_neg (by omega)];rfl
section
variable {K:PySem.W.Frag} {B:FB} {φ:Phi} {σ:St} {τ:TSt} {H H' H'':Hp}
theorem zi.at (r:zi F H ts ws)(h:atT ts i=some t):∃w,atI ws i=some w∧Rep F H t w:=by
 rw[xek] at h
 unfold atI at h ⊢
 rw[←r.len]
 cases e:ixN ts.length i with
 | none=>rw[e] at h;cases h
 | some j =>
  rw[e] at h
  exact r.getT h
def tU (o:Option Tr)(KK:Tr→Prop):Prop:=match o with | some t=>KK t | none=>False
def fIx (x y:Tr)(KK:Tr→Prop):Prop:=match x,y with | .tup ts,.int i=>tU (atT ts i) KK | .lst ts,.int i=>tU (atT ts i) KK | _,_=>False
theorem vR (ha:OkE K b ta da)(hb:OkE K c tb db):OkE K b (tOp (rIx K) ta tb) (d2 fIx da db):=fun B φ σ τ H Q KK R hd q =>
 ha B φ σ τ H _ _ R hd fun t v H1 x1 k1 r1=>hb B φ σ τ H1 _ _ (R.hx x1) k1 fun u w H2 x2 k2 r2=>by
  have r1':=x2.rep (fun a s=>R.sB s) r1
  unfold fIx at k2
  split at k2
  ·rename_i ts i
   obtain⟨a,ws,e,n,ha',rl⟩:=r1'
   cases (show w=.int i from r2)
   subst e
   cases e:atT ts i with
   | none=>rw[e] at k2;exact k2.elim
   | some z =>
    rw[e] at k2
    obtain⟨y,e1,e2⟩:=rl.at e
    exact .inr (.inl ⟨a,ws,i,y,rfl,rfl,SqT.of ha',e1,q z y H2 (x1.trans x2) k2 e2⟩)
  ·rename_i ts i
   obtain⟨a,ws,e,n,ha',rl⟩:=r1'
   cases (show w=.int i from r2)
   subst e
   cases e:atT ts i with
   | none=>rw[e] at k2;exact k2.elim
   | some z =>
    rw[e] at k2
    obtain⟨y,e1,e2⟩:=rl.at e
    exact .inl ⟨a,ws,i,y,rfl,rfl,SqL.of ha',e1,q z y H2 (x1.trans x2) k2 e2⟩
  ·exact k2.elim
def xi3 (ts:List Tr)(y:Tr)(KK:Tr→Prop):Prop:=match y with | .int k=>tU (atT ts k) KK | _=>False
def xiQ (i:Nat)(db:DE):DE:=fun τ KK=>match nth τ i with | .ow ts=>db τ fun y=>xi3 ts y KK | _=>False
theorem kK (R:RS K B φ σ τ H)(x:HX B φ τ H H')(hi:nth τ i=.ow ts)(e1:σ[i]? = some (some (.ref a))):∃ws,H' a=some (.lst ws)∧zi (Av B φ) H' ts ws∧φ i=some a∧B.H0 a=none:=by
 have en2:=(R.hx x).ent i
 rw[hi] at en2
 obtain⟨a',ws',e1',e2,e3,e4',r'⟩:=en2
 rw[e1] at e1';cases e1'
 exact⟨ws',e4',r',e2,e3⟩
theorem oX (hb:OkE K c tb db):OkE K true (tOp (rIx K) (sZ i) tb) (xiQ i db):=fun B φ σ τ H Q KK R hd q=>by
 have en:=R.ent i
 unfold xiQ at hd
 revert en hd
 cases hi:nth τ i with
 | ow ts =>
  intro hd ⟨a,ws,e1,e2,e3,e4,r⟩
  refine⟨_,e1,hb B φ σ τ H _ _ R hd fun u w H2 x2 k2 r2=>?_⟩
  obtain⟨ws',e4',r',_⟩:=kK R x2 hi e1
  cases u with
  | int k =>
   cases (show w=.int k from r2)
   have k2:tU (atT ts k) KK:=k2
   cases e:atT ts k with
   | none=>rw[e] at k2;exact k2.elim
   | some z =>
    rw[e] at k2
    obtain⟨y,f1,f2⟩:=r'.at e
    exact .inl ⟨a,ws',k,y,rfl,rfl,SqL.of e4',f1,q z y H2 x2 k2 f2⟩
  | _=>exact k2.elim
 | _=>exact fun z _=>z.elim
abbrev DO:=TSt→(Option Int→Prop)→Prop
def OkO (K:PySem.W.Frag)(t:TO)(d:DO):Prop:=∀(B:FB) (φ:Phi) (σ:St) (τ:TSt) (H:Hp) (Q:Option Int→Hp→Prop) (KK:Option Int→Prop),RS K B φ σ τ H→d τ KK→(∀o H',HX B φ τ H H'→KK o→Q o H')→t σ H Q
def bT:DO:=fun _ KK=>KK none
def xfn (d:DE):DO:=fun τ KK=>d τ fun x=>match x with | .int i=>KK (some i) | _=>False
theorem va:OkO K xcc bT:=fun B φ σ τ H Q KK R hd q=>q none H (HX.refl R) hd
theorem ve (h:OkE K b te d):OkO K (xg9 te) (xfn d):=fun B φ σ τ H Q KK R hd q =>
 h B φ σ τ H _ _ R hd fun t v H1 x1 k1 r1=>by
  cases t with
  | int i=>cases (show v=.int i from r1);exact⟨i,rfl,q _ H1 x1 k1⟩
  | _=>exact k1.elim
def dJ (xs:List α)(lo hi:Option Int):List α:=(xs.drop (HT.sIx xs.length 0 lo)).take (HT.sIx xs.length xs.length hi-HT.sIx xs.length 0 lo)
theorem zi.cut (r:zi F H ts ws)(lo hi:Option Int):zi F H (dJ ts lo hi) (lG ws lo hi):=by
 unfold dJ lG
 rw[←r.len]
 exact zB.mpr (jg _ (k6 _ (zB.mp r)))
def dSl (d:DE)(dl dh:DO):DE:=fun τ KK=>d τ fun x=>dl τ fun lo=>dh τ fun hi=>match x with | .tup ts=>KK (.tup (dJ ts lo hi)) | .lst ts=>KK (.lst (dJ ts lo hi)) | _=>False
def xi8 (d:DE)(dl dh:DO):DE:=fun τ KK=>d τ fun x=>dl τ fun lo=>dh τ fun hi=>match x with | .lst ts=>KK (.lst (dJ ts lo hi)) | _=>False
theorem xdV {b:Bool}{te:TE}{tl th:TO}{d:DE}{dl dh:DO}(h:OkE K b te d)(hl:OkO K tl dl)(hh:OkO K th dh):OkE K b (tSl (xgL K) te tl th) (xi8 d dl dh):=fun B φ σ τ H Q KK R hd q =>
 h B φ σ τ H _ _ R hd fun t v H1 x1 k1 r1=>hl B φ σ τ H1 _ _ (R.hx x1) k1 fun lo H2 x2 k2=>hh B φ σ τ H2 _ _ (R.hx (x1.trans x2)) k2 fun hi H3 x3 k3=>by
  have r3:=(x2.trans x3).rep (fun a s=>R.sB s) r1
  have x:=(x1.trans x2).trans x3
  cases t with
  | lst ts =>
   obtain⟨a,ws,e,n,ha,rl⟩:=r3
   exact⟨a,ws,e,SqL.of ha,fun p hp=>q _ _ _ (x.trans (HX.new (R.hx x) hp _)) k3 ⟨p,_,rfl,fun z=>(R.hx x).domB z hp,x9,uu hp (rl.cut lo hi)⟩⟩
  | _=>exact k3.elim
def xii (i:Nat)(dl dh:DO):DE:=fun τ KK=>match nth τ i with | .ow ts=>dl τ fun lo=>dh τ fun hi=>KK (.lst (dJ ts lo hi)) | _=>False
theorem xbv {i:Nat}{tl th:TO}{dl dh:DO}(hl:OkO K tl dl)(hh:OkO K th dh):OkF K (tSl (xgL K) (sZ i) tl th) (xii i dl dh):=fun B φ σ τ H Q KK R hd q=>by
 have en:=R.ent i
 unfold xii at hd
 revert en hd
 cases hi:nth τ i with
 | ow ts =>
  intro hd ⟨a,ws,e1,e2,e3,e4,r⟩
  refine⟨_,e1,hl B φ σ τ H _ _ R hd fun lo H2 x2 k2=>hh B φ σ τ H2 _ _ (R.hx x2) k2 fun hi' H3 x3 k3=>?_⟩
  have x:=x2.trans x3
  obtain⟨ws',e4',r',_⟩:=kK R x hi e1
  exact⟨a,ws',rfl,SqL.of e4',fun p hp=>q _ _ _ _ (x.trans (HX.new (R.hx x) hp _)) k3 (x.none hp) x9 (vS hp (r'.cut lo hi'))⟩
 | _=>exact fun z _=>z.elim
def xhZ (x y:Tr)(KK:Tr→Prop):Prop:=match x,y with | .lst ts,.lst us=>ts.length+us.length≤sizeLine∧KK (.lst (ts++us)) | _,_=>False
theorem c9 (ha:OkE K true ta da)(hb:OkE K true tb db):OkF K (tOp xhf ta tb) (d2 xhZ da db):=fun B φ σ τ H Q KK R hd q =>
 ha B φ σ τ H _ _ R hd fun t v H1 x1 k1 r1=>hb B φ σ τ H1 _ _ (R.hx x1) k1 fun u w H2 x2 k2 r2=>by
  have r1':=x2.rep (F:=Av B φ) (fun a s=>R.sAv s) r1
  have x:=x1.trans x2
  unfold xhZ at k2
  split at k2
  ·rename_i ts us
   obtain⟨a,ws,e,n,ha',rl⟩:=r1'
   obtain⟨a2,ws2,e2,n2,ha2,rl2⟩:=r2
   exact⟨a,a2,ws,ws2,e,e2,ha',ha2,by rw[←rl.len,←rl2.len];exact k2.1,fun p hp=>q _ _ _ _ (x.trans (HX.new (R.hx x) hp _)) k2.2 (x.none hp) x9 (vS hp (rl.app rl2))⟩
  ·exact k2.elim
def xiJ (x y:Tr)(KK:Tr→Prop):Prop:=match x,y with | .lst ts,.int k=>(0≤k∧k<2 ^ 63)∧ts.length*k.toNat≤sizeLine∧KK (.lst (List.replicate k.toNat ts).flatten) | _,_=>False
theorem me (r:zi F H ts ws):∀n:Nat,zi F H (List.replicate n ts).flatten (List.replicate n ws).flatten
 | 0=>rfl
 | n+1=>by
  rw[xkV,xkV,xj_,xj_]
  exact r.app (me r n)
theorem xeB (ha:OkE K true ta da)(hb:OkE K c tb db):OkF K (tOp xiI ta tb) (d2 xiJ da db):=fun B φ σ τ H Q KK R hd q =>
 ha B φ σ τ H _ _ R hd fun t v H1 x1 k1 r1=>hb B φ σ τ H1 _ _ (R.hx x1) k1 fun u w H2 x2 k2 r2=>by
  have r1':=x2.rep (F:=Av B φ) (fun a s=>R.sAv s) r1
  have x:=x1.trans x2
  unfold xiJ at k2
  split at k2
  ·rename_i ts k
   obtain⟨a,ws,e,n,ha',rl⟩:=r1'
   exact⟨a,k,ws,e,r2,ha',by have:=k2.1.1;omega,k2.1.2,by rw[←rl.len];exact k2.2.1,fun p hp=>q _ _ _ _ (x.trans (HX.new (R.hx x) hp _)) k2.2.2 (x.none hp) x9 (vS hp (me rl _))⟩
  ·exact k2.elim
def dCB (f:List Tr→(Tr→Prop)→Prop)(da:DA):DE:=fun τ KK=>da τ fun xs=>f xs KK
def CbS (r:List V→Hp→VK→Prop)(f:List Tr→(Tr→Prop)→Prop):Prop:=∀(F:Addr→Prop) (H:Hp) (vs:List V) (ts:List Tr) (KK:Tr→Prop) (Q:VK),zi F H ts vs→f ts KK→(∀w v,o_ w=some v→KK w→Q v H)→r vs H Q
theorem yM (hr:CbS r f)(ha:OkA K b n ta da):OkE K true (tCB r ta) (dCB f da):=fun B φ σ τ H Q KK R hd q =>
 ha B φ σ τ H _ _ R hd fun ts vs H1 x1 k1 l1 r1=>hr _ H1 vs ts KK Q r1 k1 fun w v e k=>q w v H1 x1 k (vU e)
theorem fG (h:zi F H [t] vs):∃v,vs=[v]∧Rep F H t v:=by
 obtain⟨w,r,e,h1,h2⟩:=h
 cases (show r=[] from h2)
 exact⟨w,e,h1⟩
theorem xdg (h:zi F H [t,u] vs):∃v w,vs=[v,w]∧Rep F H t v∧Rep F H u w:=by
 obtain⟨w,r,e,h1,h2⟩:=h
 obtain⟨w',e',h3⟩:=fG h2
 subst e'
 exact⟨w,w',e,h1,h3⟩
def xip (xs:List Tr)(KK:Tr→Prop):Prop:=match xs with | [.tup ts]=>KK (.int ts.length) | [.lst ts]=>KK (.int ts.length) | _=>False
theorem uD:CbS (xeN K) xip:=by
 intro F H vs ts KK Q r hf q
 unfold xip at hf
 split at hf
 ·rename_i ts
  obtain⟨v,rfl,a,ws,e,n,ha,rl⟩:=fG r
  exact⟨a,ws,by rw[e],.inr (SqT.of ha),by rw[←rl.len];exact q _ _ rfl hf⟩
 ·rename_i ts
  obtain⟨v,rfl,a,ws,e,n,ha,rl⟩:=fG r
  exact⟨a,ws,by rw[e],.inl (SqL.of ha),by rw[←rl.len];exact q _ _ rfl hf⟩
 ·exact hf.elim
def xio (xs:List Tr)(KK:Tr→Prop):Prop:=match xs with | [.int i]=>KK (.int (if i<0 then -i else i)) | _=>False
theorem jt:CbS (fun xs H Q=>∃i,xs=[.int i]∧Q (.int (if i<0 then -i else i)) H) xio:=by
 intro F H vs ts KK Q r hf q
 unfold xio at hf
 split at hf
 ·rename_i i
  obtain⟨v,rfl,e⟩:=fG r
  cases (show v=.int i from e)
  exact⟨i,rfl,q _ _ rfl hf⟩
 ·exact hf.elim
def xfX (xs:List Tr)(KK:Tr→Prop):Prop:=match xs with | [.int i,.int j]=>KK (.int (if j>i then j else i)) | _=>False
theorem xft:CbS (fun xs H Q=>∃i j,xs=[.int i,.int j]∧Q (.int (if j>i then j else i)) H) xfX:=by
 intro F H vs ts KK Q r hf q
 unfold xfX at hf
 split at hf
 ·rename_i i j
  obtain⟨v,w,rfl,e,e'⟩:=xdg r
  cases (show v=.int i from e);cases (show w=.int j from e')
  exact⟨i,j,rfl,q _ _ rfl hf⟩
 ·exact hf.elim
def xgr (xs:List Tr)(KK:Tr→Prop):Prop:=match xs with | [.int i,.int j]=>KK (.int (if j<i then j else i)) | _=>False
theorem xfj:CbS (fun xs H Q=>∃i j,xs=[.int i,.int j]∧Q (.int (if j<i then j else i)) H) xgr:=by
 intro F H vs ts KK Q r hf q
 unfold xgr at hf
 split at hf
 ·rename_i i j
  obtain⟨v,w,rfl,e,e'⟩:=xdg r
  cases (show v=.int i from e);cases (show w=.int j from e')
  exact⟨i,j,rfl,q _ _ rfl hf⟩
 ·exact hf.elim
theorem ft:∀ {ns:List Int} {ws:List V},zi F H (ns.map Tr.int) ws→ws=ns.map V.int
 | [],_,h=>h
 | n::ns,_,⟨w,r,e,h1,h2⟩=>by
  cases (show w=.int n from h1)
  rw[e,ft h2];rfl
theorem oP:∀ {ns:List Bool} {ws:List V},zi F H (ns.map Tr.bl) ws→ws=ns.map V.bl
 | [],_,h=>h
 | n::ns,_,⟨w,r,e,h1,h2⟩=>by
  cases (show w=.bl n from h1)
  rw[e,oP h2];rfl
def xhK (xs:List Tr)(KK:Tr→Prop):Prop:=∃bs:List Bool,xs=[.lst (bs.map Tr.bl)]∧KK (.bl (bs.all id))
theorem rp:CbS (xes K) xhK:=by
 intro F H vs ts KK Q r hf q
 obtain⟨ns,rfl,h1⟩:=hf
 obtain⟨v,rfl,a,ws,e,n,ha,rl⟩:=fG r
 rw[oP rl] at ha
 exact⟨a,ns,by rw[e],SqL.of ha,q _ _ rfl h1⟩
def tyT:Tr→String
 | .non => "NoneType" | .bl _ => "bool" | .int _ => "int" | .str _ => "str" | .emp => "dict" | .tup _ => "tuple" | .lst _ => "list"
theorem xgv (r:Rep F H t v):tyN H v=some (tyT t):=by
 cases t with
 | non=>cases (show v=.non from r);rfl
 | bl b=>cases (show v=.bl b from r);rfl
 | int b=>cases (show v=.int b from r);rfl
 | str b=>cases (show v=.str b from r);rfl
 | emp=>obtain⟨a,e,_,h⟩:=r;subst e;simp only[tyN,h,tyT]
 | tup ts=>obtain⟨a,ws,e,_,h,_⟩:=r;subst e;simp only[tyN,h,tyT]
 | lst ts=>obtain⟨a,ws,e,_,h,_⟩:=r;subst e;simp only[tyN,h,tyT]
def xin (c:String)(t:Tr):Bool:=match c,t with
 | "int", .int _=>true | "int", .bl _=>true | "bool", .bl _=>true | "str", .str _=>true | "tuple", .tup _=>true | "list", .lst _=>true | "dict", .emp=>true | _,_=>false
theorem xep (h:c∈jZ)(t:Tr):xeS (tyT t) c=xin c t:=by
 simp only[jZ,xkE,xkT,xls] at h
 rcases h with rfl | rfl | rfl | rfl | rfl | rfl<;>cases t<;>rfl
def xiZ (c:String)(d:DE):DE:=fun τ KK=>d τ fun x=>KK (.bl (xin c x))
theorem kW (h:OkE K b te d)(hc:c∈jZ:=by decide):OkE K true (tCB xiB (vD te (vD (tC (.ty c)) lR))) (xiZ c d):=fun B φ σ τ H Q KK R hd q =>
 h B φ σ τ H _ _ R hd fun t v H1 x1 k1 r1=>⟨v,c,tyT t,rfl,xgv r1,hc,by rw[xep hc];exact q _ _ H1 x1 k1 rfl⟩
def xd9 (xs:List Tr)(KK:Tr→Prop):Prop:=match xs with | [.tup ts]=>KK (.tup ts) | [.lst ts]=>KK (.tup ts) | _=>False
theorem tI (ha:OkA K b n ta da):OkE K b (tCB (xev K) ta) (dCB xd9 da):=fun B φ σ τ H Q KK R hd q =>
 ha B φ σ τ H _ _ R hd fun ts vs H1 x1 k1 l1 r1=>by
  unfold xd9 at k1
  split at k1
  ·rename_i ts
   obtain⟨v,rfl,r⟩:=fG r1
   obtain⟨a,ws,e,n,ha,rl⟩:=id r
   exact⟨a,ws,by rw[e],.inr ⟨SqT.of ha,by rw[←e];exact q _ _ H1 x1 k1 r⟩⟩
  ·rename_i ts
   obtain⟨v,rfl,a,ws,e,n,ha,rl⟩:=fG r1
   exact⟨a,ws,by rw[e],.inl ⟨SqL.of ha,fun p hp=>q _ _ _ (x1.trans (HX.new (R.hx x1) hp _)) k1 ⟨p,_,rfl,fun z=>(R.hx x1).domB z hp,x9,uu hp rl⟩⟩⟩
  ·exact k1.elim
def xf7 (i:Nat):DE:=fun τ KK=>match nth τ i with | .ow ts=>KK (.tup ts) | _=>False
theorem xbp:OkE K true (tCB (xev K) (vD (sZ i) lR)) (xf7 i):=fun B φ σ τ H Q KK R hd q=>by
 have en:=R.ent i
 unfold xf7 at hd
 revert en hd
 cases hi:nth τ i with
 | ow ts =>
  intro hd ⟨a,ws,e1,e2,e3,e4,r⟩
  exact⟨_,e1,a,ws,rfl,.inl ⟨SqL.of e4,fun p hp=>q _ _ _ (HX.new R hp _) hd ⟨p,_,rfl,fun z=>R.dom z hp,x9,uu hp r⟩⟩⟩
 | _=>exact fun z _=>z.elim
def xef (i:Nat):DE:=fun τ KK=>match nth τ i with | .sc ns=>ns.length≤63→KK (.int ns.length) | _=>False
theorem xci:OkE K true (tCB (xeN K) (vD (sZ i) lR)) (xef i):=fun B φ σ τ H Q KK R hd q=>by
 have en:=R.ent i
 unfold xef at hd
 revert en hd
 cases hi:nth τ i with
 | sc ns =>
  intro hd ⟨a,e,l,so,_⟩
  have sq:SqL K H a (ns.map V.int):=by
   rcases so with ⟨o,h⟩ | h
   ·exact .inl (.inr ⟨o,h⟩)
   ·exact h H
  refine⟨_,e,a,_,rfl,.inl sq,?_⟩
  rw[xkr]
  exact q _ _ H (HX.refl R) (hd l) rfl
 | _=>exact fun z _=>z.elim
end
end L2
namespace L2
open PySem PySem.Spec PyProof.Rows
abbrev TSp:=List Tr→(Tr→Prop)→Prop
def spT (n:Nat)(st fr:Bool)(sp:TSp):Sp:=fun vs H Q _=>∃(F S:Addr→Prop) (ts:List Tr) (KK:Tr→Prop) (us:List V),
 (match st with | true=>∃p,vs=.ref p::us∧S p | false=>vs=us)∧(∀a,F a→H a≠none)∧(∀a,S a→F a)∧(∀a,S a→bj a H)∧zi F H ts us∧ts.length=n∧sp ts KK ∧
 ∀t v H',KK t→(∀a o,H a=some o→¬S a→H' a=some o)→(∀a,S a→bj a H')→Rep F H' t v→(fr=true→FrL F H H' t v)→Q v H'
def xct (sp:TSp)(da:DA):DE:=fun τ KK=>da τ fun ts=>sp ts KK
def xee (i:Nat)(sp:TSp)(da:DA):DE:=fun τ KK=>match nth τ i with | .st=>da τ fun ts=>sp ts KK | _=>False
section
variable {K:PySem.W.Frag} {B:FB} {φ:Phi} {σ:St} {τ:TSt} {H H' H'':Hp}
theorem xy (ha:OkA K b n ta da):OkE K b (xgi (spT n false fr sp) ta) (xct sp da):=fun B φ σ τ H Q KK R hd q =>
 ha B φ σ τ H _ _ R hd fun ts vs H1 x1 k1 l1 r1=>⟨AvB b B φ τ,SA B φ τ,ts,KK,vs,rfl,fun a z=>(R.hx x1).domB z,fun a z=>R.sB z,x1.st,r1,l1,k1,fun t v H' k e s r _=>q t v H' (x1.trans ⟨e,s⟩) k r⟩
theorem xa1 (ha:OkA K true n ta da):OkF K (xgi (spT n false true sp) ta) (xct sp da):=fun B φ σ τ H Q KK R hd q =>
 ha B φ σ τ H _ _ R hd fun ts vs H1 x1 k1 l1 r1=>⟨Av B φ,SA B φ τ,ts,KK,vs,rfl,fun a z=>(R.hx x1).dom z,fun a z=>R.sAv z,x1.st,r1,l1,k1,fun t v H' k e s r f=>by
  obtain⟨a,ts',ws,rfl,rfl,h1,h2,h3⟩:=f rfl
  exact q ts' a ws H' (x1.trans ⟨e,s⟩) k (x1.none h1) h2 h3⟩
theorem yS (ha:OkA K b n ta da):OkE K b (xgi (spT n true fr sp) (vD (sZ i) ta)) (xee i sp da):=fun B φ σ τ H Q KK R hd q=>by
 have en:=R.ent i
 unfold xee at hd
 revert en hd
 cases hi:nth τ i with
 | st =>
  intro hd ⟨p,e1,e2,e3⟩
  exact⟨_,e1,ha B φ σ τ H _ _ R hd fun ts vs H1 x1 k1 l1 r1=>⟨AvB b B φ τ,SA B φ τ,ts,KK,vs,⟨p,rfl,.inr ⟨i,e2,hi⟩⟩,fun a z=>(R.hx x1).domB z,fun a z=>R.sB z,x1.st,r1,l1,k1,fun t v H' k e s r _=>q t v H' (x1.trans ⟨e,s⟩) k r⟩⟩
 | _=>exact fun z _=>z.elim
def Phi.del (φ:Phi)(i:Nat):Phi:=fun j=>if j=i then none else φ j
def Phi.put (φ:Phi)(i:Nat)(a:Addr):Phi:=fun j=>if j=i then some a else φ j
theorem w5 (h:φ.del i j=some a):j≠i∧φ j=some a:=by
 unfold Phi.del at h
 by_cases e:j=i
 ·rw[if_pos e] at h;cases h
 ·rw[if_neg e] at h;exact⟨e,h⟩
theorem xdG (h:j≠i):φ.del i j=φ j:=if_neg h
theorem qi (h:φ.put i a j=some c):(j=i∧c=a)∨(j≠i∧φ j=some c):=by
 unfold Phi.put at h
 by_cases e:j=i
 ·rw[if_pos e] at h;cases h;exact .inl ⟨e,rfl⟩
 ·rw[if_neg e] at h;exact .inr ⟨e,h⟩
theorem oN:φ.put i a i=some a:=if_pos rfl
theorem xg4 (h:j≠i):φ.put i a j=φ j:=if_neg h
theorem jI (h:Av B (φ.del i) a):Av B φ a:=by
 rcases h with h | ⟨j,h⟩
 ·exact .inl h
 ·exact .inr ⟨j,(w5 h).2⟩
theorem gU (h:Ent K B φ H i o x)(hφ:φ' i=φ i)(hr:∀t v,Rep (Av B φ) H t v→Rep (Av B φ') H' t v)(hrl:∀t v,zi (Av B φ) H t v→zi (Av B φ') H' t v)
  (hl:∀a ws ts,x=.ow ts→φ i=some a→H a=some (.lst ws)→H' a=some (.lst ws)) (hs:∀a ns,xdd K H a ns→xdd K H' a ns):Ent K B φ' H' i o x:=by
 cases x with
 | un=>trivial
 | fz t=>obtain⟨v,e,r⟩:=h;exact⟨v,e,hr t v r⟩
 | ow ts=>obtain⟨a,ws,e1,e2,e3,e4,r⟩:=h;exact⟨a,ws,e1,hφ.trans e2,e3,hl a ws ts rfl e2 e4,hrl _ _ r⟩
 | st=>obtain⟨p,e1,e2,e3⟩:=h;exact⟨p,e1,hφ.trans e2,e3⟩
 | sc ns=>obtain⟨a,e,l,q⟩:=h;exact⟨a,e,l,hs a ns q⟩
 | ob a=>exact h
theorem RS.setFz (R:RS K B φ σ τ H)(r:Rep (Av B φ) H t v):RS K B (φ.del i) (σ.set i (some v)) (τ.set i (.fz t)) H where
 f0:=R.f0
 s0:=R.s0
 ext:=R.ext
 sst:=fun a s=>by
  rcases s with s | ⟨j,s,hj⟩
  ·exact R.sst a (.inl s)
  ·obtain⟨hne,s'⟩:=w5 s
   rw[yI hne] at hj
   exact R.sst a (.inr ⟨j,s',hj⟩)
 inj:=fun j k a ts hj e1 e2=>by
  obtain⟨hne,e1⟩:=w5 e1
  rw[yI hne] at hj
  exact R.inj j k a ts hj e1 (w5 e2).2
 ow:=fun j a e=>R.ow j a (w5 e).2
 len:=by rw[xku,xku];exact R.len
 ent:=fun j=>by
  have mono:∀t v,Rep (Av B φ) H t v→Rep (Av B (φ.del i)) H t v:=fun t v=>yz (fun a o e n=>⟨e,fun z=>n (jI z)⟩) t v
  by_cases e:j=i
  ·subst e
   by_cases hl:j<τ.length
   ·rw[zw hl]
    exact⟨v,by rw[xkk (by rw[R.len];exact hl)],mono _ _ r⟩
   ·rw[ub (by rw[xku];omega)];trivial
  ·rw[yI e,xkj (Ne.symm e)]
   exact gU (R.ent j) (xdG e) mono (fun t v=>yl (fun a o e n=>⟨e,fun z=>n (jI z)⟩) t v) (fun _ _ _ _ _ z=>z) fun _ _ z=>z
 gh:=fun p hp=>yz (fun a o e n=>⟨e,fun z=>n (jI z)⟩) _ _ (R.gh p hp)
theorem RS.setNew (R:RS K B φ σ τ H)(hx:HX B φ τ H H')(ha:H a=none)(ha':H' a≠none)(hst:x=.st→bj a H')
  (hen:Ent K B (φ.put i a) H' i (some (some (.ref a))) x):RS K B (φ.put i a) (σ.set i (some (.ref a))) (τ.set i x) H':=by
 have R':=R.hx hx
 have nav:∀c,c≠a→Av B (φ.put i a) c→Av B φ c:=fun c hc z=>by
  rcases z with z | ⟨j,z⟩
  ·exact .inl z
  ·rcases qi z with ⟨_,e⟩ | ⟨_,e⟩
   ·exact absurd e hc
   ·exact .inr ⟨j,e⟩
 have mv:∀c o,H c=some o→¬Av B φ c→H' c=some o∧¬Av B (φ.put i a) c:=fun c o e n=>⟨hx.keep c o e fun s=>n (R.sAv s),fun z=>n (nav c (xI e ha) z)⟩
 refine⟨R.f0,R.s0,R'.ext,fun c s=>?_,fun j k c ts hj e1 e2=>?_,fun j c e=>?_,?_,fun j=>?_,fun p hp=>yz mv _ _ (R.gh p hp)⟩
 ·rcases s with s | ⟨j,s,hj⟩
  ·exact R'.sst c (.inl s)
  ·rcases qi s with ⟨rfl,rfl⟩ | ⟨hne,s'⟩
   ·by_cases hl:j<τ.length
    ·rw[zw hl] at hj
     exact hst hj
    ·rw[ub (by rw[xku];omega)] at hj;cases hj
   ·rw[yI hne] at hj
    exact R'.sst c (.inr ⟨j,s',hj⟩)
 ·have key:∀j:Nat,φ j=some a→False:=fun j e=>R.ow j a e ha
  rcases qi e1 with ⟨z1,z2⟩ | ⟨n1,f1⟩
  ·rcases qi e2 with ⟨z3,_⟩ | ⟨n2,f2⟩
   ·rw[z1,z3]
   ·exact(key k (by rw[←z2];exact f2)).elim
  ·rcases qi e2 with ⟨z3,z4⟩ | ⟨n2,f2⟩
   ·exact(key j (by rw[←z4];exact f1)).elim
   ·rw[yI n1] at hj
    exact R.inj j k c ts hj f1 f2
 ·rcases qi e with ⟨_,rfl⟩ | ⟨_,e⟩
  ·exact ha'
  ·exact R'.ow j c e
 ·rw[xku,xku];exact R.len
 ·by_cases e:j=i
  ·subst e
   by_cases hl:j<τ.length
   ·rw[zw hl,xkk (by rw[R.len];exact hl)]
    exact hen
   ·rw[ub (by rw[xku];omega)];trivial
  ·rw[yI e,xkj (Ne.symm e)]
   refine gU (R.ent j) (xg4 e) (fun t v=>yz mv t v) (fun t v=>yl mv t v) (fun c ws ts hj e1 e2=>?_) fun c ns z=>?_
   ·refine hx.keep c _ e2 fun s=>?_
    rcases s with s | ⟨k,s,hk⟩
    ·have en:=R.ent j
     rw[hj] at en
     obtain⟨a',ws',_,q2,q3,_⟩:=en
     rw[e1] at q2;cases q2
     exact R.f0 c (R.s0 c s) q3
    ·have:=R.inj j k c ts hj e1 s
     subst this
     rw[hj] at hk;cases hk
   ·refine⟨?_,z.2.hx R hx⟩
    rcases z.1 with ⟨o,z⟩ | z
    ·exact .inl ⟨o,hx.keep c _ z (tj R z)⟩
    ·exact .inr z
theorem RS.wrOw (R:RS K B φ σ τ H)(hi:nth τ i=.ow ts)(e1:σ[i]? = some (some (.ref a)))(r:zi (Av B φ) H ts' ws'):RS K B φ σ (τ.set i (.ow ts')) (upd H a (.lst ws')):=by
 have en:=R.ent i
 rw[hi] at en
 obtain⟨a',ws,e1',e2,e3,e4,_⟩:=en
 rw[e1] at e1';cases e1'
 have hl:i<τ.length:=by
  by_cases h:i<τ.length
  ·exact h
  ·rw[ub (by omega)] at hi;cases hi
 have mv:∀c o,H c=some o→¬Av B φ c→(upd H a (.lst ws')) c=some o∧¬Av B φ c:=fun c o e n=>⟨by rw[xX (fun z=>n (by rw[z];exact .inr ⟨i,e2⟩))];exact e,n⟩
 have nsa:∀c,SA B φ (τ.set i (.ow ts')) c→SA B φ τ c∧c≠a:=fun c s=>by
  rcases s with s | ⟨j,s,hj⟩
  ·exact⟨.inl s,fun z=>R.f0 a (R.s0 a (z▸s)) e3⟩
  ·by_cases e:j=i
   ·subst e
    rw[zw hl] at hj;cases hj
   ·rw[yI e] at hj
    exact⟨.inr ⟨j,s,hj⟩,fun z=>e (R.inj i j a ts hi e2 (z▸s)).symm⟩
 refine⟨R.f0,R.s0,fun c o e n=>?_,fun c s=>?_,fun j k c us hj f1 f2=>?_,fun j c e=>?_,by rw[xku];exact R.len,fun j=>?_,fun p hp=>yz mv _ _ (R.gh p hp)⟩
 ·rw[xX (xI e e3)];exact R.ext c o e n
 ·obtain⟨s',hne⟩:=nsa c s
  obtain⟨n,b,q,z⟩:=R.sst c s'
  exact⟨n,b,by rw[xX hne];exact q,z⟩
 ·by_cases e:j=i
  ·subst e;exact R.inj j k c ts hi f1 f2
  ·rw[yI e] at hj
   exact R.inj j k c us hj f1 f2
 ·by_cases z:c=a
  ·rw[z,x9];exact fun z=>nomatch z
  ·rw[xX z];exact R.ow j c e
 ·by_cases e:j=i
  ·subst e
   rw[zw hl]
   exact⟨a,ws',e1,e2,e3,x9,yl mv _ _ r⟩
  ·rw[yI e]
   refine gU (R.ent j) rfl (fun t v=>yz mv t v) (fun t v=>yl mv t v) (fun c us vs hj f1 f2=>?_) fun c ns z=>?_
   ·rw[xX (fun(z:c=a)=>e (R.inj i j a ts hi e2 (by rw[←z];exact f1)).symm)];exact f2
   ·refine⟨?_,fun P q h=>by rw[xX (xgG (z.2 P q h) e4 (fun q=>nomatch q))];exact z.2 P q h⟩
    rcases z.1 with ⟨o,z⟩ | z
    ·exact .inl ⟨o,by rw[xX (xgG z e4 (fun q=>nomatch q))];exact z⟩
    ·exact .inr z
theorem RS.freeze (R:RS K B φ σ τ H)(hi:nth τ i=.ow ts):RS K B (φ.del i) σ (τ.set i (.fz (.lst ts))) H:=by
 have en:=R.ent i
 rw[hi] at en
 obtain⟨a,ws,e1,e2,e3,e4,r⟩:=en
 have hl:i<τ.length:=by
  by_cases h:i<τ.length
  ·exact h
  ·rw[ub (by omega)] at hi;cases hi
 have na:¬Av B (φ.del i) a:=fun z=>by
  rcases z with z | ⟨j,z⟩
  ·exact R.f0 a z e3
  ·obtain⟨n,z⟩:=w5 z
   exact n (R.inj i j a ts hi e2 z).symm
 refine⟨R.f0,R.s0,R.ext,fun c s=>?_,fun j k c us hj f1 f2=>?_,fun j c e=>R.ow j c (w5 e).2,by rw[xku];exact R.len,fun j=>?_,fun p hp=>yz (fun a o e n=>⟨e,fun z=>n (jI z)⟩) _ _ (R.gh p hp)⟩
 ·rcases s with s | ⟨j,s,hj⟩
  ·exact R.sst c (.inl s)
  ·obtain⟨hne,s'⟩:=w5 s
   rw[yI hne] at hj
   exact R.sst c (.inr ⟨j,s',hj⟩)
 ·obtain⟨hne,f1⟩:=w5 f1
  rw[yI hne] at hj
  exact R.inj j k c us hj f1 (w5 f2).2
 ·by_cases e:j=i
  ·subst e
   rw[zw hl]
   exact⟨.ref a,e1,a,ws,rfl,na,e4,yl (fun a o e n=>⟨e,fun z=>n (jI z)⟩) _ _ r⟩
  ·rw[yI e]
   exact gU (R.ent j) (xdG e) (fun t v=>yz (fun a o e n=>⟨e,fun z=>n (jI z)⟩) t v) (fun t v=>yl (fun a o e n=>⟨e,fun z=>n (jI z)⟩) t v) (fun _ _ _ _ _ z=>z) fun _ _ z=>z
def OkN (K:PySem.W.Frag)(g:TG)(d:DG):Prop:=∀(B:FB) (φ:Phi) (σ:St) (τ:TSt) (H:Hp) (F:Addr→Prop) (t:Tr) (v:V) (Q:St→Hp→Prop) (KK:TSt→Prop),RS K B φ σ τ H→(∀a,Av B φ a→F a)→Rep F H t v→d t τ KK →
 (∀ φ' σ' τ',RS K B φ' σ' τ' H→(∀a,Av B φ' a→Av B φ a)→KK τ'→Q σ' H)→g v σ H Q
def xgP (K:PySem.W.Frag)(g:TGs)(d:DGs):Prop:=∀(B:FB) (φ:Phi) (σ:St) (τ:TSt) (H:Hp) (F:Addr→Prop) (t:List Tr) (v:List V) (Q:St→Hp→Prop) (KK:TSt→Prop),RS K B φ σ τ H→(∀a,Av B φ a→F a)→zi F H t v→d t τ KK →
 (∀ φ' σ' τ',RS K B φ' σ' τ' H→(∀a,Av B φ' a→Av B φ a)→KK τ'→Q σ' H)→g v σ H Q
def eName (i:Nat):DG:=fun t τ KK=>KK (τ.set i (.fz t))
def xgc:DGs:=fun ts τ KK=>match ts with | []=>KK τ | _=>False
def cj (d:DG)(r:DGs):DGs:=fun ts τ KK=>match ts with | t::us=>d t τ fun τ'=>r us τ' KK | []=>False
def xhR (n:Nat)(d:DGs):DG:=fun t τ KK=>match t with | .tup ts=>ts.length=n∧d ts τ KK | _=>False
theorem xk:OkN K (gJ i) (eName i):=fun B φ σ τ H F t v Q KK R hF r hd q =>
 q (φ.del i) _ _ (R.setFz (yz (fun a o e n=>⟨e,fun z=>n (hF a z)⟩) _ _ r)) (fun a z=>jI z) hd
theorem ye:xgP K xhs xgc:=fun B φ σ τ H F t v Q KK R hF r hd q=>by
 cases t with
 | nil=>exact⟨r,q φ σ τ R (fun _ z=>z) hd⟩
 | cons _ _=>exact hd.elim
theorem xl (h:OkN K g d)(hs:xgP K gs ds):xgP K (xcB g gs) (cj d ds):=fun B φ σ τ H F t v Q KK R hF r hd q=>by
 cases t with
 | nil=>exact hd.elim
 | cons t ts =>
  obtain⟨w,r',e,h1,h2⟩:=r
  exact⟨w,r',e,h B φ σ τ H F t w _ _ R hF h1 hd fun φ' σ' τ' R' ha k=>hs B φ' σ' τ' H F ts r' Q KK R' (fun a z=>hF a (ha a z)) h2 k fun φ2 σ2 τ2 R2 ha2 k2=>q φ2 σ2 τ2 R2 (fun a z=>ha a (ha2 a z)) k2⟩
theorem yw (h:xgP K gs ds):OkN K (xgW K n gs) (xhR n ds):=fun B φ σ τ H F t v Q KK R hF r hd q=>by
 cases t with
 | tup ts =>
  obtain⟨a,ws,e,n,ha,rl⟩:=r
  exact⟨a,ws,e,SqT.of ha,by rw[←rl.len];exact hd.1,h B φ σ τ H F ts ws Q KK R hF rl hd.2 q⟩
 | _=>exact hd.elim
theorem OkN.g {g:TG}{d:DG}(h:OkN K g d):OkG K g d:=fun B φ σ τ H t v Q KK R r hd q=>h B φ σ τ H (Av B φ) t v Q KK R (fun _ z=>z) r hd fun φ' σ' τ' R' ha k=>q φ' σ' τ' H R' ha (fun _ _ e _=>e) k
def xfZ (ts:List Tr)(t:Tr):Int→Option (List Tr)
 | .ofNat n=>if n<ts.length then some (ts.set n t) else none
 | .negSucc n=>if n<ts.length then some (ts.set (ts.length-1-n) t) else none
def xhn (i:Nat)(di:DE):DG:=fun t τ KK=>match nth τ i with
 | .ow ts=>di τ fun y=>match y with | .int k=>(match xfZ ts t k with | some us=>KK (τ.set i (.ow us)) | none=>False) | _=>False
 | _=>False
theorem xe5 (h:xfZ ts t k=some us):∃j,ixN ts.length k=some j∧us=ts.set j t:=by
 unfold ixN
 cases k with
 | ofNat n =>
  have h:(if n<ts.length then some (ts.set n t) else none)=some us:=h
  by_cases hn:n<ts.length
  ·rw[if_pos hn] at h;cases h
   refine⟨n,?_,rfl⟩
   have h0:(0:Int)≤Int.ofNat n:=xjQ n
   have h1:Int.ofNat n<(ts.length:Int):=Int.ofNat_lt.mpr hn
   rw[if_pos h0,if_pos h1];rfl
  ·rw[if_neg hn] at h;cases h
 | negSucc n =>
  have h:(if n<ts.length then some (ts.set (ts.length-1-n) t) else none)=some us:=h
  by_cases hn:n<ts.length
  ·rw[if_pos hn] at h;cases h
   refine⟨ts.length-1-n,?_,rfl⟩
   rw[if_neg (by omega),if_pos (by omega)]
   congr 1;omega
  ·rw[if_neg hn] at h;cases h
theorem oz (r:Rep F H t v):∀ {ts:List Tr} {ws:List V} (j:Nat),zi F H ts ws→zi F H (ts.set j t) (ws.set j v)
 | [],_,_,h=>by cases (show _=[] from h);exact rfl
 | _::_,_,0,⟨w,r',e,h1,h2⟩=>⟨v,r',by rw[e];rfl,r,h2⟩
 | _::ts,_,j+1,⟨w,r',e,h1,h2⟩=>⟨w,r'.set j v,by rw[e];rfl,h1,oz r j h2⟩
theorem cP (h:OkE K b ti di):OkG K (xir (sZ i) ti xgq) (xhn i di):=fun B φ σ τ H t v Q KK R r hd q=>by
 have en:=R.ent i
 unfold xhn at hd
 revert en hd
 cases hi:nth τ i with
 | ow ts =>
  intro hd ⟨a,ws,e1,e2,e3,e4,r0⟩
  refine⟨_,e1,h B φ σ τ H _ _ R hd fun u w H1 x1 k1 r1=>?_⟩
  obtain⟨ws',f4,f5,_⟩:=kK R x1 hi e1
  cases u with
  | int k =>
   cases (show w=.int k from r1)
   cases e:xfZ ts t k with
   | none=>simp only[e] at k1
   | some us =>
    simp only[e] at k1
    obtain⟨j,hj,rfl⟩:=xe5 e
    refine⟨a,ws',k,j,rfl,rfl,f4,by rw[←f5.len];exact hj,?_⟩
    exact q φ σ _ _ ((R.hx x1).wrOw hi e1 (oz (x1.rep (fun a s=>R.sAv s) r) j f5)) (fun _ z=>z) (fun c o e n=>by rw[xX (fun z=>n (by rw[z];exact .inr ⟨i,e2⟩))];exact x1.keep c o e fun s=>n (R.sAv s)) k1
  | _=>exact k1.elim
 | _=>exact fun z _=>z.elim
theorem xc0:xhq K xhs xgc:=fun B φ σ τ H t v Q KK R r hd q=>by
 cases t with
 | nil=>exact⟨r,q φ σ τ H R (fun _ z=>z) (fun _ _ e _=>e) hd⟩
 | cons _ _=>exact hd.elim
theorem t5 (h:OkG K g d)(hs:xhq K gs ds):xhq K (xcB g gs) (cj d ds):=fun B φ σ τ H t v Q KK R r hd q=>by
 cases t with
 | nil=>exact hd.elim
 | cons t ts =>
  obtain⟨w,r',e,h1,h2⟩:=r
  exact⟨w,r',e,h B φ σ τ H t w _ _ R h1 hd fun φ' σ' τ' H' R' ha hx k=>hs B φ' σ' τ' H' ts r' Q KK R' (yl (fun a o e n=>⟨hx a o e n,fun z=>n (ha a z)⟩) _ _ h2) k fun φ2 σ2 τ2 H2 R2 ha2 hx2 k2 =>
   q φ2 σ2 τ2 H2 R2 (fun a z=>ha a (ha2 a z)) (fun a o e n=>hx2 a o (hx a o e n) fun z=>n (ha a z)) k2⟩
theorem xe3 (h:xhq K gs ds):OkG K (xgW K n gs) (xhR n ds):=fun B φ σ τ H t v Q KK R r hd q=>by
 cases t with
 | tup ts =>
  obtain⟨a,ws,e,n,ha,rl⟩:=r
  exact⟨a,ws,e,SqT.of ha,by rw[←rl.len];exact hd.1,h B φ σ τ H ts ws Q KK R rl hd.2 q⟩
 | _=>exact hd.elim
def xeO:DS:=fun G τ=>G.nx τ
def xfN (a b:DS):DS:=fun G τ=>a { G with nx:=b G } τ
def xg2:DS:=fun _ _=>False
def xhm (d:DE):DS:=fun G τ=>d τ G.rt
def sIf (c:DT)(a b:DS):DS:=fun G τ=>c τ fun k=>if k=true then a G τ else b G τ
def xht (i:Nat)(d:DE):DS:=fun G τ=>d τ fun t=>G.nx (τ.set i (.fz t))
def xhw (i:Nat)(d:DE):DS:=fun G τ=>d τ fun t=>match t with | .lst ts=>G.nx (τ.set i (.ow ts)) | _=>False
def xi9 (d:DE)(g:DG):DS:=fun G τ=>d τ fun t=>g t τ G.nx
def xjd (i j:Nat)(d:DA):DS:=fun G τ=>d τ fun ts=>match ts with | [t,u]=>G.nx ((τ.set i (.fz t)).set j (.fz u)) | _=>False
def xhv (d:DE):DS:=fun G τ=>d τ fun _=>G.nx τ
def xid (i:Nat)(d:DE):DS:=fun G τ=>match nth τ i with | .ow ts=>d τ fun t=>ts.length<sizeLine∧G.nx (τ.set i (.ow (ts++[t]))) | _=>False
def xiN (i:Nat)(a:DS):DS:=fun G τ=>match nth τ i with | .ow ts=>a G (τ.set i (.fz (.lst ts))) | _=>False
variable {fr:Bool}
theorem xN:OkS K fr xgY xeO:=fun B φ σ τ H E G R hd e=>e.nx φ σ τ H R hd
theorem qD:OkS K fr ot xg2:=fun B φ σ τ H E G R hd e=>hd.elim
theorem xj (ha:OkS K fr a da)(hb:OkS K fr b db):OkS K fr (xfG a b) (xfN da db):=fun B φ σ τ H E G R hd e =>
 ha B φ σ τ H _ _ R hd ⟨fun φ' σ' τ' H' R' k=>hb B φ' σ' τ' H' E G R' k e,e.bk,e.ct,e.rt⟩
theorem xB (h:OkE K b te d):OkS K false (xhg te) (xhm d):=fun B φ σ τ H E G R hd e =>
 h B φ σ τ H _ _ R hd fun t v H1 x1 k1 r1=>e.rt t v H1 (yz (fun a o e n=>⟨e,fun z=>n (.inl z)⟩) _ _ (xiK R r1)) (R.hx x1).extB k1 fun z=>nomatch z
theorem jB (h:OkF K te d):OkS K fr (xhg te) (xhm d):=fun B φ σ τ H E G R hd e =>
 h B φ σ τ H _ _ R hd fun ts a ws H1 x1 k1 h1 h2 h3=>by
  have z0:B.H0 a=none:=by
   cases q:B.H0 a with
   | none=>rfl
   | some o =>
    by_cases s:B.S0 a
    ·exact absurd h1 (R.sst a (.inl s)).ne_none
    ·rw[R.ext a o q s] at h1;cases h1
  have na:¬B.F0 a:=fun z=>R.dom (.inl z) h1
  have rr:zi (fun c=>B.F0 c∨c=a) H1 ts ws:=yl (fun c o e n=>⟨e,fun z=>n (z.elim (fun z=>.inl (.inl z)) .inr)⟩) _ _ h3
  exact e.rt (.lst ts) _ H1 ⟨a,ws,rfl,na,h2,yl (fun c o e n=>⟨e,fun z=>n (.inl z)⟩) _ _ rr⟩ (R.hx x1).extB k1 fun _=>⟨a,ts,ws,rfl,rfl,z0,h2,rr⟩
def xf_ (i:Nat):DS:=fun G τ=>match nth τ i with | .ow ts=>G.rt (.lst ts) | _=>False
theorem tw:OkS K fr (xhg (sZ i)) (xf_ i):=fun B φ σ τ H E G R hd e=>by
 have en:=R.ent i
 unfold xf_ at hd
 revert en hd
 cases hi:nth τ i with
 | ow ts =>
  intro hd ⟨a,ws,e1,e2,e3,e4,r⟩
  have na:¬B.F0 a:=fun z=>R.f0 a z e3
  have rr:zi (fun c=>B.F0 c∨c=a) H ts ws:=yl (fun c o e n=>⟨e,fun z=>n (z.elim .inl fun z=>.inr ⟨i,by rw[z];exact e2⟩)⟩) _ _ r
  exact⟨_,e1,e.rt (.lst ts) _ H ⟨a,ws,rfl,na,e4,yl (fun c o e n=>⟨e,fun z=>n (.inl z)⟩) _ _ rr⟩ R.extB hd fun _=>⟨a,ts,ws,rfl,rfl,e3,e4,rr⟩⟩
 | _=>exact fun z _=>z.elim
theorem yg (hc:OkT K c dc)(ha:OkS K fr a da)(hb:OkS K fr b db):OkS K fr (xhX c a b) (sIf dc da db):=fun B φ σ τ H E G R hd e =>
 hc B φ σ τ H _ _ R hd fun k H1 x1 k1=>by
  cases k with
  | true=>exact o9 (ha B φ σ τ H1 E G (R.hx x1) k1 e)
  | false=>exact bc (hb B φ σ τ H1 E G (R.hx x1) k1 e)
theorem xM (h:OkE K true te d):OkS K fr (xc2 te (gJ i)) (xht i d):=fun B φ σ τ H E G R hd e =>
 h B φ σ τ H _ _ R hd fun t v H1 x1 k1 r1=>e.nx _ _ _ H1 ((R.hx x1).setFz r1) k1
theorem zC (h:OkF K te d):OkS K fr (xc2 te (gJ i)) (xhw i d):=fun B φ σ τ H E G R hd e =>
 h B φ σ τ H _ _ R hd fun ts a ws H1 x1 k1 h1 h2 h3=>by
  have z0:B.H0 a=none:=by
   cases q:B.H0 a with
   | none=>rfl
   | some o =>
    by_cases s:B.S0 a
    ·exact absurd h1 (R.sst a (.inl s)).ne_none
    ·rw[R.ext a o q s] at h1;cases h1
  refine e.nx _ _ _ H1 (R.setNew (x:=.ow ts) x1 h1 (by rw[h2];exact fun z=>nomatch z) (fun z=>nomatch z) ⟨a,ws,rfl,oN,z0,h2,yl (fun c o e n=>⟨e,fun z=>n ?_⟩) _ _ h3⟩) k1
  rcases z with z | ⟨j,z⟩
  ·exact .inl (.inl z)
  ·rcases qi z with ⟨_,z⟩ | ⟨_,z⟩
   ·exact .inr z
   ·exact .inl (.inr ⟨j,z⟩)
theorem zK (h:OkE K true te d)(hg:OkG K g dg):OkS K fr (xc2 te g) (xi9 d dg):=fun B φ σ τ H E G R hd e =>
 h B φ σ τ H _ _ R hd fun t v H1 x1 k1 r1=>hg B φ σ τ H1 t v _ _ (R.hx x1) r1 k1 fun φ' σ' τ' H' R' _ _ k=>e.nx φ' σ' τ' H' R' k
theorem f_ (h:OkA K true n ta da):OkS K fr (xim i j ta) (xjd i j da):=fun B φ σ τ H E G R hd e =>
 h B φ σ τ H _ _ R hd fun ts vs H1 x1 k1 l1 r1=>by
  cases ts with
  | nil=>exact k1.elim
  | cons t ts =>
   cases ts with
   | nil=>exact k1.elim
   | cons u ts =>
    cases ts with
    | cons _ _=>exact k1.elim
    | nil =>
     obtain⟨v,w,rfl,h1,h2⟩:=xdg r1
     exact⟨v,w,rfl,e.nx _ _ _ H1 (((R.hx x1).setFz h1).setFz (yz (fun a o e n=>⟨e,fun z=>n (jI z)⟩) _ _ h2)) k1⟩
theorem xcI (h:OkE K b te d):OkS K fr (xcJ te) (xhv d):=fun B φ σ τ H E G R hd e =>
 h B φ σ τ H _ _ R hd fun t v H1 x1 k1 r1=>e.nx φ σ τ H1 (R.hx x1) k1
theorem qx (h:OkE K true te d):OkS K fr (xcJ (tBM K "list" xbS (sZ i) (vD te lR))) (xid i d):=fun B φ σ τ H E G R hd e=>by
 have en:=R.ent i
 unfold xid at hd
 revert en hd
 cases hi:nth τ i with
 | ow ts =>
  intro hd ⟨a,ws,e1,e2,e3,e4,r⟩
  refine⟨_,e1,.inl ⟨rfl,_,SqL.of e4⟩,h B φ σ τ H _ _ R hd fun t v H1 x1 k1 r1=>?_⟩
  obtain⟨ws',f4,f5,_⟩:=kK R x1 hi e1
  exact⟨a,ws',v,rfl,rfl,f4,by rw[←f5.len];exact k1.1,e.nx φ σ _ _ ((R.hx x1).wrOw hi e1 (f5.app (show zi _ _ [t] [v] from⟨v,[],rfl,r1,rfl⟩))) k1.2⟩
 | _=>exact fun z _=>z.elim
theorem xaK (h:OkS K fr a da):OkS K fr a (xiN i da):=fun B φ σ τ H E G R hd e=>by
 unfold xiN at hd
 revert hd
 cases hi:nth τ i with
 | ow ts=>exact fun hd=>h B _ σ _ H E G (R.freeze hi) hd e
 | _=>exact fun z=>z.elim
end
end L2
namespace L2
open PySem PySem.Spec PyProof.Rows
abbrev DI:=TSt→(List Tr→Prop)→Prop
def xdr (H H':Hp):Prop:=H'=H∨∃q o,H q=none∧H'=upd H q o
structure ItC (F S:Addr→Prop)(J:It)(ts:List Tr)(Src:Hp→Prop):Prop where
 stab:∀H H',Src H→(∀a o,H a=some o→¬S a→H' a=some o)→Src H'
 go:∀i H,Src H→i<ts.length→J.go i H
 stop:∀H,Src H→J.stop ts.length H
 yld:∀i H x H',Src H→(∀a,F a→H a≠none)→i<ts.length→J.yld i H x H'→xdr H H'∧∃t,ts[i]? = some t∧Rep F H' t x
structure ItL (J:It)(ts:List Tr)(G:List (Tr×V)):Prop where
 go:∀F H i,(∀p∈G,Rep F H p.1 p.2)→i<ts.length→J.go i H
 stop:∀F H,(∀p∈G,Rep F H p.1 p.2)→J.stop ts.length H
 yld:∀F i H x H',(∀p∈G,Rep F H p.1 p.2)→(∀a,F a→H a≠none)→i<ts.length→J.yld i H x H'→xdr H H'∧∃t,ts[i]? = some t∧Rep F H' t x
theorem ItL.c (h:ItL J ts G)(hS:∀a,S a→F a):ItC F S J ts (fun H=>∀p∈G,Rep F H p.1 p.2) where
 stab:=fun H H' s k p hp=>yz (fun a o e n=>⟨k a o e fun z=>n (hS a z),n⟩) _ _ (s p hp)
 go:=fun i H s hi=>h.go F H i s hi
 stop:=fun H s=>h.stop F H s
 yld:=fun i H x H' s d hi y=>h.yld F i H x H' s d hi y
def OkI (K:PySem.W.Frag)(b:Bool)(wi:TI)(d:DI):Prop:=∀(B:FB) (φ:Phi) (σ:St) (τ:TSt) (H:Hp) (R:It→Hp→Prop) (KK:List Tr→Prop),RS K B φ σ τ H→d τ KK →
 (∀J ts G H',HX B φ τ H H'→KK ts→ItL J ts G→(∀p∈G,Rep (AvB b B φ τ) H' p.1 p.2)→R J H')→wi σ H R
def xgK (K:PySem.W.Frag)(wi:TI)(d:DI):Prop:=∀(B:FB) (φ:Phi) (σ:St) (τ:TSt) (H:Hp) (R:It→Hp→Prop) (KK:List Tr→Prop),RS K B φ σ τ H→d τ KK →
 (∀J ts Src H',HX B φ τ H H'→KK ts→ItC (Av B φ) (SA B φ τ) J ts Src→Src H'→R J H')→wi σ H R
section
variable {K:PySem.W.Frag} {B:FB} {φ:Phi} {σ:St} {τ:TSt} {H H' H'':Hp} {fr:Bool}
theorem OkI.c (h:OkI K true wi d):xgK K wi d:=fun B φ σ τ H R KK Rs hd q=>h B φ σ τ H R KK Rs hd fun J ts G H' x k i s=>q J ts _ H' x k (i.c fun a z=>Rs.sAv z) s
def xiy (d:DE):DI:=fun τ KK=>d τ fun x=>match x with | .tup ts=>KK ts | .lst ts=>KK ts | _=>False
theorem xdq:ItL (Itl K a) ts [(.lst ts,.ref a)] where
 go:=fun F H i s hi=>by
  obtain⟨a',ws,e,n,h,r⟩:=s _ xkG
  cases e
  obtain⟨w,e1,_⟩:=r.getT (xke hi)
  exact⟨ws,w,SqL.of h,e1⟩
 stop:=fun F H s=>by
  obtain⟨a',ws,e,n,h,r⟩:=s _ xkG
  cases e
  exact⟨ws,SqL.of h,by rw[←r.len];exact xk7 _⟩
 yld:=fun F i H x H' s d hi y=>by
  obtain⟨a',ws,e,n,h,r⟩:=s _ xkG
  cases e
  obtain⟨rfl,y⟩:=y
  obtain⟨t,e1,e2⟩:=r.get (y ws (SqL.of h))
  exact⟨.inl rfl,t,e1,e2⟩
theorem xfb:ItL (Itt K a) ts [(.tup ts,.ref a)] where
 go:=fun F H i s hi=>by
  obtain⟨a',ws,e,n,h,r⟩:=s _ xkG
  cases e
  obtain⟨w,e1,_⟩:=r.getT (xke hi)
  exact⟨ws,w,SqT.of h,e1⟩
 stop:=fun F H s=>by
  obtain⟨a',ws,e,n,h,r⟩:=s _ xkG
  cases e
  exact⟨ws,SqT.of h,by rw[←r.len];exact xk7 _⟩
 yld:=fun F i H x H' s d hi y=>by
  obtain⟨a',ws,e,n,h,r⟩:=s _ xkG
  cases e
  obtain⟨rfl,y⟩:=y
  obtain⟨t,e1,e2⟩:=r.get (y ws (SqT.of h))
  exact⟨.inl rfl,t,e1,e2⟩
def xh_ (i:Nat):DI:=fun τ KK=>match nth τ i with | .ow ts=>KK ts | _=>False
theorem xdf:xgK K (xhT K (sZ i)) (xh_ i):=fun B φ σ τ H R KK Rs hd q=>by
 have en:=Rs.ent i
 unfold xh_ at hd
 revert en hd
 cases hi:nth τ i with
 | ow ts =>
  intro hd ⟨a,ws,e1,e2,e3,e4,r⟩
  refine⟨_,e1,a,rfl,⟨ws,SqL.of e4⟩,q _ ts (fun H=>H a=some (.lst ws)∧zi (Av B φ) H ts ws) H (HX.refl Rs) hd ⟨?_,?_,?_,?_⟩ ⟨e4,r⟩⟩
  ·intro H1 H2 ⟨s1,s2⟩ k
   exact⟨k a _ s1 fun z=>oq Rs hi e2 e3 (.inr z),yl (fun c o e n=>⟨k c o e fun z=>n (Rs.sAv z),n⟩) _ _ s2⟩
  ·intro j H1 ⟨s1,s2⟩ hj
   obtain⟨w,f1,_⟩:=s2.getT (xke hj)
   exact⟨ws,w,SqL.of s1,f1⟩
  ·intro H1 ⟨s1,s2⟩
   exact⟨ws,SqL.of s1,by rw[←s2.len];exact xk7 _⟩
  ·intro j H1 x H2 ⟨s1,s2⟩ _ hj ⟨f,y⟩
   subst f
   obtain⟨t,g1,g2⟩:=s2.get (y ws (SqL.of s1))
   exact⟨.inl rfl,t,g1,g2⟩
 | _=>exact fun z _=>z.elim
def xfd (lo:Int)(n:Nat):List Tr:=(List.range n).map fun(k:Nat)=>Tr.int (lo+k)
theorem wm (lo:Int)(n:Nat):(xfd lo n).length=n:=by unfold xfd;rw[xkr,List.length_range]
theorem g6 {lo:Int}{n i:Nat}(h:i<n):(xfd lo n)[i]? = some (.int (lo+i)):=by unfold xfd;rw[xkh,List.getElem?_range h];rfl
theorem xa5 {lo:Int}{n:Nat}:ItL (Itr lo n) (xfd lo n) [] where
 go:=fun F H i s hi=>by rw[wm] at hi;exact hi
 stop:=fun F H s=>by rw[wm];exact xk7 _
 yld:=fun F i H x H' s d hi y=>by
  rw[wm] at hi
  obtain⟨rfl,rfl⟩:=y
  exact⟨.inl rfl,_,g6 hi,rfl⟩
def xeo (d:DA):DI:=fun τ KK=>d τ fun xs=>match xs with | [.int j]=>(-(2 ^ 62)≤j∧j<2 ^ 62)∧KK (xfd 0 j.toNat) | _=>False
theorem wK (h:OkA K b n ta da):OkI K true (xgQ ta) (xeo da):=fun B φ σ τ H R KK Rs hd q =>
 h B φ σ τ H _ _ Rs hd fun ts vs H1 x1 k1 l1 r1=>by
  split at k1
  ·rename_i j
   obtain⟨v,rfl,e⟩:=fG r1
   exact⟨j,by rw[show v=.int j from e],k1.1.1,k1.1.2,q _ _ [] H1 x1 k1.2 xa5 fun p hp=>absurd hp (by simp)⟩
  ·exact k1.elim
def xce (dg:DG)(body:DS)(G:xbD):List Tr→TSt→Prop
 | [],τ=>G.nx τ
 | x::xs,τ=>dg x τ fun τ'=>body { G with nx:=xce dg body G xs,ct:=xce dg body G xs,bk:=G.nx } τ'
def xh9 (di:DI)(dg:DG)(body:DS):DS:=fun G τ=>di τ fun xs=>xce dg body G xs τ
def FB.more (B:FB)(G:List (Tr×V)):FB:={ B with G0:=G++B.G0 }
theorem RS.more (R:RS K B φ σ τ H)(h:∀p∈G,Rep (Av B φ) H p.1 p.2):RS K (B.more G) φ σ τ H :=
 ⟨R.f0,R.s0,R.ext,R.sst,R.inj,R.ow,R.len,R.ent,fun p hp=>(xkB.mp hp).elim (h p) (R.gh p)⟩
theorem RS.less (R:RS K (B.more G) φ σ τ H):RS K B φ σ τ H∧∀p∈G,Rep (Av B φ) H p.1 p.2 :=
 ⟨⟨R.f0,R.s0,R.ext,R.sst,R.inj,R.ow,R.len,R.ent,fun p hp=>R.gh p (xkD _ hp)⟩,fun p hp=>R.gh p (xkC _ hp)⟩
theorem xdr.hx (R:RS K B φ σ τ H)(g:xdr H H'):HX B φ τ H H':=by
 rcases g with rfl | ⟨q,o,e,rfl⟩
 ·exact HX.refl R
 ·exact HX.new R e o
theorem yU (hi:OkI K true wi di)(hg:OkG K g dg)(hb:OkS K fr tb db):OkS K fr (xiR wi g tb) (xh9 di dg db):=fun B φ σ τ H E G R hd e =>
 hi B φ σ τ H _ _ R hd fun J ts Gh H1 x1 k1 it gh=>by
  let W:Nat→St→Hp→Prop:=fun i σ' H'=>i≤ts.length∧∃ φ' τ',RS K (B.more Gh) φ' σ' τ' H'∧xce dg db G (ts.drop i) τ'
  refine⟨fun i m σ' H'=>m=ts.length-i∧W i σ' H',⟨_,rfl,xlh _,φ,τ,(R.hx x1).more gh,k1⟩,?_⟩
  rintro i m σ' H' ⟨rfl,hle,φ',τ',R',f⟩
  obtain⟨R0,g0⟩:=R'.less
  by_cases hlt:i<ts.length
  ·refine .inr ⟨it.go _ H' i g0 hlt,W (i+1),fun σ2 H2 w=>⟨_,by omega,rfl,w⟩,fun x H2 y=>?_⟩
   obtain⟨gr,t,ht,rt⟩:=it.yld _ i H' x H2 g0 (fun a z=>R0.dom z) hlt y
   have hx:=gr.hx R'
   have R2:=R'.hx hx
   have ed:ts.drop i=t::ts.drop (i+1):=by
    rw[xj1 hlt]
    rw[xke hlt] at ht
    cases ht;rfl
   rw[ed] at f
   refine hg (B.more Gh) φ' σ' τ' H2 t x _ _ R2 rt f fun φ3 σ3 τ3 H3 R3 _ _ k3=>?_
   exact hb (B.more Gh) φ3 σ3 τ3 H3 _ _ R3 k3 ⟨fun φ4 σ4 τ4 H4 R4 k4=>⟨hlt,φ4,τ4,R4,k4⟩,fun φ4 σ4 τ4 H4 R4 k4=>e.nx φ4 σ4 τ4 H4 R4.less.1 k4,fun φ4 σ4 τ4 H4 R4 k4=>⟨hlt,φ4,τ4,R4,k4⟩,fun t v H r x k f=>e.rt t v H r ⟨x.ext,x.st⟩ k f⟩
  ·have ei:i=ts.length:=by omega
   subst ei
   rw[xj2] at f
   exact .inl ⟨it.stop _ H' g0,e.nx φ' σ' τ' H' R0 f⟩
def xeu (c:DT)(body:DS)(G:xbD):Nat→TSt→Prop
 | 0,_=>False
 | n+1,τ=>c τ fun b=>if b=true then body { G with nx:=xeu c body G n,ct:=xeu c body G n,bk:=G.nx } τ else G.nx τ
def xei (c:DT)(body:DS):DS:=fun G τ=>∃n,xeu c body G n τ
theorem my (hc:OkT K c dc)(hb:OkS K fr tb db):OkS K fr (xdx c tb) (xei dc db):=fun B φ σ τ H E G R hd e=>by
 obtain⟨n,hd⟩:=hd
 refine⟨fun m σ' H'=>∃ φ' τ',RS K B φ' σ' τ' H'∧xeu dc db G m τ',⟨n,φ,τ,R,hd⟩,?_⟩
 rintro m σ' H' ⟨φ',τ',R',f⟩
 cases m with
 | zero=>exact f.elim
 | succ m =>
  refine hc B φ' σ' τ' H' _ _ R' f fun b H1 x1 k1=>?_
  cases b with
  | true =>
   refine o9 ⟨fun σ2 H2=>∃ φ2 τ2,RS K B φ2 σ2 τ2 H2∧xeu dc db G m τ2,fun σ2 H2 w=>⟨m,by omega,w⟩,?_⟩
   exact hb B φ' σ' τ' H1 _ _ (R'.hx x1) k1 ⟨fun φ4 σ4 τ4 H4 R4 k4=>⟨φ4,τ4,R4,k4⟩,fun φ4 σ4 τ4 H4 R4 k4=>e.nx φ4 σ4 τ4 H4 R4 k4,fun φ4 σ4 τ4 H4 R4 k4=>⟨φ4,τ4,R4,k4⟩,e.rt⟩
  | false=>exact bc (e.nx φ' σ' τ' H1 (R'.hx x1) k1)
def be (dg:DG)(dc:DT)(de:DE)(τi:TSt)(KK:List Tr→Prop):List Tr→List Tr→Prop
 | [],acc=>KK acc
 | x::xs,acc=>dg x τi fun τ2=>dc τ2 fun b=>if b=true then de τ2 fun y=>be dg dc de τi KK xs (acc++[y]) else be dg dc de τi KK xs acc
def xic:TV→TV
 | .ow _=>.un
 | x=>x
def kC (tau:List (Option Nat))(τ:TSt):TSt:=tau.map fun o=>match o with | some j=>xic (nth τ j) | none=>.un
def xgR (tau:List (Option Nat))(di:DI)(dg:DG)(dc:DT)(de:DE):DE:=fun τ KK=>di τ fun xs=>xs.length<sizeLine∧be dg dc de (kC tau τ) (fun ys=>KK (.lst ys)) xs []
def lQ:DT:=fun _ KK=>KK true
theorem zE:OkT K xfP lQ:=fun B φ σ τ H Q KK R hd q=>q true H (HX.refl R) hd
def FB.inner (B:FB)(φ:Phi)(τ:TSt)(H:Hp):FB:=⟨Av B φ,SA B φ τ,H,[]⟩
def rF (tau:List (Option Nat))(φ:Phi)(τ:TSt):Phi:=fun i=>match tau[i]? with | some (some j)=>(match nth τ j with | .st=>φ j | _=>none) | _=>none
theorem mB:∀ {i:Nat},nth (kC tau τ) i=match tau[i]? with | some (some j)=>xic (nth τ j) | _=>.un:=by
 intro i
 by_cases h:i<tau.length
 ·have h':i<(kC tau τ).length:=by unfold kC;rw[xkr];exact h
  rw[jU h',xke h]
  simp only[kC,List.getElem_map]
  cases tau[i]<;>rfl
 ·rw[ub (by unfold kC;rw[xkr];omega),xkf (by omega)]
theorem rT {tau:List (Option Nat)}{i j:Nat}{v:V}(h:tau[i]? = some (some j))(e:σ[j]? = some (some v)):(k9 tau σ)[i]? = some (some v):=by
 unfold k9
 rw[xkh,h]
 simp only[Option.map_some,e,xli]
theorem RS.inner {tau:List (Option Nat)}(R:RS K B φ σ τ H):RS K (B.inner φ τ H) (rF tau φ τ) (k9 tau σ) (kC tau τ) H:=by
 have hphi:∀i a,rF tau φ τ i=some a→∃j,tau[i]? = some (some j)∧nth τ j=.st∧φ j=some a:=fun i a e=>by
  unfold rF at e
  split at e
  ·rename_i j hj
   split at e
   ·rename_i hs;exact⟨j,hj,hs,e⟩
   ·cases e
  ·cases e
 have hav:∀a,Av (B.inner φ τ H) (rF tau φ τ) a→Av B φ a:=fun a z=>by
  rcases z with z | ⟨i,z⟩
  ·exact z
  ·obtain⟨j,_,_,e⟩:=hphi i a z
   exact .inr ⟨j,e⟩
 refine⟨fun a z=>R.dom z,fun a z=>R.sAv z,fun a o e _=>e,fun a s=>?_,fun i j a ts hi e1 _=>?_,fun i a e=>?_,?_,fun i=>?_,fun p hp=>absurd hp (by simp[FB.inner])⟩
 ·rcases s with s | ⟨i,s,_⟩
  ·exact R.sst a s
  ·obtain⟨j,_,hs,e⟩:=hphi i a s
   exact R.sst a (.inr ⟨j,e,hs⟩)
 ·exfalso
  rw[mB] at hi
  split at hi
  ·rename_i j hj
   revert hi
   cases nth τ j<;>intro hi<;>cases hi
  ·cases hi
 ·obtain⟨j,_,_,e⟩:=hphi i a e
  exact R.ow j a e
 ·unfold k9 kC;rw[xkr,xkr]
 ·rw[mB]
  split
  ·rename_i j hj
   have en:=R.ent j
   cases hn:nth τ j with
   | un=>trivial
   | ow ts=>trivial
   | fz t =>
    rw[hn] at en
    obtain⟨v,e,r⟩:=en
    exact⟨v,rT hj e,yz (fun a o e n=>⟨e,fun z=>n (hav a z)⟩) _ _ r⟩
   | st =>
    rw[hn] at en
    obtain⟨p,e1,e2,e3⟩:=en
    refine⟨p,rT hj e1,?_,.inl (.inr ⟨j,e2,hn⟩)⟩
    unfold rF
    simp only[hj,hn];exact e2
   | sc ns =>
    rw[hn] at en
    obtain⟨a,e,l,q⟩:=en
    exact⟨a,rT hj e,l,q⟩
   | ob a =>
    rw[hn] at en
    exact rT hj en
  ·trivial
theorem yu (hi:xgK K wi di)(hg:OkN K g dg)(hc:OkT K tc dc)(he:OkE K b te de) :
  OkF K (xfs wi tau g tc te) (xgR tau di dg dc de):=fun B φ σ τ H Q KK R hd q =>
 hi B φ σ τ H _ _ R hd fun J ts Src H1 x1 k1 it s1=>by
  refine⟨fun i m ys H'=>m=ts.length-i∧i≤ts.length∧ys.length≤i∧HX B φ τ H H'∧Src H'∧∃acc,zi (Av B φ) H' acc ys∧be dg dc de (kC tau τ) (fun ys=>KK (.lst ys)) (ts.drop i) acc,⟨_,rfl,xlh _,xlh _,x1,s1,[],rfl,k1.2⟩,?_⟩
  rintro i m ys H' ⟨rfl,hle,hys,x,s,acc,ra,f⟩
  have R':=R.hx x
  by_cases hlt:i<ts.length
  ·refine .inr ⟨it.go i H' s hlt,by have:=k1.1;omega,fun v H2 y=>?_⟩
   obtain⟨gr,t,ht,rt⟩:=it.yld i H' v H2 s (fun a z=>R'.dom z) hlt y
   have hx:=gr.hx R'
   have R2:=R'.hx hx
   have ed:ts.drop i=t::ts.drop (i+1):=by
    rw[xj1 hlt]
    rw[xke hlt] at ht
    cases ht;rfl
   rw[ed] at f
   refine hg (B.inner φ τ H2) _ _ _ H2 (Av B φ) t v _ _ R2.inner (fun a z=>?_) rt f fun φ3 σ3 τ3 R3 ha k3=>?_
   ·rcases z with z | ⟨j,z⟩
    ·exact z
    ·unfold rF at z
     split at z
     ·split at z
      ·exact .inr ⟨_,z⟩
      ·cases z
     ·cases z
   have hsa:∀a,SA (B.inner φ τ H2) φ3 τ3 a→SA B φ τ a:=fun a z=>by
    rcases z with z | ⟨j,z,hj⟩
    ·exact z
    ·have en:=R3.ent j
     rw[hj] at en
     obtain⟨p,e1,e2,e3⟩:=en
     rw[z] at e2;cases e2
     rcases e3 with e3 | e3
     ·exact e3
     ·exact absurd e3 (R3.sst a (.inr ⟨j,z,hj⟩)).ne_none
   have hxo:∀ {H3 H4:Hp},HX (B.inner φ τ H2) φ3 τ3 H3 H4→HX B φ τ H3 H4:=fun {H3 H4} h=>⟨fun a o e n=>h.keep a o e fun z=>n (hsa a z),fun a z=>h.st a (.inl z)⟩
   refine hc _ φ3 σ3 τ3 H2 _ _ R3 k3 fun c H3 x3 k4=>?_
   have x23:=hxo x3
   have s3:=it.stab _ _ (it.stab _ _ s fun a o e n=>hx.keep a o e n) fun a o e n=>x23.keep a o e n
   cases c with
   | false =>
    refine bc ⟨_,by omega,rfl,hlt,by omega,(x.trans hx).trans x23,s3,acc,(hx.trans x23).repL (fun a z=>R.sAv z) ra,?_⟩
    simpa using k4
   | true =>
    refine o9 (he _ φ3 σ3 τ3 H3 _ _ (R3.hx x3) k4 fun u w H4 x4 k5 r5=>?_)
    have x34:=hxo x4
    refine⟨_,by omega,rfl,hlt,by rw[xkm,xkv];omega,((x.trans hx).trans x23).trans x34,it.stab _ _ s3 fun a o e n=>x34.keep a o e n,acc++[u],(((hx.trans x23).trans x34).repL (fun a z=>R.sAv z) ra).app (show zi _ _ [u] [w] from⟨w,[],rfl,?_,rfl⟩),k5⟩
    refine yz (fun a o e n=>⟨e,fun z=>n ?_⟩) _ _ r5
    cases b with
    | true=>exact .inl z
    | false=>exact .inl z
  ·have ei:i=ts.length:=by omega
   subst ei
   rw[xj2] at f
   refine .inl ⟨it.stop H' s,fun p hp=>q acc p ys _ (x.trans (HX.new R' hp _)) f (x.none hp) x9 (vS hp ra)⟩
end
end L2
namespace L2
open PySem PySem.Spec PyProof.Rows
def startT (N:List Str):Bool→List Tr→TSt
 | true,ts=>.st::(ts.map TV.fz++List.replicate (N.length-(ts.length+1)) .un)
 | false,ts=>ts.map TV.fz++List.replicate (N.length-ts.length) .un
theorem jY {ts:List Tr}{n i:Nat}{x:TV}(h:nth (ts.map TV.fz++List.replicate n .un) i=x):x=.un∨∃t,ts[i]? = some t∧x=.fz t:=by
 by_cases hi:i<ts.length
 ·right
  rw[jU (by simp;omega),List.getElem_append_left (by simpa using hi),List.getElem_map] at h
  exact⟨_,xke hi,h.symm⟩
 ·left
  by_cases h2:i<ts.length+n
  ·rw[jU (by simp;omega),List.getElem_append_right (by simp;omega),List.getElem_replicate] at h
   exact h.symm
  ·rw[ub (by simp;omega)] at h
   exact h.symm
theorem jS {N:List Str}{vs:List V}{i:Nat}{v:V}(h:vs[i]? = some v):(start N vs)[i]? = some (some v):=by
 unfold start
 have hi:=(xkg.mp h).1
 rw[xkd (by simpa using hi),xkh,h];rfl
theorem dH (h:vs.length≤N.length):(start N vs).length=N.length:=by
 unfold start;rw[xkm,xkr,xkt];omega
section
variable {P:Program} {w:World} {K:PySem.W.Frag} {mg:Str→Option Value} {base:Heap} {k n:Nat} {x qual:Str} {st:Stmt} {f:Addr} {fd:FuncData} {N ps:List Str} {fr:Bool} {sp:TSp}
theorem ny {F S:Addr→Prop}{H:Hp}{ts:List Tr}{us:List V}(hF:∀a,F a→H a≠none)(hS:∀a,S a→F a)(hst:∀a,S a→bj a H)(r:zi F H ts us)(hl:ts.length≤N.length) :
  RS K ⟨F,S,H,[]⟩ (fun _=>none) (start N us) (startT N false ts) H where
 f0:=hF
 s0:=hS
 ext:=fun a o e _=>e
 sst:=fun a s=>by
  rcases s with s | ⟨i,s,_⟩
  ·exact hst a s
  ·cases s
 inj:=fun i j a us _ e=>by cases e
 ow:=fun i a e=>by cases e
 len:=by
  have:=r.len
  rw[dH (by omega)]
  simp[startT];omega
 ent:=fun i=>by
  rcases jY (ts:=ts) (n:=N.length-ts.length) (i:=i) rfl with e | ⟨t,h,e⟩
  ·show Ent K _ _ H i _ (nth (ts.map TV.fz++List.replicate (N.length-ts.length) .un) i)
   rw[e];trivial
  ·show Ent K _ _ H i _ (nth (ts.map TV.fz++List.replicate (N.length-ts.length) .un) i)
   rw[e]
   obtain⟨v,e1,e2⟩:=r.getT h
   exact⟨v,jS e1,yz (fun a o e n=>⟨e,fun z=>n (z.elim id fun⟨_,z⟩=>nomatch z)⟩) _ _ e2⟩
 gh:=fun p hp=>absurd hp (by simp)
theorem xah {F S:Addr→Prop}{H:Hp}{ts:List Tr}{us:List V}{p:Addr}(hp:S p)(hF:∀a,F a→H a≠none)(hS:∀a,S a→F a)(hst:∀a,S a→bj a H)(r:zi F H ts us)(hl:ts.length+1≤N.length) :
  RS K ⟨F,S,H,[]⟩ (fun i=>if i=0 then some p else none) (start N (.ref p::us)) (startT N true ts) H where
 f0:=hF
 s0:=hS
 ext:=fun a o e _=>e
 sst:=fun a s=>by
  rcases s with s | ⟨i,s,_⟩
  ·exact hst a s
  ·have s:(if i=0 then some p else none)=some a:=s
   by_cases e:i=0
   ·rw[if_pos e] at s;cases s;exact hst _ hp
   ·rw[if_neg e] at s;cases s
 inj:=fun i j a us hi e=>by
  exfalso
  by_cases e0:i=0
  ·subst e0;cases hi
  ·rw[if_neg e0] at e;cases e
 ow:=fun i a e=>by
  by_cases e0:i=0
  ·rw[if_pos e0] at e;cases e;exact(hst _ hp).ne_none
  ·rw[if_neg e0] at e;cases e
 len:=by
  have:=r.len
  rw[dH (by rw[xkn];omega)]
  simp[startT];omega
 ent:=fun i=>by
  cases i with
  | zero=>exact⟨p,jS (by rfl),if_pos rfl,.inl hp⟩
  | succ i =>
   show Ent K _ _ H (i+1) _ (nth (ts.map TV.fz++List.replicate (N.length-(ts.length+1)) .un) i)
   rcases jY (ts:=ts) (n:=N.length-(ts.length+1)) (i:=i) rfl with e | ⟨t,h,e⟩
   ·rw[e];trivial
   ·rw[e]
    obtain⟨v,e1,e2⟩:=r.getT h
    refine⟨v,jS (by rw[List.getElem?_cons_succ];exact e1),yz (fun a o e n=>⟨e,fun z=>n ?_⟩) _ _ e2⟩
    rcases z with z | ⟨j,z⟩
    ·exact z
    ·have z:(if j=0 then some p else none)=some a:=z
     by_cases e0:j=0
     ·rw[if_pos e0] at z;cases z;exact hS _ hp
     ·rw[if_neg e0] at z;cases z
 gh:=fun p hp=>absurd hp (by simp)
theorem xA (F:Fun K x qual st f fd)(S:xw N ps (xf st))(mgx:mg x=some (.ref f))(b:Binds K fd ps [])(hn:ps.length=n)
  (body:∀(cdv:Value) (A:Around) (outer:List Env) (s:Shared) (H:Hp) (E:XK),k7 k (A.deeper (envOfC qual (xf st) s.heap.objs.size f cdv)) →
   ∃T D,PSs (fN CX0 P w K mg base N qual (xf st) f cdv A outer s H E).nox (yV st) T∧OkS K fr T D∧∀ts KK,ts.length=n→sp ts KK→D { nx:=fun _=>fr=false∧KK .non,rt:=KK } (startT N false ts)) :
  Own P w K mg base (k+1) x ps (spT n false fr sp):=by
 have hpl:ps.length≤N.length:=by have:=xlk List.length S.pre;rw[xkw] at this;omega
 refine sJ F S mgx b (fun vs H Q E h=>?_) (fun cdv A outer s H vs Q E hr h=>?_)
 ·obtain⟨F',S',ts,KK,us,e,_,_,_,r,l,_⟩:=h
  cases (show vs=us from e)
  rw[←r.len,l,hn]
 ·obtain⟨F',S',ts,KK,us,e,hF,hS,hst,r,l,hsp,q⟩:=h
  cases (show vs=us from e)
  obtain⟨T,D,ht,hd,h⟩:=body cdv A outer s H E hr
  refine⟨T,ht,hd _ _ _ _ H _ _ (ny hF hS hst r (by omega)) (h ts KK l hsp) ⟨fun φ σ τ H1 R k=>?_,fun _ _ _ _ _ z=>z.elim,fun _ _ _ _ _ z=>z.elim,fun t v H1 r1 x k fl=>?_⟩⟩
  ·obtain⟨k1,k2⟩:=k
   exact q .non .non H1 k2 R.ext (fun a z=>R.sst a (.inl z)) rfl fun z=>by rw[k1] at z;cases z
  ·exact q t v H1 k x.ext x.st r1 fl
theorem xbu (F:Fun K x qual st f fd)(S:xw N ps (xf st))(mgx:mg x=some (.ref f))(b:Binds K fd ps [])(hn:ps.length=n+1)
  (body:∀(cdv:Value) (A:Around) (outer:List Env) (s:Shared) (H:Hp) (E:XK),k7 k (A.deeper (envOfC qual (xf st) s.heap.objs.size f cdv)) →
   ∃T D,PSs (fN CX0 P w K mg base N qual (xf st) f cdv A outer s H E).nox (yV st) T∧OkS K fr T D∧∀ts KK,ts.length=n→sp ts KK→D { nx:=fun _=>fr=false∧KK .non,rt:=KK } (startT N true ts)) :
  Own P w K mg base (k+1) x ps (spT n true fr sp):=by
 have hpl:ps.length≤N.length:=by have:=xlk List.length S.pre;rw[xkw] at this;omega
 refine sJ F S mgx b (fun vs H Q E h=>?_) (fun cdv A outer s H vs Q E hr h=>?_)
 ·obtain⟨F',S',ts,KK,us,⟨p,e,_⟩,_,_,_,r,l,_⟩:=h
  rw[e,xkn,←r.len,l,hn]
 ·obtain⟨F',S',ts,KK,us,⟨p,e,hp⟩,hF,hS,hst,r,l,hsp,q⟩:=h
  subst e
  obtain⟨T,D,ht,hd,h⟩:=body cdv A outer s H E hr
  refine⟨T,ht,hd _ _ _ _ H _ _ (xah hp hF hS hst r (by omega)) (h ts KK l hsp) ⟨fun φ σ τ H1 R k=>?_,fun _ _ _ _ _ z=>z.elim,fun _ _ _ _ _ z=>z.elim,fun t v H1 r1 x k fl=>?_⟩⟩
  ·obtain⟨k1,k2⟩:=k
   exact q .non .non H1 k2 R.ext (fun a z=>R.sst a (.inl z)) rfl fun z=>by rw[k1] at z;cases z
  ·exact q t v H1 k x.ext x.st r1 fl
def xgO (H:Hp):Prop:=∀b,(H b=none∨∃o xs,H b=some (.frz o (.lst xs)))∨∃q,H b=some (.tb q)
end
section
variable {K:PySem.W.Frag} {fr:Bool}
def xeg (j i:Nat)(d:DE):DS:=fun G τ=>match nth τ i with | .sc _=>d τ (fun t=>match t with | .int k=>0≤k∧G.nx (τ.set j .st) | _=>False) | _=>False
theorem xbw (h:OkE K b te d):OkS K fr (xc2 (xgi (bH K) (vD (sZ i) (vD te lR))) (gJ j)) (xeg j i d):=fun B φ σ τ H E G R hd e=>by
 have en:=R.ent i
 unfold xeg at hd
 revert en hd
 cases hi:nth τ i with
 | sc ns =>
  intro hd ⟨a,e1,hl,so,_⟩
  refine⟨_,e1,h B φ σ τ H _ _ R hd fun t v H1 x1 k1 r1=>?_⟩
  cases t with
  | int k =>
   cases (show v=.int k from r1)
   have sq:SqL K H1 a (ns.map V.int):=by
    rcases so with ⟨o,q⟩ | q
    ·exact .inl (.inr ⟨o,x1.keep a _ q (tj R q)⟩)
    ·exact q H1
   refine⟨a,ns,k,rfl,sq,hl,k1.1,fun p n b hp hok=>?_⟩
   have x2:=x1.trans (HX.new (R.hx x1) hp (.lst [.int n,.bl b]))
   have z0:B.H0 p=none:=by
    cases q:B.H0 p with
    | none=>rfl
    | some o =>
     by_cases s:B.S0 p
     ·exact absurd hp ((R.hx x1).sst p (.inl s)).ne_none
     ·rw[(R.hx x1).ext p o q s] at hp;cases hp
   refine e.nx _ _ _ _ (R.setNew (x:=.st) x2 (x1.none hp) (by rw[x9];exact fun z=>nomatch z) (fun _=>⟨n,b,x9,hok⟩) ⟨p,rfl,oN,.inr z0⟩) k1.2
  | _=>exact k1.elim
 | _=>exact fun z _=>z.elim
def xcA:TSp:=fun ts KK=>match ts with | [.int many]=>(0<many∧many<2 ^ 128)∧∀r,0≤r→r<many→KK (.int r) | _=>False
theorem xa6 (h:Own P w K mg base k x ps xdH):Own P w K mg base k x ps (spT 1 true false xcA):=h.imp fun vs H Q E q=>by
 obtain⟨F,S,ts,KK,us,⟨p,e,hp⟩,hF,hS,hst,r,l,hsp,q⟩:=q
 unfold xcA at hsp
 split at hsp
 ·rename_i many
  obtain⟨v,rfl,r1⟩:=fG r
  cases (show v=.int many from r1)
  refine⟨p,many,e,hst p hp,hsp.1.1,hsp.1.2,fun r H' h0 h1 sb=>q (.int r) (.int r) H' (hsp.2 r h0 h1) (fun a o e n=>sb.keep a o (fun z=>n (by rw[z];exact hp)) e) (fun a s=>?_) rfl (fun z=>nomatch z)⟩
  by_cases ea:a=p
  ·rw[ea];exact sb.st
  ·obtain⟨n,b,e1,z⟩:=hst a s
   exact⟨n,b,sb.keep a _ ea e1,z⟩
 ·exact hsp.elim
end
end L2
namespace L2
open PySem PySem.Spec PyProof.Rows
mutual
def gF:Tr→PyData
 | .non=>.none | .bl b=>.bool b | .int i=>.int i | .str x=>.str x | .emp=>.dict [] | .tup ts=>.tuple (uZ ts) | .lst ts=>.list (uZ ts)
def uZ:List Tr→List PyData
 | []=>[]
 | t::ts=>gF t::uZ ts
end
def teq (t u:Tr):Bool:=PyData.eqv (gF t) (gF u)
def pln (t:Tr):Bool:=(gF t).canLay0
def dep (t:Tr):Nat:=(gF t).depth
section
variable {X:Cx} {pins:List (Addr×Obj)} {σ:St} {H:Hp} {s:Shared}
mutual
theorem vF (I:Inv X pins σ H s):∀(t:Tr) (x:V) (a:Value),Rep F H t x→RelV x a→pln t=true→∃as,Reads s.heap a (gF t) as
 | .non,x,a,r,e,_=>by cases (show x=.non from r);cases e;exact⟨_,.none⟩
 | .bl b,x,a,r,e,_=>by cases (show x=.bl b from r);cases e;exact⟨_,.bool b⟩
 | .int i,x,a,r,e,_=>by cases (show x=.int i from r);obtain⟨t,rfl⟩:=e;exact⟨_,.int i t⟩
 | .str i,x,a,r,e,_=>by cases (show x=.str i from r);obtain⟨t,rfl⟩:=e;exact⟨_,.str i t⟩
 | .emp,x,a,r,e,h=>by cases h
 | .tup ts,x,a,r,e,h=>by
  obtain⟨p,ws,rfl,_,hp,rl⟩:=r
  cases e
  obtain⟨its,rv,⟨o,ho,hc,n,hd⟩,_⟩:=I.tuple (SqT.of hp)
  obtain⟨as,ra⟩:=vE I ts ws its rl rv h
  exact⟨_,.tuple ho hc hd (by simpa using ra)⟩
 | .lst ts,x,a,r,e,h=>by
  obtain⟨p,ws,rfl,_,hp,rl⟩:=r
  cases e
  obtain⟨its,rv,pl,_⟩:=I.list (SqL.of hp)
  obtain⟨o,ho,hc,n,hd⟩:=pl.isList
  obtain⟨as,ra⟩:=vE I ts ws its rl rv h
  exact⟨_,.list ho hc hd (by simpa using ra)⟩
theorem vE (I:Inv X pins σ H s):∀(ts:List Tr) (ws:List V) (us:List Value),zi F H ts ws→zh ws us→PyData.canLayAll0 (uZ ts)=true→∃as,ReadsAll s.heap us (uZ ts) as
 | [],ws,us,r,v,_=>by cases (show ws=[] from r);cases v;exact⟨_,.nil⟩
 | t::ts,ws,us,r,v,h=>by
  obtain⟨w,r',rfl,h1,h2⟩:=r
  cases v with
  | cons v1 v2 =>
   have h':pln t=true∧PyData.canLayAll0 (uZ ts)=true:=by
    have:(pln t&&PyData.canLayAll0 (uZ ts))=true:=h
    simpa using this
   obtain⟨as,ra⟩:=vF I t w _ h1 v1 h'.1
   obtain⟨bs,rb⟩:=vE I ts r' _ h2 v2 h'.2
   exact⟨_,.cons ra rb⟩
end
end
def xe_ (t u:Tr):Prop:=pln t=true∧pln u=true∧min (dep t) (dep u)≤64
def xiP:R2:=fun x y H Q=>∃F G t u,Rep F H t x∧Rep G H u y∧xe_ t u∧Q (.bl (teq t u)) H
def xib:R2:=fun x y H Q=>∃F G t u,Rep F H t x∧Rep G H u y∧xe_ t u∧Q (.bl (!teq t u)) H
section
variable {X:Cx}
theorem zI (hu:X.A.units+64<cLine):OpR X (compareOp .Eq) xiP:=by
 intro pins s σ H x y v u Q I rx ry h
 obtain⟨F,G,t,t',r1,r2,⟨p1,p2,p3⟩,q⟩:=h
 obtain⟨as,ra⟩:=vF I t x v r1 rx p1
 obtain⟨bs,rb⟩:=vF I t' y u r2 ry p2
 exact SeqAt.rcAt_reads ra rb p1 p2 (xla (Nat.add_le_add_left p3 _) hu) X.prog X.w _ _ ⟨.bl _,H,I,rfl,q⟩
theorem zX (hu:X.A.units+64<cLine):OpR X (compareOp .NotEq) xib:=by
 intro pins s σ H x y v u Q I rx ry h
 obtain⟨F,G,t,t',r1,r2,⟨p1,p2,p3⟩,q⟩:=h
 obtain⟨as,ra⟩:=vF I t x v r1 rx p1
 obtain⟨bs,rb⟩:=vF I t' y u r2 ry p2
 exact SeqAt.rcNeAt_reads ra rb p1 p2 (xla (Nat.add_le_add_left p3 _) hu) X.prog X.w _ _ ⟨.bl _,H,I,rfl,q⟩
def xiM (neg:Bool):R2:=fun x y H Q=>∃F G t ts,Rep F H t x∧(Rep G H (.lst ts) y∨Rep G H (.tup ts) y)∧pln t=true∧PyData.canLayAll0 (uZ ts)=true∧dep t≤60∧Q (.bl (if neg then !(ts.any fun u=>teq u t) else ts.any fun u=>teq u t)) H
theorem fY (e:Value→Bool)(he:∀y d as,Reads h y d as→d.canLay0=true→e y=PyData.eqv d d0):∀(ts:List Tr) (us:List Value) (as:List Addr),ReadsAll h us (uZ ts) as→PyData.canLayAll0 (uZ ts)=true→us.any e=ts.any fun u=>PyData.eqv (gF u) d0
 | [],us,as,r,_=>by cases r;rfl
 | t::ts,us,as,r,hl=>by
  have h':(gF t).canLay0=true∧PyData.canLayAll0 (uZ ts)=true:=by
   have:((gF t).canLay0&&PyData.canLayAll0 (uZ ts))=true:=hl
   simpa using this
  generalize hg:uZ (t::ts)=ds at r
  cases r with
  | nil=>cases hg
  | cons r1 r2 =>
   have e1:gF t=_:=(List.cons.inj hg).1
   have e2:uZ ts=_:=(List.cons.inj hg).2
   subst e1 e2
   rw[List.any_cons,List.any_cons,he _ _ _ r1 h'.1,fY e he ts _ _ r2 h'.2]
theorem tZ:∀(ds:List PyData) (us:List Value) (as:List Addr),ReadsAll h us ds as→PyData.canLayAll0 ds=true→y∈us→∃d as,Reads h y d as∧d.canLay0=true
 | [],us,as,r,_,hm=>by cases r;exact absurd hm (by simp)
 | d::ds,us,as,r,hl,hm=>by
  have h':d.canLay0=true∧PyData.canLayAll0 ds=true:=by
   have:(d.canLay0&&PyData.canLayAll0 ds)=true:=hl
   simpa using this
  cases r with
  | cons r1 r2 =>
   rcases xkE.mp hm with rfl | hm
   ·exact⟨d,_,r1,h'.1⟩
   ·exact tZ ds _ _ r2 h'.2 hm
open Classical in
def eBy (h:Heap)(d0:PyData)(y:Value):Bool:=if ∃d as,Reads h y d as∧d.canLay0=true∧PyData.eqv d d0=true then true else false
theorem xaA (y:Value)(d:PyData)(as:List Addr)(r:Reads h y d as)(hl:d.canLay0=true):eBy h d0 y=PyData.eqv d d0:=by
 unfold eBy
 cases hq:PyData.eqv d d0 with
 | true=>rw[if_pos ⟨d,as,r,hl,hq⟩]
 | false =>
  rw[if_neg]
  rintro⟨d',as',r',hl',hq'⟩
  have:=SeqAt.Reads.unique d d' y as as' hl r r'
  subst this
  rw[hq] at hq';cases hq'
theorem cG (hu:X.A.units+64<cLine):OpR X (compareOp .NotIn) (xiM true):=by
 intro pins s σ H x y v u Q I rx ry h
 obtain⟨F,G,t,ts,r1,r2,p1,p2,p3,q⟩:=h
 obtain⟨as,ra⟩:=vF I t x v r1 rx p1
 have room:∀d:PyData,X.A.in1.units+min d.depth (gF t).depth<cLine:=fun d=>by
  have h1:min d.depth (gF t).depth≤60:=xk9 (Nat.min_le_right _ _) p3
  show X.A.units+1+_<_
  omega
 have eqa:∀(ds:List PyData) (us:List Value) (bs:List Addr),ReadsAll s.heap us ds bs→PyData.canLayAll0 ds=true→∀z∈us,SeqAt.EqAt X.A.in1 s z v (eBy s.heap (gF t) z):=fun ds us bs rb hl z hz=>by
  obtain⟨d,cs,rd,hd⟩:=tZ ds us bs rb hl hz
  rw[xaA z d cs rd hd]
  exact SeqAt.eqAt_reads d (gF t) _ s z v _ _ rd ra hd p1 (room d)
 rcases r2 with r2 | r2
 ·obtain⟨p,ws,rfl,_,hp,rl⟩:=r2
  cases ry
  obtain⟨its,rv,pl,_⟩:=I.list (SqL.of hp)
  obtain⟨bs,rb⟩:=vE I ts ws its rl rv p2
  refine SeqAt.notIn_listAt (eBy s.heap (gF t)) pl.isList (fun z hz=>eqa _ _ _ rb p2 z (by simpa using hz)) ⟨.bl _,H,I,?_,q⟩
  show Value.bool _=Value.bool _
  rw[if_pos rfl,show(ts.any fun u=>teq u t)=its.toArray.any (eBy s.heap (gF t)) from by
   rw[show(its.toArray.any (eBy s.heap (gF t)))=its.any (eBy s.heap (gF t)) by simp]
   exact(fY (eBy s.heap (gF t)) (fun y d as r hl=>xaA y d as r hl) ts its bs rb p2).symm]
 ·obtain⟨p,ws,rfl,_,hp,rl⟩:=r2
  cases ry
  obtain⟨its,rv,pl,_⟩:=I.tuple (SqT.of hp)
  obtain⟨bs,rb⟩:=vE I ts ws its rl rv p2
  refine SeqAt.notIn_tupleAt (eBy s.heap (gF t)) pl (fun z hz=>eqa _ _ _ rb p2 z (by simpa using hz)) ⟨.bl _,H,I,?_,q⟩
  show Value.bool _=Value.bool _
  rw[if_pos rfl,show(ts.any fun u=>teq u t)=its.toArray.any (eBy s.heap (gF t)) from by
   rw[show(its.toArray.any (eBy s.heap (gF t)))=its.any (eBy s.heap (gF t)) by simp]
   exact(fY (eBy s.heap (gF t)) (fun y d as r hl=>xaA y d as r hl) ts its bs rb p2).symm]
end
def xf5 (neg:Bool)(x y:Tr)(KK:Tr→Prop):Prop:=match x,y with
 | .int i,.int j=>KK (.bl (if neg then !decide (i=j) else decide (i=j)))
 | x,y=>xe_ x y∧KK (.bl (if neg then !teq x y else teq x y))
theorem xch (i j:Int):xe_ (.int i) (.int j):=⟨rfl,rfl,by show min 0 0≤64;decide⟩
theorem xas {neg:Bool}{x y:Tr}{KK:Tr→Prop}(h:xf5 neg x y KK):xe_ x y∧KK (.bl (if neg then !teq x y else teq x y)):=by
 unfold xf5 at h
 split at h
 ·exact⟨xch _ _,h⟩
 ·exact h
theorem os_eq:OpS xiP (xf5 false):=fun F G H x y t u KK Q r1 r2 hf q=>by
 obtain⟨h1,h2⟩:=xas hf
 exact⟨F,G,t,u,r1,r2,h1,q _ _ rfl h2⟩
theorem vC:OpS xib (xf5 true):=fun F G H x y t u KK Q r1 r2 hf q=>by
 obtain⟨h1,h2⟩:=xas hf
 exact⟨F,G,t,u,r1,r2,h1,q _ _ rfl h2⟩
def fIn (neg:Bool)(x y:Tr)(KK:Tr→Prop):Prop:=match y with
 | .lst ts=>(pln x=true∧PyData.canLayAll0 (uZ ts)=true∧dep x≤60)∧KK (.bl (if neg then !(ts.any fun u=>teq u x) else ts.any fun u=>teq u x))
 | .tup ts=>(pln x=true∧PyData.canLayAll0 (uZ ts)=true∧dep x≤60)∧KK (.bl (if neg then !(ts.any fun u=>teq u x) else ts.any fun u=>teq u x))
 | _=>False
theorem xfE:OpS (xiM neg) (fIn neg):=fun F G H x y t u KK Q r1 r2 hf q=>by
 unfold fIn at hf
 split at hf
 ·exact⟨F,G,t,_,r1,.inl r2,hf.1.1,hf.1.2.1,hf.1.2.2,q _ _ rfl hf.2⟩
 ·exact⟨F,G,t,_,r1,.inr r2,hf.1.1,hf.1.2.1,hf.1.2.2,q _ _ rfl hf.2⟩
 ·exact hf.elim
end L2
namespace L2
open PySem PySem.Spec PyProof.Rows
def xhO (K:PySem.W.Frag)(tl:TE):TI:=fun σ H R=>tl σ H fun x H1=>∃a,x=.ref a∧(((∃xs,SqL K H1 a xs)∧R (Itl K a) H1)∨((∃xs,SqT K H1 a xs)∧R (Itt K a) H1))
section
variable {X:Cx}
theorem yN (K:PySem.W.Frag)(hl:PE X l tl)(e:X.K=K:=by rfl):PI X tg l (xhO K tl):=by
 subst e
 intro pins s σ H R I h
 refine thn (@hl pins s σ H _ I h) fun v s1 ⟨x,H1,I1,r1,q1⟩=>?_
 obtain⟨a,e,q⟩:=q1
 subst e
 cases r1
 rcases q with ⟨⟨xs,hq⟩,q⟩ | ⟨⟨xs,hq⟩,q⟩
 ·obtain⟨its,rv,p,hz⟩:=I1.list hq
  refine wpAny_pyIter_list p.isList ?_
  refine⟨s1.heap.objs.size,[s1.heap.objs.size],_,_,H1,rfl,I1.kept (t':=s1.toks) fun b o e=>Heap.get?_push_of_some _ e,xb0 a _,⟨_,Heap.get?_push_size _ rfl,rfl,rfl⟩,fun b hb=>?_,q⟩
  have e:b=s1.heap.objs.size:=by simpa using hb
  subst e
  exact I1.fpOk (xk7 _) (I1.hok.fresh (xk7 _))
 ·obtain⟨its,rv,p,hz⟩:=I1.tuple hq
  refine wpAny_pyIter_tuple (show s1.heap.IsTuple a its.toArray from p) ?_
  refine⟨s1.heap.objs.size,[s1.heap.objs.size],_,_,H1,rfl,I1.kept (t':=s1.toks) fun b o e=>Heap.get?_push_of_some _ e,lF a _,⟨_,Heap.get?_push_size _ rfl,rfl,rfl⟩,fun b hb=>?_,q⟩
  have e:b=s1.heap.objs.size:=by simpa using hb
  subst e
  exact I1.fpOk (xk7 _) (I1.hok.fresh (xk7 _))
end
section
variable {K:PySem.W.Frag}
theorem yx (h:OkE K b te d):OkI K b (xhO K te) (xiy d):=fun B φ σ τ H R KK Rs hd q =>
 h B φ σ τ H _ _ Rs hd fun t v H1 x1 k1 r1=>by
  cases t with
  | lst ts =>
   obtain⟨a,ws,e,n,ha,rl⟩:=id r1
   subst e
   exact⟨a,rfl,.inl ⟨⟨ws,SqL.of ha⟩,q _ ts _ H1 x1 k1 xdq fun p hp=>by
    cases xkP.mp hp
    exact r1⟩⟩
  | tup ts =>
   obtain⟨a,ws,e,n,ha,rl⟩:=id r1
   subst e
   exact⟨a,rfl,.inr ⟨⟨ws,SqT.of ha⟩,q _ ts _ H1 x1 k1 xfb fun p hp=>by
    cases xkP.mp hp
    exact r1⟩⟩
  | _=>exact k1.elim
theorem fH:xgK K (xhO K (sZ i)) (xh_ i):=fun B φ σ τ H R KK Rs hd q=>by
 obtain⟨v,e,a,ea,s,r⟩:=xdf (i:=i) B φ σ τ H R KK Rs hd q
 exact⟨v,e,a,ea,.inl ⟨s,r⟩⟩
end
def Ite (K:PySem.W.Frag)(b:Bool)(a:Addr):It :=
 ⟨fun i H=>∃xs x,Sq2 K b H a xs∧xs[i]? = some x,
  fun i H v H'=>∃x q,(∀xs,Sq2 K b H a xs→xs[i]? = some x)∧v=.ref q∧H q=none∧H'=upd H q (.tup [.int i,x]),
  fun i H=>∃xs,Sq2 K b H a xs∧xs.length≤i⟩
theorem Inv.sq2_inj (I:Inv X pins σ H s)(h:Sq2 X.K b H a xs)(h':Sq2 X.K b H a ys):xs=ys:=by
 cases b with
 | true=>exact I.tuple_inj (show SqT X.K H a xs from h) h'
 | false=>exact I.list_inj (show SqL X.K H a xs from h) h'
theorem xcV (D:Drw it a vs tn src)(hne:a≠it)(hh:A.handled=none) :
  Draws prog w A it [it,a] vs.length (fun i x=>vs[i]? = some x) (fun i h=>tn i h∧src h) where
 live:=fun i h st=>let ⟨o,e,_⟩:=D.ob i h st.1;⟨o,e⟩
 frame:=fun i h h' st k=>⟨D.mv _ _ _ st.1 (k it (by simp)),D.smv _ _ st.2 (k a (by simp))⟩
 item:=fun i s Q E hi st hQ=>D.item prog w A E i vs[i] s Q st.1 st.2 (xke hi) fun h' t' sb=>hQ _ h' s.toks (xke hi) ⟨t',D.smv _ _ st.2 fun o e=>sb.extBut _ o hne e⟩ sb
 done:=fun s Q E st hE=>D.fin prog w A E vs.length s Q hh st.1 st.2 (xkf (xk7 _)) hE
section
variable {P:Program} {w:World} {K:PySem.W.Frag} {e it a:Addr} {b:Bool}
def ESt (b:Bool)(e it a:Addr)(i:Nat)(h:Heap):Prop:=(∃old,IsEnum h e it i old)∧Tn2 b it a i h
theorem xaM (hei:e≠it)(hea:a≠e)(hia:a≠it):Turn P w K (.Tuple elts kk pp) (Ite K b a) [e,it] e (ESt b e it a) where
 mem:=by simp
 obj:=fun i h st c hc=>by
  obtain⟨⟨old,s1⟩,s2⟩:=st
  simp only[xkE,xkT,xls] at hc
  rcases hc with z | z<;>subst z
  ·exact⟨_,s1,fun v=>by simp⟩
  ·exact(rQ b _ a []).ob _ _ s2
 keep:=fun i h h' st k=>by
  obtain⟨⟨old,s1⟩,s2⟩:=st
  exact⟨⟨old,k _ (by simp) _ s1⟩,(rQ b it a []).mv _ _ _ s2 fun o e=>k _ (by simp) o e⟩
 item:=by
  intro X hP hw hK hc i pins s σ H E I hf st hg
  subst hP hw hK
  obtain⟨⟨old,s1⟩,s2⟩:=st
  obtain⟨xs,x,sq1,hx⟩:=hg
  obtain⟨vs,rv,c1⟩:=I.sq2 sq1
  obtain⟨xv,ex,rx⟩:=rv.get hx
  have hi:i<vs.length:=(xkg.mp ex).1
  have fr:H s.heap.objs.size=none:=I.hok.fresh (xk7 _)
  have D:=xcV (prog:=X.prog) (w:=X.w) (A:=X.A.in1) (rQ b it a vs) hia (show X.A.in1.handled=none from I.ok.hd hc)
  refine wpAny_pyNext_enum_itemD D s1 ⟨s2,c1⟩ hi hei (by simp[hei,Ne.symm hea]) fun xv' g tk hP ho st' hT hsz kp=>⟨_,rfl,?_⟩
  rw[ex] at hP;cases hP
  refine wpAny_letOwnedTupleGo_enum ho fun g2 he2 S2=>?_
  have lte:e<s.heap.objs.size:=Heap.lt_size s1
  have kp2:∀c o,c∉[e,it]→s.heap.get? c=some o→g2.get? c=some o:=fun c o hc e=>by
   simp only[xkE,xkT,xls,not_or] at hc
   exact S2.extBut _ _ hc.1 (kp c o hc.1 hc.2 e)
  have T2:=S2.extBut _ _ (xlf lte) hT
  have st2:ESt b e it a (i+1) g2:=⟨⟨_,by simpa using he2⟩,(rQ b it a vs).mv _ _ _ st'.1 fun o q=>S2.extBut _ o (Ne.symm hei) q⟩
  have nfp:∀c u,H c=some u→c∉[e,it]:=fun c u q hm=>by rw[(hf c hm).1] at q;cases q
  have nT:∀c o,s.heap.get? c=some o→c≠s.heap.objs.size:=fun c o e=>xlg (Heap.lt_size e)
  refine⟨.ref s.heap.objs.size,upd H s.heap.objs.size (.tup [.int i,x]),?_,rfl,⟨x,_,fun xs' h'=>by rw[←I.sq2_inj sq1 h'];exact hx,rfl,fr,rfl⟩,st2,fun c hm=>?_⟩
  ·show Inv X pins σ (upd H s.heap.objs.size (.tup [.int i,x])) { s with heap:=g2,gens:=s.gens,drawn:=s.drawn,toks:=tk+1 }
   refine Inv.step (s:=s) (g':=s.gens) (d':=s.drawn) (t':=tk+1) (ch:=[e,it]) I (fun c hm=>?_) (fun c o _ _ hm e _=>kp2 c o hm e) (fun c o _ _ hm e _=>⟨o.slots,kp2 c o hm e⟩) (fun c o hm e n=>by rw[xX (nT c o e)];exact n) (fun c o hm e=>⟨o,kp2 c o hm e⟩)
    (fun c zs e=>by rw[xX (xI e fr)];exact e) (fun c o u e=>by rw[xX (xI e fr)];exact e) (fun c ps e=>⟨#[],by rw[xX (xI e fr),e];simp⟩) (fun m hm=>?_) (fun c u e=>?_) I.bare
   ·obtain⟨_,f1,_,f3,f4,f5⟩:=hf c hm
    exact⟨f3,f1,f4,f5⟩
   ·obtain⟨o,es,ep,ho,r⟩:=hm
    exact⟨o,es,ep,kp2 _ o (fun z'=>(hf _ z').2.1 rfl) ho,r⟩
   ·by_cases hc':c=s.heap.objs.size
    ·subst hc'
     rw[x9] at e
     cases e
     exact⟨by show 2≤sizeLine;decide,[.int i tk,xv],.cons ⟨_,rfl⟩ (.cons rx .nil),_,T2,rfl,0,rfl⟩
    ·rw[xX hc'] at e
     refine(I.hok c u e).stay (fun c' v hcc q'=>kp2 c' v ?_ q') (fun c' q'=>by rw[xX (xI q' fr)];exact q') (fun c' zs q'=>by rw[xX (xI q' fr)];exact q') fun c' o u q'=>by rw[xX (xI q' fr)];exact q'
     rcases hcc with rfl | hcc
     ·exact nfp _ _ e
     ·exact nfp _ _ hcc
  ·rw[xX]
   ·exact(hf c hm).1
   ·simp only[xkE,xkT,xls] at hm
    rcases hm with z | z<;>subst z
    ·exact nT _ _ s1
    ·obtain⟨o,e,_⟩:=(rQ b _ a []).ob _ _ s2;exact nT _ _ e
 done:=by
  intro X hP hw hK hc i pins s σ H E I hf st hg
  subst hP hw hK
  obtain⟨⟨old,s1⟩,s2⟩:=st
  obtain⟨xs,sq1,hend⟩:=hg
  obtain⟨vs,rv,c1⟩:=I.sq2 sq1
  have hT:s.TypeIs (.ref e) "enumerate" := ⟨_,s1,rfl⟩
  unfold pyNext
  refine wpAny_bind (wpAny_attempt (wpAny_callSpecial?_slot (name:=Str.ofString "__next__") hT F.slot_enumerate_next (wpAny_call_entry F.slot_enumerate_next hT F.entry_enumerate_next ?_ (F.args_enumerate_next_1 _))))
  show wpAny _ _ (field (.ref e) 2 >>= _) _ _ _
  refine wpAny_bind (wpAny_field s1 rfl (x:=.ref it) rfl ?_)
  refine wpAny_bind ((rQ b it a vs).fin _ _ _ _ i s _ (I.ok.hd hc) s2 c1 (xkf (by rw[←rv.length];exact hend)) fun g x kp hx'=>?_)
  obtain⟨o,ho,hcl⟩:=hx'
  refine wpAny_bind (wpAny_isInstance (T := "StopIteration") (b:=true) ⟨o,ho,hcl⟩ isSubtype_stop (wpAny_pure ⟨rfl,?_⟩))
  have kp2:∀c o,c∉[e,it]→s.heap.get? c=some o→g.get? c=some o:=fun c o hc q=>by
   simp only[xkE,xkT,xls,not_or] at hc
   exact kp c o hc.2 q
  have nfp:∀c u,H c=some u→c∉[e,it]:=fun c u q hm=>by rw[(hf c hm).1] at q;cases q
  refine Inv.step (s:=s) (g':=s.gens) (d':=s.drawn) (t':=s.toks) (ch:=[e,it]) I (fun c hm=>?_) (fun c o _ _ hm e _=>kp2 c o hm e) (fun c o _ _ hm e _=>⟨o.slots,kp2 c o hm e⟩) (fun c o hm e n=>n) (fun c o hm e=>⟨o,kp2 c o hm e⟩)
   (fun c zs e=>e) (fun c o u e=>e) (fun c ps e=>⟨#[],by rw[e];simp⟩) (fun m hm=>?_) (fun c u e=>?_) I.bare
  ·obtain⟨_,f1,_,f3,f4,f5⟩:=hf c hm
   exact⟨f3,f1,f4,f5⟩
  ·obtain⟨o,es,ep,ho,r⟩:=hm
   exact⟨o,es,ep,kp2 _ o (fun z'=>(hf _ z').2.1 rfl) ho,r⟩
  ·refine(I.hok c u e).stay (fun c' v hcc q'=>kp2 c' v ?_ q') (fun _ q'=>q') (fun _ _ q'=>q') fun _ _ _ q'=>q'
   rcases hcc with rfl | hcc
   ·exact nfp _ _ e
   ·exact nfp _ _ hcc
 self:=fun A i s Q E st h=>by
  obtain⟨⟨old,s1⟩,_⟩:=st
  exact wpAny_pyIter_enum s1 h
end
open AutoSeq1 (wpAny_loadPart') in
theorem kS (l:Addr)(items:Array Value)(n:Nat)(dct:Option Addr)(sl:Array (Option Value)) :
  Meets (Builtin.«enumerate.__new__» ⟨[.type "enumerate", .ref l],[]⟩) (fun _ R s=>s.heap.get? l=some { cls:=.type "tuple", dict:=dct,data:=.seq items n,slots:=sl } ∧
   R (.ok (.ret (.ref (s.heap.push { cls:=.type "tuple_iterator", data:=.fields #[.ref l,.int 0 0] }).objs.size)))
    { s with heap:=(s.heap.push { cls:=.type "tuple_iterator", data:=.fields #[.ref l,.int 0 0] }).push { cls:=.type "enumerate", data:=.fields #[.none,.bool false,.ref s.heap.objs.size,rawInt 0,.none,.none] } }) :=
 .of_wp fun prog w A R s h=>by
  obtain⟨hp,g,d,tk,os⟩:=s;obtain⟨hl,h⟩:=h
  have hsub:=sub_enumerate
  have hL:Heap.IsTuple (Shared.heap ⟨hp,g,d,tk,os⟩) l items:=⟨_,hl,rfl,n,rfl⟩
  wp_walk using wpAny_loadPart' hl
  refine wpAny_stack_any fun st=>wpAny_pure ?_
  split
  ·rename_i c _ _ _ _ _
   cases (c == Value.type "enumerate")
   ·wp_walk using wpAny_loadPart' hl,wpAny_pyIter_tuple hL
    exact⟨_,rfl,h⟩
   ·wp_walk using wpAny_loadPart' hl,wpAny_pyIter_tuple hL
    exact⟨_,rfl,h⟩
  ·wp_walk using wpAny_loadPart' hl,wpAny_pyIter_tuple hL
   exact⟨_,rfl,h⟩
section
variable {prog:Program} {w:World} {A:Around} {E:Value→Shared→Prop} {s:Shared}
theorem kQ (hL:s.heap.IsTuple l items)
  (h:∀h',IsEnum h' (s.heap.objs.size+1) s.heap.objs.size 0 .none→h'.IsTupleIter s.heap.objs.size l 0→h'.objs.size=s.heap.objs.size+2 →
   (∀b o,s.heap.get? b=some o→h'.get? b=some o)→Q (.ref (s.heap.objs.size+1)) { s with heap:=h' }) :
  wpAny (model prog w) A (call (.type "enumerate") [.ref l]) Q E s:=by
 obtain⟨⟨c,dct,dt,sl⟩,hl,hc,n,hd⟩:=hL
 replace hc:c=.type "tuple" := hc
 replace hd:dt=.seq items n:=hd
 subst hc hd
 refine callType_new F.called_enumerate (by decide) (F.typeCall_enumerate_1 _) (F.newCall_enumerate_1 _) (fun obj=>F.args_object_init_2 obj _) F.entry_enumerate_new
  (kS l items n dct sl) ⟨hl,?_⟩
 have hz:(s.heap.push { cls:=.type "tuple_iterator", data:=.fields #[.ref l,.int 0 0] }).objs.size=s.heap.objs.size+1:=Heap.size_push ..
 show _∧_
 rw[hz]
 have he:IsEnum ((s.heap.push { cls:=.type "tuple_iterator", data:=.fields #[.ref l,.int 0 0] }).push
   { cls:=.type "enumerate", data:=.fields #[.none,.bool false,.ref s.heap.objs.size,rawInt 0,.none,.none] }) (s.heap.objs.size+1) s.heap.objs.size 0 .none:=by
  have:=Heap.get?_push_size (s.heap.push { cls:=.type "tuple_iterator", data:=.fields #[.ref l,.int 0 0] })
   (o:={ cls:=.type "enumerate", data:=.fields #[.none,.bool false,.ref s.heap.objs.size,rawInt 0,.none,.none] }) rfl
  rw[hz] at this;exact this
 refine⟨⟨_,he,rfl⟩,h _ he ⟨_,Heap.get?_push_of_some _ (Heap.get?_push_size _ rfl),rfl,rfl⟩ (by rw[Heap.size_push,hz]) fun b o x=>Heap.get?_push_of_some _ (Heap.get?_push_of_some _ x)⟩
end
theorem nj:bootBuiltins "enumerate" = some (.type "enumerate"):=by decide +kernel
def xgS (K:PySem.W.Frag)(ta:TA):TI:=fun σ H R=>ta σ H fun vs H1=>∃(b:Bool) (a:Addr) (xs:List V),vs=[.ref a]∧Sq2 K b H1 a xs∧R (Ite K b a) H1
section
variable {X:Cx}
theorem cX (K:PySem.W.Frag)(hg:Gl X "enumerate")(hm:X.mg "enumerate" = none)(ha:PA X [a] ta)(hs:starEach [a] X.env=[(false,eval a X.env)]:=by rfl)(eK:X.K=K:=by rfl) :
  PI X (.Tuple elts kk pp) (.Call (.Name "enumerate" p) [a] [] pos) (xgS K ta):=by
 subst eK
 intro pins s σ H R I h
 refine Call_ (sH I hg hm nj (PyProof.Rows.callWith_type1 (thn (@ha pos pins s σ H _ I h) fun us s1 ⟨vs,H1,I1,r1,q1⟩=>?_) (by rw[hs];rfl) (by rfl)))
 obtain⟨bb,a1,xs,e,sq1,q⟩:=q1
 subst e
 obtain⟨u1,rfl,ru⟩:=vals1 r1
 obtain rfl:u1=Value.ref a1:=ru
 obtain⟨vs,rv,c1⟩:=I1.sq2 sq1
 have mk:∀g,ESt bb (s1.heap.objs.size+1) s1.heap.objs.size a1 0 g→a1<s1.heap.objs.size→(∀c o,s1.heap.get? c=some o→g.get? c=some o) →
   wpAny (model X.prog X.w) X.A (pyIter (.ref (s1.heap.objs.size+1))) (PIE X pins σ (.Tuple elts kk pp) R) X.xe { s1 with heap:=g }:=fun g st la kp=>by
  obtain⟨⟨old,he⟩,st2⟩:=st
  refine wpAny_pyIter_enum he ⟨_,[s1.heap.objs.size+1,s1.heap.objs.size],ESt bb (s1.heap.objs.size+1) s1.heap.objs.size a1,_,H1,rfl,I1.kept (t':=s1.toks) kp,
   xaM (Nat.succ_ne_self _) (xlg (xlc la)) (xlg la),⟨⟨old,he⟩,st2⟩,fun b hb=>?_,q⟩
  simp only[xkE,xkT,xls] at hb
  rcases hb with rfl | rfl
  ·exact I1.fpOk (xk8 _) (I1.hok.fresh (xk8 _))
  ·exact I1.fpOk (xk7 _) (I1.hok.fresh (xk7 _))
 cases bb with
 | true =>
  have c1:s1.heap.IsTuple a1 vs.toArray:=c1
  refine kQ c1 ?_
  intro g z1 z2 _ kp
  refine mk g ⟨⟨_,z1⟩,z2⟩ ?_ kp
  obtain⟨o,e,_⟩:=c1;exact Heap.lt_size e
 | false =>
  have c1:s1.heap.IsList a1 vs.toArray:=c1
  refine call_enumerate_list c1 ?_
  intro g z1 z2 _ kp
  refine mk g ⟨⟨_,z1⟩,z2⟩ ?_ kp
  obtain⟨o,e,_⟩:=c1;exact Heap.lt_size e
end
def lZ:Nat→List Tr→List Tr
 | _,[]=>[]
 | k,t::ts=>.tup [.int k,t]::lZ (k+1) ts
def qJ (ts:List Tr):List Tr:=lZ 0 ts
theorem uP:∀(k:Nat) (ts:List Tr),(lZ k ts).length=ts.length
 | _,[]=>rfl
 | k,_::ts=>by show(lZ (k+1) ts).length+1=_;rw[uP];rfl
theorem jz:∀ {k:Nat} {ts:List Tr} {i:Nat} {t:Tr},ts[i]? = some t→(lZ k ts)[i]? = some (.tup [.int ((k+i:Nat):Int),t])
 | _,[],_,_,h=>by simp at h
 | k,x::ts,0,t,h=>by simp at h;subst h;rfl
 | k,x::ts,i+1,t,h=>by
  show(lZ (k+1) ts)[i]? = _
  rw[jz (k:=k+1) (ts:=ts) (i:=i) (by simpa using h)]
  rw[show k+1+i=k+(i+1) by omega]
section
variable {K:PySem.W.Frag}
theorem xbO:ItL (Ite K false a) (qJ ts) [(.lst ts,.ref a)] where
 go:=fun F H i s hi=>by
  obtain⟨a',ws,e,n,h,r⟩:=s _ xkG
  cases e
  rw[show(qJ ts).length=ts.length from uP 0 ts] at hi
  obtain⟨w,e1,_⟩:=r.getT (xke hi)
  exact⟨ws,w,SqL.of h,e1⟩
 stop:=fun F H s=>by
  obtain⟨a',ws,e,n,h,r⟩:=s _ xkG
  cases e
  exact⟨ws,SqL.of h,by rw[show(qJ ts).length=ts.length from uP 0 ts,←r.len];exact xk7 _⟩
 yld:=fun F i H x H' s d hi y=>by
  obtain⟨a',ws,e,n,h,r⟩:=s _ xkG
  cases e
  obtain⟨v,q,hv,rfl,hq,rfl⟩:=y
  obtain⟨t,e1,e2⟩:=r.get (hv ws (SqL.of h))
  refine⟨.inr ⟨q,_,hq,rfl⟩,.tup [.int i,t],?_,q,_,rfl,fun z=>d q z hq,x9,⟨_,_,rfl,rfl,_,_,rfl,rD hq e2,rfl⟩⟩
  have:=jz (k:=0) e1
  rw[Nat.zero_add] at this
  exact this
theorem xau:ItL (Ite K true a) (qJ ts) [(.tup ts,.ref a)] where
 go:=fun F H i s hi=>by
  obtain⟨a',ws,e,n,h,r⟩:=s _ xkG
  cases e
  rw[show(qJ ts).length=ts.length from uP 0 ts] at hi
  obtain⟨w,e1,_⟩:=r.getT (xke hi)
  exact⟨ws,w,SqT.of h,e1⟩
 stop:=fun F H s=>by
  obtain⟨a',ws,e,n,h,r⟩:=s _ xkG
  cases e
  exact⟨ws,SqT.of h,by rw[show(qJ ts).length=ts.length from uP 0 ts,←r.len];exact xk7 _⟩
 yld:=fun F i H x H' s d hi y=>by
  obtain⟨a',ws,e,n,h,r⟩:=s _ xkG
  cases e
  obtain⟨v,q,hv,rfl,hq,rfl⟩:=y
  obtain⟨t,e1,e2⟩:=r.get (hv ws (SqT.of h))
  refine⟨.inr ⟨q,_,hq,rfl⟩,.tup [.int i,t],?_,q,_,rfl,fun z=>d q z hq,x9,⟨_,_,rfl,rfl,_,_,rfl,rD hq e2,rfl⟩⟩
  have:=jz (k:=0) e1
  rw[Nat.zero_add] at this
  exact this
def xg1 (d:DA):DI:=fun τ KK=>d τ fun xs=>match xs with | [.tup ts]=>KK (qJ ts) | [.lst ts]=>KK (qJ ts) | _=>False
theorem rf (h:OkA K b n ta da):OkI K b (xgS K ta) (xg1 da):=fun B φ σ τ H R KK Rs hd q =>
 h B φ σ τ H _ _ Rs hd fun ts vs H1 x1 k1 l1 r1=>by
  split at k1
  ·rename_i us
   obtain⟨v,rfl,r⟩:=fG r1
   obtain⟨a,ws,e,n,ha,rl⟩:=id r
   subst e
   exact⟨true,a,ws,rfl,SqT.of ha,q _ _ _ H1 x1 k1 xau fun p hp=>by
    cases xkP.mp hp
    exact r⟩
  ·rename_i us
   obtain⟨v,rfl,r⟩:=fG r1
   obtain⟨a,ws,e,n,ha,rl⟩:=id r
   subst e
   exact⟨false,a,ws,rfl,SqL.of ha,q _ _ _ H1 x1 k1 xbO fun p hp=>by
    cases xkP.mp hp
    exact r⟩
  ·exact k1.elim
end
end L2
namespace L2
open PySem PySem.Spec PyProof.Rows
def xgx (K:PySem.W.Frag):R2:=fun x y H Q=>∃a b xs ys,x=.ref a∧y=.ref b∧SqT K H a xs∧SqT K H b ys∧xs.length+ys.length≤sizeLine ∧
 (xs=[]→Q (.ref b) H)∧(xs≠[]→ys=[]→Q (.ref a) H)∧(xs≠[]→ys≠[]→∀p,H p=none→Q (.ref p) (upd H p (.tup (xs++ys))))
section
variable {X:Cx}
theorem xfz:OpR X (binaryOp .Add) (xgx X.K):=by
 intro pins s σ H x y v u Q I rx ry h
 obtain⟨a,b,xs,ys,rfl,rfl,ha,hb,hz,q0,q1,q2⟩:=h
 by_cases hx:xs=[]
 ·cases rx
  cases ry
  obtain⟨its,r1,p1,_⟩:=I.tuple ha
  obtain⟨its2,r2,p2,_⟩:=I.tuple hb
  obtain⟨⟨cls,dd,data,sl⟩,ho,hc,n,hd⟩:=id p1
  obtain⟨⟨cls2,dd2,data2,sl2⟩,ho2,hc2,n2,hd2⟩:=id p2
  simp only at hc hd hc2 hd2
  subst hc hd hc2 hd2
  have hv:its=[]:=r1.nil_iff.mpr hx
  exact concat_meets ⟨_,ho,rfl⟩ ⟨_,ho2,rfl⟩ noFill_tuple_add seq_tuple_add PySem.F.slot_tuple_add PySem.F.entry_tuple_add (PySem.F.args_tuple_add_2 _ _)
   (tuple_addW0 a b its.toArray its2.toArray n n2 dd dd2 sl sl2 (by simp[hv])) ⟨ho,ho2,⟨.ref b,H,I,rfl,q0 hx⟩⟩
 ·exact xeR pins s σ H _ _ _ _ Q I rx ry ⟨a,b,xs,ys,rfl,rfl,ha,hb,hx,hz,q1 hx,q2 hx⟩
end
section
variable {X:Cx}
def xhd (K:PySem.W.Frag):R2:=fun x y H Q=>(rI0 fun i j=>.int (i+j)) x y H Q∨xhf x y H Q∨xgx K x y H Q
theorem xeG (K:PySem.W.Frag)(e:X.K=K:=by rfl):OpR X (binaryOp .Add) (xhd K):=by subst e;exact wa.or (aj.or xfz)
def xiu (K:PySem.W.Frag):R2:=fun x y H Q=>(rI0 fun i j=>.bl (decide (i<j))) x y H Q∨xiv K x y H Q
theorem qG (K:PySem.W.Frag)(hu:X.A.units+64<cLine)(e:X.K=K:=by rfl):OpR X (compareOp .Lt) (xiu K):=by subst e;exact xg3.or (xgb (xla (xk5 _ _) hu))
end
section
variable {prog:Program} {w:World} {A:Around} {E:Value→Shared→Prop} {s:Shared}
theorem ji {t sl:Addr}{items:Array Value}{vl vu:Value}{lo hi:Option Int}{Q:Value→Shared→Prop}(ht:IsTup s.heap t items)(hs:s.heap.IsSliceOf sl vl vu .none)(pl:IsPart vl lo)(pu:IsPart vu hi)
  (hw:HT.sIx items.size 0 lo=0∧HT.sIx items.size items.size hi=items.size) (h:Q (.ref t) s):wpAny (model prog w) A (getItem (.ref t) (.ref sl)) Q E s:=by
 obtain⟨os,hos,hcs,hds⟩:=id hs
 have hTs:s.TypeIs (.ref sl) "slice" := ⟨os,hos,hcs⟩
 unfold getItem
 try with_reducible refine wpAny_holding ?_
 first | refine wpAny_bind (wpAny_pure ?_) | skip
 refine wpAny_bind (wpAny_sequenceKey ht.typeIs (by decide) ?_)
 refine wpAny_bind (wpAny_callSpecial?_slot (name:=Str.ofString "__getitem__") ht.typeIs PyProof.Rows.slot_tuple_getitem
  (wpAny_call_entry PyProof.Rows.slot_tuple_getitem ht.typeIs entry_tuple_getitem ?_ (args_tuple_getitem _ _)))
 show wpAny _ _ (Builtin.Tuple.tupleItemsOf (.ref t) >>= _) _ _ s
 refine wpAny_bind (tupleItemsOf_ ht ?_)
 refine wpAny_bind (wpAny_typeOf hTs ?_)
 rw[if_pos (by decide)]
 refine wpAny_bind (HT.qp hs pl pu ?_)
 have hyes:(((HT.sIx items.size 0 lo:Nat):Int) == 0&&(1:Int) == 1&&(HT.sIx items.size items.size hi-HT.sIx items.size 0 lo) == items.size)=true:=by
  rw[hw.1,hw.2];simp
 show wpAny _ _ (if (((HT.sIx items.size 0 lo:Nat):Int) == 0&&(1:Int) == 1&&(HT.sIx items.size items.size hi-HT.sIx items.size 0 lo) == items.size)=true then _ else _) _ _ s
 rw[if_pos hyes]
 have hex:∀ {Q':Bool→Shared→Prop} {E':Value→Shared→Prop} {A':Around},Q' true s→wpAny (model prog w) A' (Builtin.Tuple.tupleIsExact (.ref t)) Q' E' s:=fun {Q' E' A'} hq=>by
  unfold Builtin.Tuple.tupleIsExact
  refine wpAny_bind (wpAny_typeOf ht.typeIs (wpAny_pure ?_))
  have e:(Value.type "tuple" == Value.type "tuple")=true:=by decide
  rw[e];exact hq
 refine wpAny_bind (hex ?_)
 rw[if_pos rfl]
 exact wpAny_bind (wpAny_rule (wpAny_pure ⟨_,rfl,wpAny_pure h⟩))
end
section
variable {X:Cx}
def xfR (K:PySem.W.Frag):V→Option Int→Option Int→Hp→VK→Prop:=fun x lo hi H Q=>∃a xs,x=.ref a∧SqT K H a xs ∧
 (lG xs lo hi=xs→Q (.ref a) H)∧∀p,H p=none→Q (.ref p) (upd H p (.tup (lG xs lo hi)))
theorem xfa:SlR X (xfR X.K):=by
 intro pins s σ H x v vl vu lo hi sl Q I rx hs pl pu h
 obtain⟨a,xs,rfl,hx,q0,q⟩:=h
 by_cases hw:HT.sIx xs.length 0 lo=0∧HT.sIx xs.length xs.length hi=xs.length
 ·cases rx
  obtain⟨its,r,ht,hz⟩:=I.tuple hx
  have hlen:its.toArray.size=xs.length:=by rw[xkX];exact r.length.symm
  refine⟨"tuple", _,PyProof.Rows.slot_tuple_getitem.lookup,ht.typeIs,?_⟩
  refine ji ht hs pl pu (by rw[hlen];exact hw) ⟨.ref a,H,I,rfl,q0 ?_⟩
  unfold lG
  rw[hw.1,hw.2,xj3,Nat.sub_zero,xk1]
 ·exact xhb pins s σ H _ v vl vu lo hi sl Q I rx hs pl pu ⟨a,xs,rfl,hx,hw,q⟩
def xiA (K:PySem.W.Frag):V→Option Int→Option Int→Hp→VK→Prop:=fun x lo hi H Q=>xgL K x lo hi H Q∨xfR K x lo hi H Q
theorem oF (K:PySem.W.Frag)(e:X.K=K:=by rfl):SlR X (xiA K):=by
 subst e
 intro pins s σ H x v vl vu lo hi sl Q I rx hs pl pu h
 rcases h with h | h
 ·exact xbE pins s σ H x v vl vu lo hi sl Q I rx hs pl pu h
 ·exact xfa pins s σ H x v vl vu lo hi sl Q I rx hs pl pu h
def xbA:V→List V→Hp→VK→Prop:=fun x vs H Q=>∃(l:Addr) (xs:List V) (y:V) (k:Nat),x=.ref l∧vs=[.int k,y]∧H l=some (.lst xs)∧xs.length<sizeLine∧k≤xs.length∧Q .non (upd H l (.lst (xs.take k++[y]++xs.drop k)))
theorem xga (I:Inv X pins σ H s)(hH:H l=some (.lst xs))(hz:xs.length<sizeLine)(ki:Int)(k:Nat)(t1:Tok)(hk1:0≤ki)(hk3:ki≤(xs.length:Int))(hkt:ki.toNat=k)
  (ru:RelV y u2) (q:Q .non (upd H l (.lst (xs.take k++[y]++xs.drop k)))):wpAny (model X.prog X.w) X.A (call (.builtin "list.insert") [.ref l,.int ki t1,u2]) (EP X pins σ Q) X.xe s:=by
 obtain⟨z,its,n,r,hl,e⟩:=I.lstM hH
 have hk2:ki<2 ^ 63:=by
  have:xs.length≤16777216:=z
  omega
 have hfit:¬(!Builtin.List.listFitsIndex ki)=true:=by
  rw[fitsIndex_both (by omega) hk2]
  exact xji
 have hsz:its.toArray.size≤sizeLine:=by rw[xkX];omega
 have hk':k≤its.length:=by omega
 refine call_meets F.slot_list_insert ⟨_,e,rfl⟩ F.entry_list_insert (F.args_list_insert_3 _ _ _) (AutoSeq1.list_insert_list_int_val_1 l its.toArray n ki t1 u2 hfit hsz) ⟨e,?_⟩
 refine⟨.non,_,I.lset (its':=its.take k++[u2]++its.drop k) hH e ?_ ((zh.append (r.take k) (.cons ru .nil)).append (r.drop k)) ?_,rfl,q⟩
 ·have e1:(if ki<0 then(ki+(its.toArray.size:Int)).toNat else min ki.toNat its.toArray.size)=k:=by
   rw[if_neg (by omega),hkt,xkX,Nat.min_eq_left hk']
  show((its.toArray.extract 0 (if ki<0 then(ki+(its.toArray.size:Int)).toNat else min ki.toNat its.toArray.size)).push u2++its.toArray.extract (if ki<0 then(ki+(its.toArray.size:Int)).toNat else min ki.toNat its.toArray.size))=_
  rw[e1]
  apply Array.toList_inj.mp
  simp
  exact xk2 (by rw[xko];exact xk7 _)
 ·simp only[xkm,xkw,xko,xkv]
  omega
theorem xbj:MtM X "list.insert" xbA:=by
 intro pins s σ H x vs v us Q I rx rv h
 obtain⟨l,xs,y,k,rfl,rfl,hH,hz,hk,q⟩:=h
 cases rx
 obtain⟨u1,u2,rfl,⟨t1,rfl⟩,ru⟩:=vals2 rv
 have hk1:(0:Int)≤(k:Int):=xjQ k
 have hk3:(k:Int)≤(xs.length:Int):=Int.ofNat_le.mpr hk
 have hkt:(k:Int).toNat=k:=xjR k
 generalize (k:Int)=ki at hk1 hk3 hkt ⊢
 exact xga I hH hz ki k t1 hk1 hk3 hkt ru q
end
section
variable {K:PySem.W.Frag} {fr:Bool}
def xcS (x y:Tr)(KK:Tr→Prop):Prop:=match x,y with
 | .int i,.int j=>KK (.int (i+j))
 | .lst ts,.lst us=>ts.length+us.length≤sizeLine∧KK (.lst (ts++us))
 | .tup ts,.tup us=>ts.length+us.length≤sizeLine∧KK (.tup (ts++us))
 | _,_=>False
theorem xfl (ha:OkE K b ta da)(hb:OkE K b tb db):OkE K b (tOp (xhd K) ta tb) (d2 xcS da db):=fun B φ σ τ H Q KK R hd q =>
 ha B φ σ τ H _ _ R hd fun t v H1 x1 k1 r1=>hb B φ σ τ H1 _ _ (R.hx x1) k1 fun u w H2 x2 k2 r2=>by
  have r1':=x2.rep (fun a s=>R.sB s) r1
  have x:=x1.trans x2
  replace k2:xcS t u KK:=k2
  unfold xcS at k2
  split at k2
  ·rename_i i j
   cases (show v=.int i from r1');cases (show w=.int j from r2)
   exact .inl ⟨i,j,rfl,rfl,q _ _ H2 x k2 rfl⟩
  ·rename_i ts us
   obtain⟨a,ws,e,n,ha',rl⟩:=r1'
   obtain⟨a2,ws2,e2,n2,ha2,rl2⟩:=r2
   exact .inr (.inl ⟨a,a2,ws,ws2,e,e2,ha',ha2,by rw[←rl.len,←rl2.len];exact k2.1,fun p hp=>q _ _ _ (x.trans (HX.new (R.hx x) hp _)) k2.2 ⟨p,_,rfl,fun z=>(R.hx x).domB z hp,x9,uu hp (rl.app rl2)⟩⟩)
  ·rename_i ts us
   obtain⟨a,ws,e,n,ha',rl⟩:=id r1'
   obtain⟨a2,ws2,e2,n2,ha2,rl2⟩:=id r2
   refine .inr (.inr ⟨a,a2,ws,ws2,e,e2,SqT.of ha',SqT.of ha2,by rw[←rl.len,←rl2.len];exact k2.1,fun z=>?_,fun _ z=>?_,fun _ _ p hp=>q _ _ _ (x.trans (HX.new (R.hx x) hp _)) k2.2 ⟨p,_,rfl,fun z=>(R.hx x).domB z hp,x9,uu hp (rl.app rl2)⟩⟩)
   ·have e0:ts=[]:=by
     have:=rl.len;rw[z] at this;exact xkp.mp this
    subst e0
    rw[←e2];exact q _ _ H2 x k2.2 (by rw[xkQ];exact r2)
   ·have e0:us=[]:=by
     have:=rl2.len;rw[z] at this;exact xkp.mp this
    subst e0
    rw[←e];exact q _ _ H2 x k2.2 (by rw[xjZ];exact r1')
  ·exact k2.elim
def xix (x y:Tr)(KK:Tr→Prop):Prop:=match x,y with
 | .int i,.int j=>KK (.bl (decide (i<j)))
 | x,y=>∃ns ms:List Int,x=.tup (ns.map Tr.int)∧y=.tup (ms.map Tr.int)∧KK (.bl (HT.lexLt ns ms))
theorem qw:OpS (xiu K) xix:=fun F G H x y t u KK Q r1 r2 hf q=>by
 unfold xix at hf
 split at hf
 ·rename_i i j
  cases (show x=.int i from r1);cases (show y=.int j from r2)
  exact .inl ⟨i,j,rfl,rfl,q _ _ rfl hf⟩
 ·obtain⟨ns,ms,rfl,rfl,k⟩:=hf
  obtain⟨a,ws,e,n,ha,rl⟩:=r1
  obtain⟨a2,ws2,e2,n2,ha2,rl2⟩:=r2
  rw[ft rl] at ha
  rw[ft rl2] at ha2
  exact .inr ⟨a,a2,ns,ms,e,e2,SqT.of ha,SqT.of ha2,q _ _ rfl k⟩
theorem l9 {F:Addr→Prop}{H:Hp}{ts:List Tr}{ws:List V}{lo hi:Option Int}(r:zi F H ts ws)(h:lG ws lo hi=ws):dJ ts lo hi=ts:=by
 unfold dJ
 unfold lG at h
 rw[←r.len] at h
 have h1:((ts.drop (HT.sIx ts.length 0 lo)).take (HT.sIx ts.length ts.length hi-HT.sIx ts.length 0 lo)).length=ts.length:=by
  have:=xlk List.length h
  rw[xkw,xko] at this ⊢
  rw[←r.len] at this
  exact this
 have h2:HT.sIx ts.length 0 lo=0∨ts.length=0:=by
  rw[xkw,xko] at h1
  omega
 rcases h2 with h2 | h2
 ·rw[h2,xj3,Nat.sub_zero]
  rw[h2,xkw,xj3,Nat.sub_zero] at h1
  exact xk2 (by omega)
 ·have:ts=[]:=xkp.mp h2
  subst this
  simp
theorem pO {b:Bool}{te:TE}{tl th:TO}{d:DE}{dl dh:DO}(h:OkE K b te d)(hl:OkO K tl dl)(hh:OkO K th dh):OkE K b (tSl (xiA K) te tl th) (dSl d dl dh):=fun B φ σ τ H Q KK R hd q =>
 h B φ σ τ H _ _ R hd fun t v H1 x1 k1 r1=>hl B φ σ τ H1 _ _ (R.hx x1) k1 fun lo H2 x2 k2=>hh B φ σ τ H2 _ _ (R.hx (x1.trans x2)) k2 fun hi H3 x3 k3=>by
  have r3:=(x2.trans x3).rep (fun a s=>R.sB s) r1
  have x:=(x1.trans x2).trans x3
  cases t with
  | lst ts =>
   obtain⟨a,ws,e,n,ha,rl⟩:=r3
   exact .inl ⟨a,ws,e,SqL.of ha,fun p hp=>q _ _ _ (x.trans (HX.new (R.hx x) hp _)) k3 ⟨p,_,rfl,fun z=>(R.hx x).domB z hp,x9,uu hp (rl.cut lo hi)⟩⟩
  | tup ts =>
   obtain⟨a,ws,e,n,ha,rl⟩:=id r3
   refine .inr ⟨a,ws,e,SqT.of ha,fun z=>?_,fun p hp=>q _ _ _ (x.trans (HX.new (R.hx x) hp _)) k3 ⟨p,_,rfl,fun z=>(R.hx x).domB z hp,x9,uu hp (rl.cut lo hi)⟩⟩
   rw[←e]
   exact q _ _ H3 x k3 (by rw[l9 rl z];exact r3)
  | _=>exact k3.elim
def xih (i:Nat)(dk d:DE):DS:=fun G τ=>match nth τ i with
 | .ow ts=>dk τ fun k=>d τ fun t=>∃n:Nat,k=.int n∧n≤ts.length∧ts.length<sizeLine∧G.nx (τ.set i (.ow (ts.take n++[t]++ts.drop n)))
 | _=>False
theorem xbq (n:Nat)(r:zi F H ts ws):zi F H (ts.take n) (ws.take n):=zB.mpr (jg n (zB.mp r))
theorem xai (n:Nat)(r:zi F H ts ws):zi F H (ts.drop n) (ws.drop n):=zB.mpr (k6 n (zB.mp r))
theorem xeF (hk:OkE K b tk dk)(h:OkE K true te d):OkS K fr (xcJ (tBM K "list" xbA (sZ i) (vD tk (vD te lR)))) (xih i dk d):=fun B φ σ τ H E G R hd e=>by
 have en:=R.ent i
 unfold xih at hd
 revert en hd
 cases hi:nth τ i with
 | ow ts =>
  intro hd ⟨a,ws,e1,e2,e3,e4,r⟩
  refine⟨_,e1,.inl ⟨rfl,_,SqL.of e4⟩,hk B φ σ τ H _ _ R hd fun t0 v0 H0 x0 k0 r0=>h B φ σ τ H0 _ _ (R.hx x0) k0 fun t v H1 x1 k1 r1=>?_⟩
  obtain⟨n,rfl,hn,hz,k1⟩:=k1
  cases (show v0=.int n from r0)
  obtain⟨ws',f4,f5,_⟩:=kK R (x0.trans x1) hi e1
  exact⟨a,ws',v,n,rfl,rfl,f4,by rw[←f5.len];exact hz,by rw[←f5.len];exact hn,e.nx φ σ _ _ ((R.hx (x0.trans x1)).wrOw hi e1 (((xbq n f5).app (show zi _ _ [t] [v] from⟨v,[],rfl,r1,rfl⟩)).app (xai n f5))) k1⟩
 | _=>exact fun z _=>z.elim
end
end L2
namespace L2
open PySem PySem.Spec PyProof.Rows
def xfB (b:Bool):String:=if b then "tuple_iterator" else "list_iterator"
abbrev za1 (b:Bool)(h:Heap)(a:Addr):Heap:=h.push { cls:=.type (xfB b),data:=.fields #[.ref a,.int 0 0] }
abbrev za2 (b c:Bool)(h:Heap)(a d:Addr):Heap:=(za1 b h a).push { cls:=.type (xfB c),data:=.fields #[.ref d,.int 0 0] }
abbrev za3 (b c:Bool)(h:Heap)(a d:Addr):Heap:=(za2 b c h a d).push { cls:=.type "tuple", data:=.seq #[.ref h.objs.size,.ref (za1 b h a).objs.size] }
abbrev za4 (b c:Bool)(h:Heap)(a d:Addr):Heap:=(za3 b c h a d).push { cls:=.type "tuple", data:=.seq #[.none,.none] }
abbrev za5 (b c:Bool)(h:Heap)(a d:Addr):Heap:=(za4 b c h a d).push { cls:=.type "zip", data:=.fields #[.none,.bool false,.bool false,.ref (za2 b c h a d).objs.size,.ref (za3 b c h a d).objs.size] }
theorem fh (h:xae b a vs s.heap)(q:Q (.ref s.heap.objs.size) { s with heap:=za1 b s.heap a }):wpAny (model prog w) A (pyIter (.ref a)) Q E s:=by
 cases b with
 | true=>exact wpAny_pyIter_tuple (show s.heap.IsTuple a vs.toArray from h) q
 | false=>exact wpAny_pyIter_list (show s.heap.IsList a vs.toArray from h) q
theorem xbz (s:xae b a vs h)(o:Obj):xae b a vs (h.push o):=(rQ b 0 a vs).smv _ _ s fun o' e=>Heap.get?_push_of_some _ e
theorem xbc (b c:Bool)(a d:Addr)(xs ys:List Value):Meets (Builtin.«zip.__new__» ⟨[.type "zip", .ref a,.ref d],[]⟩) (fun _ R s=>xae b a xs s.heap∧xae c d ys s.heap∧R (.ok (.ret (.ref (za4 b c s.heap a d).objs.size))) { s with heap:=za5 b c s.heap a d }) :=
 .of_wp fun prog w A R s h=>by
  obtain⟨hp,g,dd,tk,os⟩:=s
  obtain⟨ha,hb,h⟩:=h
  have hsub:=sub_zip
  have A1:xae b a xs (Shared.heap ⟨hp,g,dd,tk,os⟩):=ha
  have B1:xae c d ys (Shared.heap ⟨hp.push { cls:=.type (xfB b),data:=.fields #[.ref a,.int 0 0] },g,dd,tk,os⟩):=xbz hb _
  wp_walk using fh A1,fh B1
  exact⟨_,rfl,h⟩
section
variable {prog:Program} {w:World} {A:Around} {E:Value→Shared→Prop} {s:Shared}
theorem xb4 (ha:xae b a xs s.heap)(hb:xae c d ys s.heap)
  (h:∀g,IsZip g (s.heap.objs.size+4) (s.heap.objs.size+2) (s.heap.objs.size+3) .none→IsPair g (s.heap.objs.size+2) (.ref s.heap.objs.size) (.ref (s.heap.objs.size+1))→IsPair g (s.heap.objs.size+3) .none .none →
   Tn2 b s.heap.objs.size a 0 g→Tn2 c (s.heap.objs.size+1) d 0 g→(∀c o,s.heap.get? c=some o→g.get? c=some o)→Q (.ref (s.heap.objs.size+4)) { s with heap:=g }) :
  wpAny (model prog w) A (call (.type "zip") [.ref a,.ref d]) Q E s:=by
 refine callType_new F.called_zip (by decide) (F.typeCall_zip_2 _ _) (F.newCall_zip_2 _ _) (fun obj=>F.args_object_init_3 obj _ _) F.entry_zip_new (xbc b c a d xs ys) ⟨ha,hb,?_⟩
 have n1:(za1 b s.heap a).objs.size=s.heap.objs.size+1:=Heap.size_push ..
 have n2:(za2 b c s.heap a d).objs.size=s.heap.objs.size+2:=by rw[Heap.size_push,n1]
 have n3:(za3 b c s.heap a d).objs.size=s.heap.objs.size+3:=by rw[Heap.size_push,n2]
 have n4:(za4 b c s.heap a d).objs.size=s.heap.objs.size+4:=by rw[Heap.size_push,n3]
 have o5:(za5 b c s.heap a d).get? (za4 b c s.heap a d).objs.size=some _:=Heap.get?_push_size _ rfl
 have o4:(za5 b c s.heap a d).get? (za3 b c s.heap a d).objs.size=some _:=Heap.get?_push_of_some _ (Heap.get?_push_size _ rfl)
 have o3:(za5 b c s.heap a d).get? (za2 b c s.heap a d).objs.size=some _:=Heap.get?_push_of_some _ (Heap.get?_push_of_some _ (Heap.get?_push_size _ rfl))
 have o2:(za5 b c s.heap a d).get? (za1 b s.heap a).objs.size=some _:=Heap.get?_push_of_some _ (Heap.get?_push_of_some _ (Heap.get?_push_of_some _ (Heap.get?_push_size _ rfl)))
 have o1:(za5 b c s.heap a d).get? s.heap.objs.size=some _:=Heap.get?_push_of_some _ (Heap.get?_push_of_some _ (Heap.get?_push_of_some _ (Heap.get?_push_of_some _ (Heap.get?_push_size _ rfl))))
 show _∧_
 rw[n2,n3,n4] at o5
 rw[n1,n2] at o3
 rw[n3] at o4
 rw[n1] at o2
 rw[n4]
 refine⟨⟨_,o5,rfl⟩,h _ o5 o3 o4 ?_ ?_ fun c o g=>Heap.get?_push_of_some _ (Heap.get?_push_of_some _ (Heap.get?_push_of_some _ (Heap.get?_push_of_some _ (Heap.get?_push_of_some _ g))))⟩
 ·cases b with
  | true=>exact⟨_,o1,rfl,rfl⟩
  | false=>exact⟨_,o1,rfl,rfl⟩
 ·cases c with
  | true=>exact⟨_,o2,rfl,rfl⟩
  | false=>exact⟨_,o2,rfl,rfl⟩
end
def xhS (K:PySem.W.Frag)(b c:Bool)(a1 a2:Addr):It :=
 ⟨fun i H=>∃xs ys x y,Sq2 K b H a1 xs∧Sq2 K c H a2 ys∧xs[i]? = some x∧ys[i]? = some y,
  fun i H v H'=>∃x y q,(∀xs,Sq2 K b H a1 xs→xs[i]? = some x)∧(∀ys,Sq2 K c H a2 ys→ys[i]? = some y)∧v=.ref q∧H q=none∧H'=upd H q (.tup [x,y]),
  fun i H=>∃xs ys,Sq2 K b H a1 xs∧Sq2 K c H a2 ys∧(xs.length≤i∨ys.length≤i)⟩
section
variable {P:Program} {w:World} {K:PySem.W.Frag} {z ti to i1 i2 a1 a2:Addr} {b c':Bool}
def ZS2 (b c:Bool)(z ti to i1 i2 a1 a2:Addr)(i:Nat)(h:Heap):Prop:=IsZip h z ti to .none∧IsPair h ti (.ref i1) (.ref i2)∧(∃p q,IsPair h to p q)∧Tn2 b i1 a1 i h∧Tn2 c i2 a2 i h
theorem xaP (D:ZA z ti to i1 i2 a1 a2):Turn P w K (.Tuple elts kk pp) (xhS K b c' a1 a2) [z,ti,to,i1,i2] z (ZS2 b c' z ti to i1 i2 a1 a2) where
 mem:=by simp
 obj:=fun i h st c hc=>by
  obtain⟨s1,s2,⟨p,q,s3⟩,s4,s5⟩:=st
  simp only[xkE,xkT,xls] at hc
  rcases hc with e | e | e | e | e<;>subst e
  ·exact⟨_,s1,fun v=>by simp⟩
  ·exact⟨_,s2,fun v=>by simp⟩
  ·exact⟨_,s3,fun v=>by simp⟩
  ·exact(rQ b _ a1 []).ob _ _ s4
  ·exact(rQ c' _ a2 []).ob _ _ s5
 keep:=fun i h h' st k=>by
  obtain⟨s1,s2,⟨p,q,s3⟩,s4,s5⟩:=st
  exact⟨k _ (by simp) _ s1,k _ (by simp) _ s2,⟨p,q,k _ (by simp) _ s3⟩,(rQ b i1 a1 []).mv _ _ _ s4 fun o e=>k _ (by simp) o e,(rQ c' i2 a2 []).mv _ _ _ s5 fun o e=>k _ (by simp) o e⟩
 item:=by
  intro X hP hw hK hc i pins s σ H E I hf st hg
  subst hP hw hK
  obtain⟨Z,TI,⟨p,q,TO⟩,b1,b2⟩:=st
  obtain⟨xs,ys,x,y,sq1,sq2,hx,hy⟩:=hg
  obtain⟨vs,rv,c1⟩:=I.sq2 sq1
  obtain⟨us,ru,c2⟩:=I.sq2 sq2
  obtain⟨xv,ex,rx⟩:=rv.get hx
  obtain⟨yv,ey,ry⟩:=ru.get hy
  have hT:s.TypeIs (.ref z) "zip" := ⟨_,Z,rfl⟩
  have fr:H s.heap.objs.size=none:=I.hok.fresh (xk7 _)
  unfold pyNext
  refine wpAny_bind (wpAny_attempt (wpAny_callSpecial?_slot (name:=Str.ofString "__next__") hT F.slot_zip_next (wpAny_call_entry F.slot_zip_next hT F.entry_zip_next (xbP D (rQ b i1 a1 vs) (rQ c' i2 a2 us) Z TI TO b1 b2 c1 c2 ex ey fun g Z' TO' b1' b2' T' kp=>?_) (F.args_zip_next_1 _))))
  refine wpAny_pure ⟨_,rfl,wpAny_letOwnedTupleGo_zip Z' fun g2 Z2 S2=>?_⟩
  obtain⟨⟨d1,d2,d3,d4,d5,d6,d7,d8,d9,d10⟩,_⟩:=D
  have ltz:z<s.heap.objs.size:=Heap.lt_size Z
  have kp2:∀c o,c∉[z,ti,to,i1,i2]→s.heap.get? c=some o→g2.get? c=some o:=fun c o hc e=>by
   simp only[xkE,xkT,xls,not_or] at hc
   exact S2.extBut _ _ hc.1 (kp c o hc.1 hc.2.2.1 hc.2.2.2.1 hc.2.2.2.2 e)
  have TI2:IsPair g2 ti (.ref i1) (.ref i2):=S2.extBut _ _ d1 (kp _ _ d1 d5 d6 d7 TI)
  have T2:IsPair g2 s.heap.objs.size xv yv:=S2.extBut _ _ (xlf ltz) T'
  have st2:ZS2 b c' z ti to i1 i2 a1 a2 (i+1) g2:=⟨Z2,TI2,⟨_,_,S2.extBut _ _ d2 TO'⟩,(rQ b i1 a1 vs).mv _ _ _ b1' fun o=>S2.extBut _ o d3,(rQ c' i2 a2 us).mv _ _ _ b2' fun o=>S2.extBut _ o d4⟩
  have nfp:∀c u,H c=some u→c∉[z,ti,to,i1,i2]:=fun c u e hm=>by rw[(hf c hm).1] at e;cases e
  have nT:∀c o,s.heap.get? c=some o→c≠s.heap.objs.size:=fun c o e=>xlg (Heap.lt_size e)
  refine⟨.ref s.heap.objs.size,upd H s.heap.objs.size (.tup [x,y]),?_,rfl,⟨x,y,_,fun xs' h'=>by rw[←I.sq2_inj sq1 h'];exact hx,fun ys' h'=>by rw[←I.sq2_inj sq2 h'];exact hy,rfl,fr,rfl⟩,st2,fun c hm=>?_⟩
  ·show Inv X pins σ (upd H s.heap.objs.size (.tup [x,y])) { s with heap:=g2,gens:=s.gens,drawn:=s.drawn,toks:=s.toks }
   refine Inv.step (s:=s) (g':=s.gens) (d':=s.drawn) (t':=s.toks) (ch:=[z,ti,to,i1,i2]) I (fun c hm=>?_) (fun c o _ _ hm e _=>kp2 c o hm e) (fun c o _ _ hm e _=>⟨o.slots,kp2 c o hm e⟩) (fun c o hm e n=>by rw[xX (nT c o e)];exact n) (fun c o hm e=>⟨o,kp2 c o hm e⟩)
    (fun c zs e=>by rw[xX (xI e fr)];exact e) (fun c o u e=>by rw[xX (xI e fr)];exact e) (fun c ps e=>⟨#[],by rw[xX (xI e fr),e];simp⟩) (fun m hm=>?_) (fun c u e=>?_) I.bare
   ·obtain⟨_,f1,_,f3,f4,f5⟩:=hf c hm
    exact⟨f3,f1,f4,f5⟩
   ·obtain⟨o,es,ep,ho,r⟩:=hm
    exact⟨o,es,ep,kp2 _ o (fun z'=>(hf _ z').2.1 rfl) ho,r⟩
   ·by_cases hc':c=s.heap.objs.size
    ·subst hc'
     rw[x9] at e
     cases e
     exact⟨by show 2≤sizeLine;decide,[xv,yv],.cons rx (.cons ry .nil),_,T2,rfl,0,rfl⟩
    ·rw[xX hc'] at e
     refine(I.hok c u e).stay (fun c' v hcc q'=>kp2 c' v ?_ q') (fun c' q'=>by rw[xX (xI q' fr)];exact q') (fun c' zs q'=>by rw[xX (xI q' fr)];exact q') fun c' o u q'=>by rw[xX (xI q' fr)];exact q'
     rcases hcc with rfl | hcc
     ·exact nfp _ _ e
     ·exact nfp _ _ hcc
  ·rw[xX]
   ·exact(hf c hm).1
   ·simp only[xkE,xkT,xls] at hm
    rcases hm with e | e | e | e | e<;>subst e
    ·exact nT _ _ Z
    ·exact nT _ _ TI
    ·exact nT _ _ TO
    ·obtain⟨o,e,_⟩:=(rQ b _ a1 []).ob _ _ b1;exact nT _ _ e
    ·obtain⟨o,e,_⟩:=(rQ c' _ a2 []).ob _ _ b2;exact nT _ _ e
 done:=by
  intro X hP hw hK hc i pins s σ H E I hf st hg
  subst hP hw hK
  obtain⟨Z,TI,⟨p,q,TO⟩,b1,b2⟩:=st
  obtain⟨xs,ys,sq1,sq2,hend⟩:=hg
  obtain⟨vs,rv,c1⟩:=I.sq2 sq1
  obtain⟨us,ru,c2⟩:=I.sq2 sq2
  have hT:s.TypeIs (.ref z) "zip" := ⟨_,Z,rfl⟩
  have he:vs[i]? = none∨us[i]? = none:=hend.imp (fun h=>List.getElem?_eq_none_iff.mpr (by rw[←rv.length];exact h)) (fun h=>List.getElem?_eq_none_iff.mpr (by rw[←ru.length];exact h))
  unfold pyNext
  refine wpAny_bind (wpAny_attempt (wpAny_callSpecial?_slot (name:=Str.ofString "__next__") hT F.slot_zip_next (wpAny_call_entry F.slot_zip_next hT F.entry_zip_next (xcU (I.ok.hd hc) D (rQ b i1 a1 vs) (rQ c' i2 a2 us) Z TI TO b1 b2 c1 c2 he fun g e kp ho=>?_) (F.args_zip_next_1 _))))
  obtain⟨o,ho,hcl⟩:=ho
  refine wpAny_bind (wpAny_isInstance (T := "StopIteration") (b:=true) ⟨o,ho,hcl⟩ isSubtype_stop (wpAny_pure ⟨rfl,?_⟩))
  have kp2:∀c o,c∉[z,ti,to,i1,i2]→s.heap.get? c=some o→g.get? c=some o:=fun c o hc e=>by
   simp only[xkE,xkT,xls,not_or] at hc
   exact kp c o hc.1 hc.2.2.1 hc.2.2.2.1 hc.2.2.2.2 e
  have nfp:∀c u,H c=some u→c∉[z,ti,to,i1,i2]:=fun c u e hm=>by rw[(hf c hm).1] at e;cases e
  refine Inv.step (s:=s) (g':=s.gens) (d':=s.drawn) (t':=s.toks) (ch:=[z,ti,to,i1,i2]) I (fun c hm=>?_) (fun c o _ _ hm e _=>kp2 c o hm e) (fun c o _ _ hm e _=>⟨o.slots,kp2 c o hm e⟩) (fun c o hm e n=>n) (fun c o hm e=>⟨o,kp2 c o hm e⟩)
   (fun c zs e=>e) (fun c o u e=>e) (fun c ps e=>⟨#[],by rw[e];simp⟩) (fun m hm=>?_) (fun c u e=>?_) I.bare
  ·obtain⟨_,f1,_,f3,f4,f5⟩:=hf c hm
   exact⟨f3,f1,f4,f5⟩
  ·obtain⟨o,es,ep,ho,r⟩:=hm
   exact⟨o,es,ep,kp2 _ o (fun z'=>(hf _ z').2.1 rfl) ho,r⟩
  ·refine(I.hok c u e).stay (fun c' v hcc q'=>kp2 c' v ?_ q') (fun _ q'=>q') (fun _ _ q'=>q') fun _ _ _ q'=>q'
   rcases hcc with rfl | hcc
   ·exact nfp _ _ e
   ·exact nfp _ _ hcc
 self:=fun A i s Q E st h=>wpAny_pyIter_zip st.1 h
end
def xgU (K:PySem.W.Frag)(ta:TA):TI:=fun σ H R=>ta σ H fun vs H1=>∃(b c:Bool) (a1 a2:Addr) (xs ys:List V),vs=[.ref a1,.ref a2]∧Sq2 K b H1 a1 xs∧Sq2 K c H1 a2 ys∧R (xhS K b c a1 a2) H1
section
variable {X:Cx}
theorem rL (K:PySem.W.Frag)(hg:Gl X "zip")(hm:X.mg "zip" = none)(ha:PA X [a,b] ta)(hs:starEach [a,b] X.env=[(false,eval a X.env),(false,eval b X.env)]:=by rfl)(hs2:starEach [b] X.env=[(false,eval b X.env)]:=by rfl)(eK:X.K=K:=by rfl) :
  PI X (.Tuple elts kk pp) (.Call (.Name "zip" p) [a,b] [] pos) (xgU K ta):=by
 subst eK
 intro pins s σ H R I h
 refine Call_ (sH I hg hm xf9 (PyProof.Rows.callWith_type1 (thn (@ha pos pins s σ H _ I h) fun us s1 ⟨vs,H1,I1,r1,q1⟩=>?_) (by rw[hs,hs2]) (by rw[hs2];rfl)))
 obtain⟨bb,cc,a1,a2,xs,ys,e,sq1,sq2,q⟩:=q1
 subst e
 obtain⟨u1,u2,rfl,e1,e2⟩:=vals2 r1
 obtain rfl:u1=Value.ref a1:=e1
 obtain rfl:u2=Value.ref a2:=e2
 obtain⟨vs,rv,c1⟩:=I1.sq2 sq1
 obtain⟨us,ru,c2⟩:=I1.sq2 sq2
 have fp:∀k:Nat,cY X pins H1 (s1.heap.objs.size+k):=fun k=>I1.fpOk (xk5 _ _) (I1.hok.fresh (xk5 _ _))
 have lt:∀(b:Bool) (a:Addr) (vs:List Value),xae b a vs s1.heap→a<s1.heap.objs.size:=fun b a vs h=>by
  cases b with
  | true=>obtain⟨o,e,_⟩:=(show s1.heap.IsTuple a vs.toArray from h);exact Heap.lt_size e
  | false=>obtain⟨o,e,_⟩:=(show s1.heap.IsList a vs.toArray from h);exact Heap.lt_size e
 refine xb4 c1 c2 ?_
 intro g z1 z2 z3 z4 z5 kp
 have st:ZS2 bb cc (s1.heap.objs.size+4) (s1.heap.objs.size+2) (s1.heap.objs.size+3) s1.heap.objs.size (s1.heap.objs.size+1) a1 a2 0 g:=⟨z1,z2,⟨_,_,z3⟩,z4,z5⟩
 refine wpAny_pyIter_zip st.1 ⟨_,_,_,_,H1,rfl,I1.kept (t':=s1.toks) kp,xaP (xf4 (lt _ _ _ c1) (lt _ _ _ c2)),st,fun c hc=>?_,q⟩
 simp only[xkE,xkT,xls] at hc
 rcases hc with e | e | e | e | e<;>subst e
 ·exact fp 4
 ·exact fp 2
 ·exact fp 3
 ·exact fp 0
 ·exact fp 1
end
def xac:List Tr→List Tr→List Tr
 | t::ts,u::us=>.tup [t,u]::xac ts us
 | _,_=>[]
theorem rH:∀(ts us:List Tr),(xac ts us).length=min ts.length us.length
 | [],_=>by simp[xac]
 | _::_,[]=>by simp[xac]
 | _::ts,_::us=>by simp only[xac,xkn,rH ts us];omega
theorem p9:∀ {ts us:List Tr} {i:Nat} {t u:Tr},ts[i]? = some t→us[i]? = some u→(xac ts us)[i]? = some (.tup [t,u])
 | [],_,_,_,_,h,_=>by simp at h
 | _::_,[],_,_,_,_,h=>by simp at h
 | _::_,_::_,0,_,_,h,h'=>by simp at h h';subst h h';rfl
 | _::ts,_::us,i+1,t,u,h,h'=>by
  show(xac ts us)[i]? = _
  exact p9 (by simpa using h) (by simpa using h')
def sqT (b:Bool)(ts:List Tr):Tr:=if b then .tup ts else .lst ts
section
variable {K:PySem.W.Frag}
theorem q_ (h:Rep F H (sqT b ts) (.ref a)):∃ws,Sq2 K b H a ws∧zi F H ts ws:=by
 cases b with
 | true =>
  obtain⟨a',ws,e,n,h,r⟩:=(show Rep F H (.tup ts) (.ref a) from h)
  cases e
  exact⟨ws,SqT.of h,r⟩
 | false =>
  obtain⟨a',ws,e,n,h,r⟩:=(show Rep F H (.lst ts) (.ref a) from h)
  cases e
  exact⟨ws,SqL.of h,r⟩
theorem xcL:ItL (xhS K b c a1 a2) (xac ts us) [(sqT b ts,.ref a1),(sqT c us,.ref a2)] where
 go:=fun F H i s hi=>by
  obtain⟨ws,h1,r1⟩:=q_ (K:=K) (s _ xkG)
  obtain⟨ws2,h2,r2⟩:=q_ (K:=K) (s _ (xkF _ xkG))
  rw[rH] at hi
  obtain⟨w,e1,_⟩:=r1.getT (xke (i:=i) (by omega))
  obtain⟨w2,e2,_⟩:=r2.getT (xke (i:=i) (by omega))
  exact⟨ws,ws2,w,w2,h1,h2,e1,e2⟩
 stop:=fun F H s=>by
  obtain⟨ws,h1,r1⟩:=q_ (K:=K) (s _ xkG)
  obtain⟨ws2,h2,r2⟩:=q_ (K:=K) (s _ (xkF _ xkG))
  refine⟨ws,ws2,h1,h2,?_⟩
  rw[rH,←r1.len,←r2.len];omega
 yld:=fun F i H x H' s d hi y=>by
  obtain⟨ws,h1,r1⟩:=q_ (K:=K) (s _ xkG)
  obtain⟨ws2,h2,r2⟩:=q_ (K:=K) (s _ (xkF _ xkG))
  obtain⟨v,v2,q,hv,hv2,rfl,hq,rfl⟩:=y
  obtain⟨t,e1,g1⟩:=r1.get (hv ws h1)
  obtain⟨u,e2,g2⟩:=r2.get (hv2 ws2 h2)
  exact⟨.inr ⟨q,_,hq,rfl⟩,.tup [t,u],p9 e1 e2,q,_,rfl,fun z=>d q z hq,x9,⟨_,_,rfl,rD hq g1,_,_,rfl,rD hq g2,rfl⟩⟩
def xhM:Tr→Option (Bool×List Tr)
 | .tup ts=>some (true,ts)
 | .lst ts=>some (false,ts)
 | _=>none
def xhQ (d:DA):DI:=fun τ KK=>d τ fun xs=>match xs with
 | [x,y]=>(match xhM x,xhM y with | some p,some q=>KK (xac p.2 q.2) | _,_=>False)
 | _=>False
theorem t_ (h:xhM x=some p):x=sqT p.1 p.2:=by
 cases x with
 | tup ts=>cases h;rfl
 | lst ts=>cases h;rfl
 | _=>cases h
theorem xaw (h:Rep F H (sqT b ts) v):∃a,v=.ref a:=by
 cases b with
 | true=>obtain⟨a,ws,e,_⟩:=(show Rep F H (.tup ts) v from h);exact⟨a,e⟩
 | false=>obtain⟨a,ws,e,_⟩:=(show Rep F H (.lst ts) v from h);exact⟨a,e⟩
theorem g_ (h:OkA K b n ta da):OkI K b (xgU K ta) (xhQ da):=fun B φ σ τ H R KK Rs hd q =>
 h B φ σ τ H _ _ Rs hd fun ts vs H1 x1 k1 l1 r1=>by
  split at k1
  ·rename_i x y
   split at k1
   ·rename_i p p' e1 e2
    obtain⟨v,w,rfl,g1,g2⟩:=xdg r1
    rw[t_ e1] at g1
    rw[t_ e2] at g2
    obtain⟨a1,rfl⟩:=xaw g1
    obtain⟨a2,rfl⟩:=xaw g2
    obtain⟨ws,s1,_⟩:=q_ (K:=K) g1
    obtain⟨ws2,s2,_⟩:=q_ (K:=K) g2
    refine⟨p.1,p'.1,a1,a2,ws,ws2,rfl,s1,s2,q _ _ _ H1 x1 k1 xcL fun z hz=>?_⟩
    simp only[xkE,xkT,xls] at hz
    rcases hz with rfl | rfl
    ·exact g1
    ·exact g2
   ·exact k1.elim
  ·exact k1.elim
end
end L2
namespace L2
open PySem PySem.Spec PyProof.Rows
theorem yJ (K:PySem.W.Frag)(e:X.K=K:=by rfl):IxR X (rIx K):=e▸xf2
end L2
namespace L2
open PySem PySem.Spec PyProof.Rows
theorem oh (W:List Tr→TSt→Prop)(h0:∀ τ,W [] τ→G.nx τ)
  (h1:∀x xs τ (N:TSt→Prop),W (x::xs) τ→(∀ τ',W xs τ'→N τ')→dg x τ fun τ'=>body { G with nx:=N,ct:=N,bk:=G.nx } τ'):∀xs τ,W xs τ→xce dg body G xs τ
 | [],τ,w=>h0 τ w
 | x::xs,τ,w=>h1 x xs τ (xce dg body G xs) w (oh W h0 h1 xs)
theorem zD (W:Nat→TSt→Prop)(w0:W 0 τ)
  (h1:∀i x τ (N:TSt→Prop),all[i]? = some x→W i τ→(∀ τ',W (i+1) τ'→N τ')→dg x τ fun τ'=>body { G with nx:=N,ct:=N,bk:=G.nx } τ')
  (h0:∀ τ,W all.length τ→G.nx τ):xce dg body G all τ:=by
 refine oh (fun xs τ=>∃i,xs=all.drop i∧i≤all.length∧W i τ) (fun τ ⟨i,e,hi,w⟩=>h0 τ ?_) (fun x xs τ N ⟨i,e,hi,w⟩ hN=>?_) all τ ⟨0,rfl,xlh _,w0⟩
 ·have:all.length≤i:=by
   have:=xlk List.length e
   rw[xko] at this
   simp at this
   omega
  have:i=all.length:=by omega
  rw[←this];exact w
 ·have hlt:i<all.length:=by
   have:=xlk List.length e
   rw[xko] at this
   simp at this
   omega
  rw[xj1 hlt] at e
  injection e with e1 e2
  exact h1 i x τ N (by rw[e1];exact xke hlt) w fun τ' w'=>hN τ' ⟨i+1,e2,hlt,w'⟩
theorem oU (W:Nat→TSt→Prop)
  (h:∀n τ (N:TSt→Prop),W n τ→(∀m τ',m<n→W m τ'→N τ')→c τ fun b=>if b=true then body { G with nx:=N,ct:=N,bk:=G.nx } τ else G.nx τ):∀k n τ,n<k→W n τ→xeu c body G k τ
 | 0,_,_,hk,_=>absurd hk (by omega)
 | k+1,n,τ,hk,w=>h n τ (xeu c body G k) w fun m τ' hm w'=>oU W h k m τ' (by omega) w'
theorem nO (W:Nat→TSt→Prop)(n:Nat)(w0:W n τ)
  (h:∀n τ (N:TSt→Prop),W n τ→(∀m τ',m<n→W m τ'→N τ')→c τ fun b=>if b=true then body { G with nx:=N,ct:=N,bk:=G.nx } τ else G.nx τ):xei c body G τ :=
 ⟨n+1,oU W h (n+1) n τ (xld n) w0⟩
theorem jM {dg:DG}{dc:DT}{de:DE}{τi:TSt}{KK:List Tr→Prop}(W:List Tr→List Tr→Prop)(h0:∀acc,W [] acc→KK acc)
  (h1:∀x xs acc (N:List Tr→Prop),W (x::xs) acc→(∀acc',W xs acc'→N acc')→dg x τi fun τ2=>dc τ2 fun b=>if b=true then de τ2 fun y=>N (acc++[y]) else N acc):∀xs acc,W xs acc→be dg dc de τi KK xs acc
 | [],acc,w=>h0 acc w
 | x::xs,acc,w=>h1 x xs acc (be dg dc de τi KK xs) w (jM W h0 h1 xs)
theorem kI {dg:DG}{de:DE}{τi:TSt}{KK:List Tr→Prop}{xs:List Tr}(g:Tr→Tr)(h1:∀x∈xs,∀N:Tr→Prop,N (g x)→dg x τi fun τ2=>de τ2 N)(h0:KK (xs.map g)):be dg lQ de τi KK xs []:=by
 refine jM (fun ys acc=>∃zs,xs=zs++ys∧acc=zs.map g) (fun acc ⟨zs,e,e2⟩=>?_) (fun x ys acc N ⟨zs,e,e2⟩ hN=>?_) xs [] ⟨[],rfl,rfl⟩
 ·rw[xjZ] at e
  subst e e2
  exact h0
 ·subst e2
  have hx:x∈xs:=by rw[e];simp
  exact h1 x hx (fun y=>N (zs.map g++[y])) (hN _ ⟨zs++[x],by rw[e];simp,by simp⟩)
theorem wM {α:Type}{f:α→Tr}{l:List α}{i:Nat}{t:Tr}(h:(l.map f)[i]? = some t):∃x,l[i]? = some x∧t=f x:=by
 rw[xkh] at h
 cases e:l[i]? with
 | none=>rw[e] at h;cases h
 | some x=>rw[e] at h;cases h;exact⟨x,rfl,rfl⟩
theorem dR (ts:List α)(n:Nat):atT ts (n:Int)=ts[n]?:=aP ts n
theorem xgh (h0:0≤k):atT ts k=ts[k.toNat]?:=by
 obtain⟨n,rfl⟩:∃n:Nat,k=(n:Int):=⟨k.toNat,by omega⟩
 rw[dR];simp
theorem tQ (ts:List α)(t:α):atT (ts++[t]) (-1)=some t:=by
 rw[xek];exact xdh ts t
theorem sqz (h:n≤1000000):n<sizeLine:=xla h (by decide)
theorem xfQ (h:n≤1000000):n≤sizeLine:=xk6 (sqz h)
theorem zS {a b:Int}(h:0≤b):a.fdiv b=a / b:=xjq a h
theorem xcD {a b:Int}(h:0≤b):a.fmod b=a % b:=Int.fmod_eq_emod_of_nonneg a h
end L2
namespace L2
open PySem PySem.Spec PyProof.Rows
section
variable {prog:Program} {w:World} {A:Around} {E:Value→Shared→Prop} {s:Shared}
theorem mU (hne:t≠it):∀(n i:Nat) (s:Shared) (Q:List Value→Shared→Prop),s.heap.IsListIter it t i→s.heap.IsList t items→i+n≤items.size →
  (∀h',h'.IsListIter it t (i+n)→Heap.SameBut it s.heap h'→Q ((items.toList.drop i).take n) { s with heap:=h' })→wpAny (model prog w) A (draw (.ref it) n) Q E s
 | 0,i,s,Q,hit,_,_,hQ=>by
  show wpAny _ _ (pure []) Q E s
  exact wpAny_pure (by simpa using hQ s.heap hit (Heap.SameBut.refl ..))
 | n+1,i,s,Q,hit,ht,hle,hQ=>by
  have hlt:i<items.size:=by omega
  show wpAny _ _ (pyNext (.ref it) >>= _) Q E s
  refine wpAny_bind (wpAny_pyNext_list_item hit ht (x:=items[i]) (by simp[hlt]) fun h₁ hit₁ hs₁=>?_)
  refine wpAny_bind (wpAny_holding (mU hne n (i+1) _ _ hit₁ (ht.extBut hs₁.extBut hne) (by omega) fun h₂ hit₂ hs₂=>wpAny_pure ?_))
  have hd:items.toList.drop i=items[i]::items.toList.drop (i+1):=by simp[xj1,hlt]
  have:=hQ h₂ (by rw[show i+(n+1)=i+1+n by omega];exact hit₂) (hs₁.trans hs₂)
  rw[hd,List.take_succ_cons] at this
  exact this
theorem gT (hh:A.handled=none)(ht:s.heap.IsList t items)
  (hQ:∀h',Heap.ExtBut s.heap.objs.size s.heap h'→Q items.toList { s with heap:=h' }):wpAny (model prog w) A (unpackItems (.ref t) items.size none) Q E s:=by
 have hlt:t≠s.heap.objs.size:=by obtain⟨o,ho,_⟩:=ht;exact xlg (Heap.lt_size ho)
 unfold unpackItems
 refine wpAny_bind ?_
 ·unfold notIterableAtAll
  refine wpAny_bind (wpAny_specialOf ht.typeIs slot_list_iter.lookup ?_)
  refine wpAny_pure ?_
  simp only[Bool.false_eq_true,if_false]
  refine wpAny_bind (wpAny_holding (wpAny_pyIter_list ht ?_))
  refine wpAny_bind (wpAny_holding (mU hlt items.size 0 _ _ ⟨_,Heap.get?_push_size _ rfl,rfl,rfl⟩ (ht.push _) (by omega) fun h₁ hit₁ hs₁=>?_))
  have hall:List.take items.size (List.drop 0 items.toList)=items.toList:=by
   rw[xj3];exact xk2 (by simp)
  rw[hall]
  rw[if_neg (by simp)]
  have ht₁:h₁.IsList t items:=(ht.push _).extBut hs₁.extBut hlt
  refine wpAny_bind (wpAny_holding (wpAny_pyNext_list_end hh hit₁ ht₁ (by simp) fun h₂ he₂=>?_))
  simp only[Option.isSome_none,Bool.false_eq_true,if_false]
  refine wpAny_pure (hQ h₂ fun b o hb e=>he₂ b o hb (hs₁.extBut b o hb (Heap.get?_push_of_some _ e)))
theorem bX (hh:A.handled=none)(ht:s.heap.IsList t items)
  (hn:targets.length=items.size) (hstar:targets.findIdx? (·.1)=none)
  (h:∀h',Heap.ExtBut s.heap.objs.size s.heap h'→wpAny (model prog w) A (assignInOrder (targets.map (·.2)) items.toList) Q E { s with heap:=h' }) :
  wpAny (model prog w) A (unpack (.ref t) targets) Q E s:=by
 unfold unpack
 rw[hn,hstar]
 exact wpAny_bind (wpAny_holding (gT hh ht h))
theorem gx (hh:A.handled=none)(ht:s.heap.IsList t items)
  (hn:(assignEach elts env).length=items.size) (hstar:(assignEach elts env).findIdx? (·.1)=none)
  (h:∀h',Heap.ExtBut s.heap.objs.size s.heap h'→wpAny (model prog w) A (assignInOrder ((assignEach elts env).map (·.2)) items.toList) Q E { s with heap:=h' }) :
  wpAny (model prog w) A (assign (.Tuple elts x1 pos) env (.ref t)) Q E s:=by
 rw[assign_Tuple]
 exact wpAny_bind (wpAny_standAt (bX hh ht hn hstar h))
end
def xik (K:PySem.W.Frag)(n:Nat)(t:TGs):TG:=fun v σ H Q=>∃a xs,v=.ref a∧SqL K H a xs∧xs.length=n∧t xs σ H Q
section
variable {X:Cx}
theorem xfh (K:PySem.W.Frag)(hc:X.calm=true)(h:PGs X es t)
  (hn:(assignEach es X.env).length=n:=by rfl) (hst:(assignEach es X.env).findIdx? (·.1)=none:=by rfl) (e:X.K=K:=by rfl):PG X (.Tuple es k pos) (xik K n t):=by
 subst e
 intro pins s σ H v u Q I r hw
 obtain⟨a,xs,e1,hq,hl,hw⟩:=hw
 subst e1
 cases r
 obtain⟨its,rv,⟨o,m,ho,hcl,hd,hs⟩,hz⟩:=I.list hq
 refine gx (I.ok.hd hc) (items:=its.toArray) ⟨o,ho,hcl,m,hs⟩ (by simp[hn,←hl,rv.length]) hst fun h' hx=>?_
 have I1:Inv X pins σ H { s with heap:=h' }:=I.kept (t':=s.toks) fun b o e=>hx b o (xlg (Heap.lt_size e)) e
 exact @h pins _ σ H xs _ Q I1 (by simpa using rv) hw
end
section
variable {K:PySem.W.Frag}
def xi_ (n:Nat)(d:DGs):DG:=fun t τ KK=>match t with | .lst ts=>ts.length=n∧d ts τ KK | _=>False
theorem xfw (h:xgP K gs ds):OkN K (xik K n gs) (xi_ n ds):=fun B φ σ τ H F t v Q KK R hF r hd q=>by
 cases t with
 | lst ts =>
  obtain⟨a,ws,e,n,ha,rl⟩:=r
  exact⟨a,ws,e,SqL.of ha,by rw[←rl.len];exact hd.1,h B φ σ τ H F ts ws Q KK R hF rl hd.2 q⟩
 | _=>exact hd.elim
def xgT (i:Nat)(db:DE):DE:=fun τ KK=>match nth τ i with | .ow ts=>db τ fun y=>xhZ (.lst ts) y KK | _=>False
theorem pV (hb:OkE K true tb db):OkF K (tOp xhf (sZ i) tb) (xgT i db):=fun B φ σ τ H Q KK R hd q=>by
 have en:=R.ent i
 unfold xgT at hd
 revert en hd
 cases hi:nth τ i with
 | ow ts =>
  intro hd ⟨a,ws,e1,e2,e3,e4,r⟩
  refine⟨_,e1,hb B φ σ τ H _ _ R hd fun u w H2 x2 k2 r2=>?_⟩
  obtain⟨ws',e4',r',_⟩:=kK R x2 hi e1
  cases u with
  | lst us =>
   obtain⟨a2,ws2,e2,n2,ha2,rl2⟩:=r2
   exact⟨a,a2,ws',ws2,rfl,e2,e4',ha2,by rw[←r'.len,←rl2.len];exact k2.1,fun p hp=>q _ _ _ _ (x2.trans (HX.new (R.hx x2) hp _)) k2.2 (x2.none hp) x9 (vS hp (r'.app rl2))⟩
  | _=>exact k2.elim
 | _=>exact fun z _=>z.elim
end
theorem xS {b:Bool}{A B:Prop}(h1:b=true→A)(h0:b=false→B):if b=true then A else B:=by
 cases b with
 | true=>exact o9 (h1 rfl)
 | false=>exact bc (h0 rfl)
end L2
namespace Pol
abbrev R3:=Int×Int×Int
def val (r p:R3):Int:=r.1*p.1+r.2.1*p.2.1-r.2.2*p.2.2
def det (u v w:R3):Int:=u.1*(v.2.1*w.2.2-v.2.2*w.2.1)-u.2.1*(v.1*w.2.2-v.2.2*w.1)+u.2.2*(v.1*w.2.1-v.2.1*w.1)
def add (u v:R3):R3:=(u.1+v.1,u.2.1+v.2.1,u.2.2+v.2.2)
def mul (k:Int)(u:R3):R3:=(k*u.1,k*u.2.1,k*u.2.2)
theorem ext3 {u v:R3}(h1:u.1=v.1)(h2:u.2.1=v.2.1)(h3:u.2.2=v.2.2):u=v:=Prod.ext h1 (Prod.ext h2 h3)
theorem val_add (r p q:R3):val r (add p q)=val r p+val r q:=by simp only[val,add];grind
theorem val_mul (r p:R3)(k:Int):val r (mul k p)=k*val r p:=by simp only[val,mul];grind
theorem wV (u v w:R3):det u v w=det v w u:=by simp only[det];grind
theorem rC (u v w:R3):det u w v = - det u v w:=by simp only[det];grind
theorem vP (u v:R3):det u v v=0:=by simp only[det];grind
theorem qz (u v:R3):det u u v=0:=by simp only[det];grind
theorem qP (u v:R3):det u v u=0:=by simp only[det];grind
theorem aS (u v p q:R3):det u v (add p q)=det u v p+det u v q:=by simp only[det,add];grind
theorem qa (u v p:R3)(k:Int):det u v (mul k p)=k*det u v p:=by simp only[det,mul];grind
theorem four (r a b c d:R3):det b c d*val r a+det a b d*val r c=det a c d*val r b+det a b c*val r d:=by simp only[det,val];grind
theorem xdy (u v w p:R3):mul (det u v w) p=add (mul (det p v w) u) (add (mul (det u p w) v) (mul (det u v p) w)):=by
 apply ext3<;>simp only[det,mul,add]<;>grind
theorem xc1 (r u w z p:R3)(hu:val r u=0)(hw:val r w=0):val r p*det u w z=val r z*det u w p:=by
 have h:=xlk (val r) (xdy u w z p)
 rw[val_mul,val_add,val_add,val_mul,val_mul,val_mul,hu,hw] at h
 rw[xjC (val r p)]
 rw[h];grind
theorem pp {a b:Int}(h:0<a)(k:0<b):0<a*b:=xjN h k
theorem pz {a b:Int}(h:0≤a)(k:0≤b):0≤a*b:=Int.mul_nonneg h k
theorem pn {a b:Int}(h:0≤a)(k:b≤0):a*b≤0:=Int.mul_nonpos_of_nonneg_of_nonpos h k
theorem np {a b:Int}(h:a≤0)(k:0≤b):a*b≤0:=Int.mul_nonpos_of_nonpos_of_nonneg h k
theorem nn {a b:Int}(h:a≤0)(k:b≤0):0≤a*b:=Int.mul_nonneg_of_nonpos_of_nonpos h k
theorem wu {a b:Int}(h:0<a)(k:0<a*b):0<b:=by
 rcases xjA 0 b with z | z
 ·exact z
 ·have:=pn (xjv h) z;omega
theorem zy {a b:Int}(h:0<a)(k:0≤a*b):0≤b:=by
 rcases xjA b 0 with z | z
 ·have:=xjL h z;omega
 ·exact z
theorem mf {a b:Int}(h:0<a)(k:a*b≤0):b≤0:=by
 rcases xjA 0 b with z | z
 ·have:=pp h z;omega
 ·exact z
theorem aA {a b:Int}(h:0<a)(k:a*b=0):b=0:=(xjF.mp k).resolve_left (by omega)
inductive Cn (l:List R3):R3→Prop
 | zero:Cn l (0,0,0)
 | mem {v}:v∈l→Cn l v
 | add {p q}:Cn l p→Cn l q→Cn l (add p q)
theorem Cn.nsmul {l:List R3}{p:R3}(h:Cn l p):∀k:Nat,Cn l (mul k p)
 | 0=>by
  have:mul ((0:Nat):Int) p=(0,0,0):=by apply ext3<;>simp[mul]
  rw[this];exact .zero
 | k+1=>by
  have:mul ((k+1:Nat):Int) p=Pol.add (mul k p) p:=by apply ext3<;>simp only[mul,Pol.add]<;>grind
  rw[this];exact(h.nsmul k).add h
theorem Cn.smul (h:Cn l p)(hk:0≤k):Cn l (mul k p):=by
 have:=h.nsmul k.toNat
 rwa [Int.toNat_of_nonneg hk] at this
theorem Cn.mono (h:Cn l p)(hl:∀v∈l,Cn l' v):Cn l' p:=by
 induction h with
 | zero=>exact .zero
 | mem m=>exact hl _ m
 | add _ _ h1 h2=>exact h1.add h2
theorem Cn.lin (h:Cn l p)(g:R3→Int)(g0:g (0,0,0)=0)(ga:∀p q,g (Pol.add p q)=g p+g q)(hl:∀v∈l,0≤g v):0≤g p:=by
 induction h with
 | zero=>omega
 | mem m=>exact hl _ m
 | add _ _ h1 h2=>rw[ga];omega
theorem Cn.valGe (h:Cn l p)(r:R3)(hl:∀v∈l,0≤Pol.val r v):0≤Pol.val r p :=
 h.lin (Pol.val r) (by simp[Pol.val]) (val_add r) hl
theorem Cn.det (h:Cn l p)(u v:R3)(hl:∀w∈l,0≤Pol.det u v w):0≤Pol.det u v p :=
 h.lin (Pol.det u v) (by simp[Pol.det]) (aS u v) hl
theorem Cn.bot {l:List R3}{p:R3}(h:Cn l p)(hl:∀v∈l,0<v.2.2):p=(0,0,0)∨0<p.2.2:=by
 induction h with
 | zero=>exact .inl rfl
 | mem m=>exact .inr (hl _ m)
 | @add p q _ _ h1 h2 =>
  rcases h1 with rfl | h1
  ·have:Pol.add (0,0,0) q=q:=by apply ext3<;>simp[Pol.add]
   rw[this];exact h2
  ·right
   show 0<p.2.2+q.2.2
   rcases h2 with rfl | h2
   ·simpa using h1
   ·omega
theorem Cn.zeros (h:Cn l p)(r:R3)(hl:∀v∈l,0≤Pol.val r v)(h0:Pol.val r p≤0):Cn (l.filter fun v=>Pol.val r v=0) p:=by
 induction h with
 | zero=>exact .zero
 | @mem v m=>exact .mem (xkH.mpr ⟨m,by have:=hl v m;simp;omega⟩)
 | @add p q hp hq h1 h2 =>
  rw[val_add] at h0
  have a:=hp.valGe r hl
  have b:=hq.valGe r hl
  exact(h1 (by omega)).add (h2 (by omega))
theorem Cn.pair {u v p:R3}(h:Cn [u,v] p):∃a b:Int,0≤a∧0≤b∧p=Pol.add (mul a u) (mul b v):=by
 induction h with
 | zero=>exact⟨0,0,by omega,by omega,by apply ext3<;>simp[Pol.add,mul]⟩
 | mem m =>
  simp only[xkE,xkT,xls] at m
  rcases m with rfl | rfl
  ·exact⟨1,0,by omega,by omega,by apply ext3<;>simp[Pol.add,mul]⟩
  ·exact⟨0,1,by omega,by omega,by apply ext3<;>simp[Pol.add,mul]⟩
 | add _ _ h1 h2 =>
  obtain⟨a,b,a0,b0,rfl⟩:=h1
  obtain⟨c,d,c0,d0,rfl⟩:=h2
  exact⟨a+c,b+d,by omega,by omega,by apply ext3<;>simp only[Pol.add,mul]<;>grind⟩
def InC (l:List R3)(p:R3):Prop:=∃m:Int,0<m∧Cn l (mul m p)
structure Ccw (l:List R3):Prop where
 tri:∀u v w:R3,List.Sublist [u,v,w] l→0<det u v w
 nd:l.Nodup
theorem xdO (h:[u,v,w]=l1++l2):(l1=[]∧l2=[u,v,w])∨(l1=[u]∧l2=[v,w])∨(l1=[u,v]∧l2=[w])∨(l1=[u,v,w]∧l2=[]):=by
 cases l1 with
 | nil=>exact .inl ⟨rfl,h.symm⟩
 | cons a t =>
  injection h with h1 h2
  subst h1
  cases t with
  | nil=>exact .inr (.inl ⟨rfl,h2.symm⟩)
  | cons b t =>
   injection h2 with h1 h2
   subst h1
   cases t with
   | nil=>exact .inr (.inr (.inl ⟨rfl,h2.symm⟩))
   | cons c t =>
    injection h2 with h1 h2
    subst h1
    have:=List.append_eq_nil_iff.mp h2.symm
    rw[this.1,this.2]
    exact .inr (.inr (.inr ⟨rfl,rfl⟩))
theorem Ccw.rot (h:Ccw (a++b)):Ccw (b++a):=by
 refine⟨fun u v w s=>?_,?_⟩
 ·obtain⟨l1,l2,e,s1,s2⟩:=xkY.mp s
  have s3:=List.Sublist.append s2 s1
  rcases xdO e with ⟨rfl,rfl⟩ | ⟨rfl,rfl⟩ | ⟨rfl,rfl⟩ | ⟨rfl,rfl⟩
  ·exact h.tri _ _ _ (by simpa using s3)
  ·have:=h.tri _ _ _ (show List.Sublist [v,w,u] (a++b) by simpa using s3)
   rw[wV];exact this
  ·have:=h.tri _ _ _ (show List.Sublist [w,u,v] (a++b) by simpa using s3)
   rw[←wV];exact this
  ·exact h.tri _ _ _ (by simpa using s3)
 ·have:=h.nd
  rw[xkR] at this ⊢
  exact⟨this.2.1,this.1,fun x hx y hy e=>this.2.2 y hy x hx e.symm⟩
theorem Ccw.alt {l:List R3}(h:Ccw l)(r:R3){a b c d:R3}(s:List.Sublist [a,b,c,d] l):¬(0<val r a∧val r b≤0∧0<val r c∧val r d≤0)∧¬(val r a≤0∧0<val r b∧val r c≤0∧0<val r d):=by
 have h1:=h.tri b c d (xjU (List.Sublist.cons _ (xjT _)) s)
 have h2:=h.tri a b d (xjU (by simp) s)
 have h3:=h.tri a c d (xjU (by simp) s)
 have h4:=h.tri a b c (xjU (by simp) s)
 have e:=four r a b c d
 constructor
 ·rintro⟨x1,x2,x3,x4⟩
  have:=pp h1 x1
  have:=pp h2 x3
  have:=pn (xjv h3) x2
  have:=pn (xjv h4) x4
  omega
 ·rintro⟨x1,x2,x3,x4⟩
  have:=pn (xjv h1) x1
  have:=pn (xjv h2) x3
  have:=pp h3 x2
  have:=pp h4 x4
  omega
theorem pE (f:R3→Bool):∀l:List R3,l=l.takeWhile f++l.dropWhile f:=fun l=>(List.takeWhile_append_dropWhile (p:=f) (l:=l)).symm
theorem xca:∀ {l:List R3},x∈l.takeWhile f→f x=true:=fun {l} h=>by
 induction l with
 | nil=>simp at h
 | cons a t ih =>
  rw[List.takeWhile_cons] at h
  split at h
  ·rcases xkE.mp h with rfl | h
   ·assumption
   ·exact ih h
  ·simp at h
theorem bC:∀ {l:List R3},l.dropWhile f=x::t→f x=false:=fun {l} h=>by
 induction l with
 | nil=>simp at h
 | cons a l ih =>
  rw[List.dropWhile_cons] at h
  split at h
  ·exact ih h
  ·rename_i hn
   injection h with h1 h2
   subst h1
   simpa using hn
theorem Ccw.parts (h:Ccw l)(r:R3):∃a b P Q,l=a++b∧b++a=P++Q∧(∀v∈P,0<val r v)∧∀v∈Q,val r v≤0:=by
 have e1:=pE (fun v=>decide (val r v≤0)) l
 have m1:∀v∈l.takeWhile fun v=>decide (val r v≤0),val r v≤0:=fun v hv=>xlr (xca hv)
 revert e1 m1
 generalize l.takeWhile (fun v=>decide (val r v≤0))=N1
 cases hd:l.dropWhile (fun v=>decide (val r v≤0)) with
 | nil =>
  intro e1 m1
  rw[xjZ] at e1
  exact⟨[],l,[],l,rfl,by simp,fun v hv=>absurd hv (by simp),fun v hv=>m1 v (e1▸hv)⟩
 | cons p R =>
  intro e1 m1
  have hp:0<val r p:=by
   have:=bC hd
   have:=xlq this
   omega
  have e2:=pE (fun v=>decide (0<val r v)) R
  have m2:∀v∈R.takeWhile fun v=>decide (0<val r v),0<val r v:=fun v hv=>xlr (xca hv)
  revert e2 m2
  generalize R.takeWhile (fun v=>decide (0<val r v))=P1
  cases hd2:R.dropWhile (fun v=>decide (0<val r v)) with
  | nil =>
   intro e2 m2
   rw[xjZ] at e2
   subst e2
   refine⟨N1,p::R,p::R,N1,e1,rfl,fun v hv=>?_,m1⟩
   rcases xkE.mp hv with rfl | hv
   ·exact hp
   ·exact m2 v hv
  | cons q S =>
   intro e2 m2
   have hq:val r q≤0:=by
    have:=bC hd2
    have:=xlq this
    omega
   have mp:∀v∈p::P1,0<val r v:=fun v hv=>by
    rcases xkE.mp hv with rfl | hv
    ·exact hp
    ·exact m2 v hv
   cases N1 with
   | cons n0 N =>
    refine⟨n0::N,p::R,p::P1,q::S++(n0::N),e1,by rw[e2];simp,mp,fun v hv=>?_⟩
    rcases xkB.mp hv with hv | hv
    ·rcases xkE.mp hv with rfl | hv
     ·exact hq
     ·rcases xjA 0 (val r v) with z | z
      ·exfalso
       have s:List.Sublist [n0,p,q,v] l:=by
        rw[e1,e2]
        have s1:List.Sublist [v] S:=xkW.mpr hv
        have s2:List.Sublist [q,v] (q::S):=s1.cons_cons q
        have s3:List.Sublist [q,v] (P1++q::S):=s2.trans (xkZ _ _)
        have s4:List.Sublist [p,q,v] (p::(P1++q::S)):=s3.cons_cons p
        have s5:List.Sublist [n0] (n0::N):=xkW.mpr xkG
        exact s5.append s4
       exact(h.alt r s).2 ⟨m1 n0 xkG,hp,hq,z⟩
      ·exact z
    ·exact m1 v hv
   | nil =>
    have e3:=pE (fun v=>decide (val r v≤0)) S
    have m3:∀v∈S.takeWhile fun v=>decide (val r v≤0),val r v≤0:=fun v hv=>xlr (xca hv)
    have hd3:∀v∈S.dropWhile (fun v=>decide (val r v≤0)),0<val r v:=fun v hv=>by
     cases hc:S.dropWhile (fun v=>decide (val r v≤0)) with
     | nil=>rw[hc] at hv;simp at hv
     | cons p2 S2 =>
      have hp2:0<val r p2:=by
       have:=bC hc
       have:=xlq this
       omega
      rw[hc] at hv
      rcases xkE.mp hv with rfl | hv
      ·exact hp2
      ·rcases xjA 0 (val r v) with z | z
       ·exact z
       ·exfalso
        have s:List.Sublist [p,q,p2,v] l:=by
         rw[e1,xkQ,e2,e3,hc]
         have s1:List.Sublist [v] S2:=xkW.mpr hv
         have s2:List.Sublist [p2,v] (p2::S2):=s1.cons_cons p2
         have s3:=s2.trans (xkZ (S.takeWhile fun v=>decide (val r v≤0)) _)
         have s4:=s3.cons_cons q
         have s5:=s4.trans (xkZ P1 _)
         exact s5.cons_cons p
        exact(h.alt r s).1 ⟨hp,hq,hp2,z⟩
    refine⟨p::P1++q::S.takeWhile (fun v=>decide (val r v≤0)),S.dropWhile (fun v=>decide (val r v≤0)),S.dropWhile (fun v=>decide (val r v≤0))++p::P1,q::S.takeWhile (fun v=>decide (val r v≤0)),?_,?_,fun v hv=>?_,fun v hv=>?_⟩
    ·rw[e1,xkQ,e2]
     conv=>lhs;rw[e3]
     simp
    ·simp
    ·rcases xkB.mp hv with hv | hv
     ·exact hd3 v hv
     ·exact mp v hv
    ·rcases xkE.mp hv with rfl | hv
     ·exact hq
     ·exact m3 v hv
end Pol
namespace Pol
def xt:R3→List R3→R3
 | p,[]=>p
 | _,x::xs=>xt x xs
theorem vi (u v w:R3):det u v w=det w u v:=by simp only[det];grind
theorem xcP (u v w:R3):det u v w = - det v u w:=by simp only[det];grind
theorem fZ (p q:R3):∀(xs ys:List R3),xt p (xs++q::ys)=xt q ys
 | [],_=>rfl
 | x::xs,ys=>fZ x q xs ys
theorem sN (p q:R3)(xs:List R3):xt p (xs++[q])=q:=fZ p q xs []
theorem yq (p:R3):∀(xs:List R3),xt p xs∈p::xs
 | []=>by simp[xt]
 | x::xs=>xkF _ (yq x xs)
theorem dj (p:R3):∀(xs:List R3),∃ys,p::xs=ys++[xt p xs]
 | []=>⟨[],rfl⟩
 | x::xs=>by
  obtain⟨ys,e⟩:=dj x xs
  exact⟨p::ys,xlk (p::·) e⟩
def chain:R3→List R3→List (R3×R3)
 | _,[]=>[]
 | p,x::xs=>(p,x)::chain x xs
theorem jv (p:R3):∀(xs ys:List R3),chain p (xs++ys)=chain p xs++chain (xt p xs) ys
 | [],_=>rfl
 | x::xs,ys=>by
  show(p,x)::chain x (xs++ys)=(p,x)::(chain x xs++chain (xt x xs) ys)
  rw[jv x xs ys]
def cyc:List R3→List (R3×R3)
 | []=>[]
 | x::xs=>chain (xt x xs) (x::xs)
theorem hU:cyc ((x::xs)++(y::ys))=chain (xt y ys) (x::xs)++chain (xt x xs) (y::ys):=by
 show chain (xt x (xs++y::ys)) ((x::xs)++(y::ys))=_
 rw[fZ,jv];rfl
theorem xbH (a b:List R3):∃c d,cyc (a++b)=c++d∧cyc (b++a)=d++c:=by
 cases a with
 | nil=>exact⟨[],cyc b,by simp,by simp⟩
 | cons x xs =>
  cases b with
  | nil=>exact⟨[],cyc (x::xs),by simp,by simp⟩
  | cons y ys=>exact⟨_,_,hU,hU⟩
theorem cR (h:p∈cyc (b++a)):p∈cyc (a++b):=by
 obtain⟨c,d,e1,e2⟩:=xbH a b
 rw[e2] at h
 rw[e1]
 exact xkB.mpr ((xkB.mp h).symm)
theorem jw:∀ {p:R3} {l:List R3},(x,y)∈chain p l→∃s t,p::l=s++x::y::t
 | _,[],h=>by simp[chain] at h
 | p,z::l,h=>by
  rcases xkE.mp h with e | h
  ·injection e with e1 e2
   subst e1 e2
   exact⟨[],l,rfl⟩
  ·obtain⟨s,t,e⟩:=jw h
   exact⟨p::s,t,by rw[e];rfl⟩
theorem fL:∀ {s:List R3} {p:R3} {l t:List R3},p::l=s++x::y::t→(x,y)∈chain p l
 | [],p,l,t,h=>by
  injection h with h1 h2
  subst h1 h2
  exact xkG
 | a::s,p,l,t,h=>by
  injection h with h1 h2
  subst h1
  cases l with
  | nil=>cases s<;>cases h2
  | cons z l=>exact xkF _ (fL (s:=s) h2)
theorem Ccw.edge (h:Ccw l)(he:(u,v)∈cyc l)(hw:w∈l):0≤det u v w:=by
 cases l with
 | nil=>simp at hw
 | cons x xs =>
  have he:(u,v)∈(xt x xs,x)::chain x xs:=he
  rcases xkE.mp he with e | he
  ·injection e with e1 e2
   subst e1 e2
   obtain⟨ys,e⟩:=dj v xs
   generalize xt v xs=L at e ⊢
   cases ys with
   | nil =>
    injection e with e1 e2
    rw[←e1,qz];exact xjy _
   | cons y ys =>
    injection e with e1 e2
    subst e1
    have e2:xs=ys++[L]:=e2
    rw[e2] at hw
    rcases xkE.mp hw with rfl | hw
    ·rw[vP];exact xjy _
    ·rcases xkB.mp hw with hw | hw
     ·have:=h.tri v w L (by
       rw[e2]
       exact((xkW.mpr hw).append (xjT [L])).cons_cons v)
      rw[vi] at this;exact xjv this
     ·have:w=L:=by simpa using hw
      rw[this,qP];exact xjy _
  ·obtain⟨s,t,e⟩:=jw he
   rw[e] at hw
   rcases xkB.mp hw with hw | hw
   ·have:=h.tri w u v (by
     rw[e]
     exact(xkW.mpr hw).append ((xjT [u,v]).trans (by simp)))
    rw[wV] at this;omega
   ·rcases xkE.mp hw with rfl | hw
    ·rw[qP];exact xjy _
    ·rcases xkE.mp hw with rfl | hw
     ·rw[vP];exact xjy _
     ·have:=h.tri u v w (by
       rw[e]
       exact((((xkW.mpr hw).cons_cons v).cons_cons u)).trans (xkZ s _))
      omega
theorem fan (x:R3)(p:R3):∀(y:R3) (ys:List R3),(∀u v,(u,v)∈chain y ys→0<det x u v∧0≤det u v p)→0≤det x y p→det x (xt y ys) p≤0→ys≠[]→∃u v,(u,v)∈chain y ys∧0≤det x u p∧det x v p≤0
 | y,[],_,_,_,h=>absurd rfl h
 | y,z::ys,hc,h0,h1,_=>by
  rcases xjA 0 (det x z p) with c | c
  ·cases ys with
   | nil=>exact absurd h1 (by show ¬det x z p≤0;omega)
   | cons a ys =>
    obtain⟨u,v,m,h2,h3⟩:=fan x p z (a::ys) (fun u v m=>hc u v (xkF _ m)) (xjv c) h1 (by simp)
    exact⟨u,v,xkF _ m,h2,h3⟩
  ·exact⟨y,z,xkG,h0,c⟩
theorem Ccw.incone (h:Ccw l)(h3:3≤l.length)(hp:∀u v,(u,v)∈cyc l→0≤det u v p):InC l p:=by
 match l,h,h3,hp with
 | x::y::z::t,h,_,hp =>
  have he:∀u v,(u,v)∈chain y (z::t)→0<det x u v∧0≤det u v p:=fun u v m=>by
   obtain⟨s,s2,e⟩:=jw m
   refine⟨h.tri x u v ?_,hp u v (xkF _ (xkF _ m))⟩
   rw[e]
   exact(((xjT [u,v]).trans (show List.Sublist [u,v] (u::v::s2) by simp)).trans (xkZ s _)).cons_cons x
  have h0:0≤det x y p:=hp x y (xkF _ xkG)
  have h1:0≤det (xt x (y::z::t)) x p:=hp _ _ xkG
  have h1':det x (xt y (z::t)) p≤0:=by
   have e:det x (xt y (z::t)) p = - det (xt x (y::z::t)) x p:=xcP _ _ _
   omega
  obtain⟨u,v,m,h2,h3⟩:=fan x p y (z::t) he h0 h1' (by simp)
  obtain⟨d1,d2⟩:=he u v m
  have mem:∀w,w=u∨w=v→w∈x::y::z::t:=fun w hw=>by
   obtain⟨s,s2,e⟩:=jw m
   have:w∈y::z::t:=by
    rw[e]
    rcases hw with rfl | rfl<;>simp
   exact xkF _ this
  refine⟨det x u v,d1,?_⟩
  rw[xdy x u v p]
  have c1:0≤det p u v:=by rw[wV];exact d2
  have c2:0≤det x p v:=by rw[rC];omega
  exact((Cn.mem xkG).smul c1).add (((Cn.mem (mem u (.inl rfl))).smul c2).add ((Cn.mem (mem v (.inr rfl))).smul h2))
end Pol
namespace Pol
def turn (r s:R3):Int:=r.1*s.2.1-r.2.1*s.1
def uI (w:R3):Nat:=Int.gcd (Int.gcd w.1 w.2.1:Int) w.2.2
def red (w:R3):R3:=(w.1 / uI w,w.2.1 / uI w,w.2.2 / uI w)
theorem oI (w:R3):(uI w:Int) ∣ w.1∧(uI w:Int) ∣ w.2.1∧(uI w:Int) ∣ w.2.2:=by
 have h1:(uI w:Int) ∣ (Int.gcd w.1 w.2.1:Int):=xjr ..
 exact⟨Int.dvd_trans h1 (xjr ..),Int.dvd_trans h1 (xjs ..),xjs ..⟩
theorem xdi (h1:d ∣ w.1)(h2:d ∣ w.2.1)(h3:d ∣ w.2.2):d ∣ (uI w:Int):=xjl (xjl h1 h2) h3
theorem kO (h:0<w.2.2):0<(uI w:Int):=by
 have:=xju (Int.gcd w.1 w.2.1:Int) (show w.2.2≠0 by omega)
 unfold uI;omega
theorem tR:mul (uI w) (red w)=w:=by
 obtain⟨h1,h2,h3⟩:=oI w
 exact ext3 (xjE h1) (xjE h2) (xjE h3)
theorem xak (h:0<w.2.2):0<(red w).2.2:=by
 have e:(uI w:Int)*(red w).2.2=w.2.2:=xlk (·.2.2) (tR (w:=w))
 exact wu (kO h) (by rw[e];exact h)
theorem xcr (h:0<w.2.2):uI (red w)=1:=by
 obtain⟨h1,h2,h3⟩:=oI (red w)
 have g:=kO h
 have d:(uI w:Int)*(uI (red w):Int) ∣ (uI w:Int):=by
  have e:=tR (w:=w)
  refine xdi ?_ ?_ ?_
  ·conv=>rhs;rw[←e]
   exact xjD _ h1
  ·conv=>rhs;rw[←e]
   exact xjD _ h2
  ·conv=>rhs;rw[←e]
   exact xjD _ h3
 have d2:(uI (red w):Int) ∣ 1:=by
  have:(uI w:Int)*(uI (red w):Int) ∣ (uI w:Int)*1:=by rw[xjM];exact d
  exact Int.dvd_of_mul_dvd_mul_left (by omega) this
 have:=Int.le_of_dvd (by decide) d2
 have p:=kO (xak h)
 omega
theorem gH (hg:uI v=1)(hz:0<v.2.2)(hs:val s v=0)(ht:val t v=0)(hn:turn s t≠0) :
  v.2.2≤(turn s t).natAbs∧v.1.natAbs≤(s.2.2*t.2.1-t.2.2*s.2.1).natAbs∧v.2.1.natAbs≤(t.2.2*s.1-s.2.2*t.1).natAbs:=by
 have e1:turn s t*v.1=v.2.2*(s.2.2*t.2.1-t.2.2*s.2.1):=by
  have:turn s t*v.1=v.2.2*(s.2.2*t.2.1-t.2.2*s.2.1)+t.2.1*val s v-s.2.1*val t v:=by simp only[turn,val];grind
  rw[hs,ht] at this;rw[this];grind
 have e2:turn s t*v.2.1=v.2.2*(t.2.2*s.1-s.2.2*t.1):=by
  have:turn s t*v.2.1=v.2.2*(t.2.2*s.1-s.2.2*t.1)+s.1*val t v-t.1*val s v:=by simp only[turn,val];grind
  rw[hs,ht] at this;rw[this];grind
 have dv:v.2.2 ∣ turn s t:=by
  have h1:v.2.2 ∣ turn s t*v.1:=⟨_,e1⟩
  have h2:v.2.2 ∣ turn s t*v.2.1:=⟨_,e2⟩
  have h3:v.2.2 ∣ turn s t*v.2.2:=Int.dvd_mul_left ..
  have g12:v.2.2 ∣ turn s t*(Int.gcd v.1 v.2.1:Int):=by
   have:=xjl h1 h2
   rw[xjt] at this
   have h4:((turn s t).natAbs*Int.gcd v.1 v.2.1:Nat)=((turn s t*(Int.gcd v.1 v.2.1:Int)).natAbs:Nat):=by rw[xjP];rfl
   rw[h4] at this
   exact xjm.mp this
  have g3:=xjl g12 h3
  rw[xjt] at g3
  have hg':Int.gcd (Int.gcd v.1 v.2.1:Int) v.2.2=1:=hg
  rw[hg',Nat.mul_one] at g3
  exact xjm.mp g3
 have zl:v.2.2≤(turn s t).natAbs:=by
  have h:=Int.le_of_dvd (show(0:Int)<((turn s t).natAbs:Int) by omega) (xjm.mpr dv)
  exact h
 refine⟨zl,?_,?_⟩
 ·have h:=xlk Int.natAbs e1
  rw[xjP,xjP] at h
  rcases Nat.lt_or_ge (s.2.2*t.2.1-t.2.2*s.2.1).natAbs v.1.natAbs with c | c
  ·exfalso
   have h1:v.2.2.natAbs≤(turn s t).natAbs:=by omega
   have h2:0<v.2.2.natAbs:=by omega
   have h3:v.2.2.natAbs*(s.2.2*t.2.1-t.2.2*s.2.1).natAbs<v.2.2.natAbs*v.1.natAbs:=Nat.mul_lt_mul_of_pos_left c h2
   have h4:v.2.2.natAbs*v.1.natAbs≤(turn s t).natAbs*v.1.natAbs:=xle _ h1
   omega
  ·exact c
 ·have h:=xlk Int.natAbs e2
  rw[xjP,xjP] at h
  rcases Nat.lt_or_ge (t.2.2*s.1-s.2.2*t.1).natAbs v.2.1.natAbs with c | c
  ·exfalso
   have h1:v.2.2.natAbs≤(turn s t).natAbs:=by omega
   have h2:0<v.2.2.natAbs:=by omega
   have h3:v.2.2.natAbs*(t.2.2*s.1-s.2.2*t.1).natAbs<v.2.2.natAbs*v.2.1.natAbs:=Nat.mul_lt_mul_of_pos_left c h2
   have h4:v.2.2.natAbs*v.2.1.natAbs≤(turn s t).natAbs*v.2.1.natAbs:=xle _ h1
   omega
  ·exact c
def abs (i:Int):Int:=if i<0 then -i else i
def cw (r u v:R3):R3:=add (mul (abs (val r v)) u) (mul (abs (val r u)) v)
def xC (r u v:R3):R3:=red (cw r u v)
theorem xaY (r u v:R3):cw r u v=cw r v u:=by apply ext3<;>simp only[cw,add]<;>omega
structure Bt (u v x:R3)(a b g:Int):Prop where
 pa:0<a
 pb:0<b
 pg:0<g
 e:mul g x=add (mul a u) (mul b v)
theorem kN (hu:0<u.2.2)(hv:0<v.2.2)(h:val r u*val r v<0):Bt u v (xC r u v) (abs (val r v)) (abs (val r u)) (uI (cw r u v))∧val r (xC r u v)=0∧0<(xC r u v).2.2∧uI (xC r u v)=1:=by
 have sg:(val r u<0∧0<val r v)∨(0<val r u∧val r v<0):=by
  rcases xjB (val r u) 0 with c | c | c
  ·rcases xjA 0 (val r v) with d | d
   ·exact .inl ⟨c,d⟩
   ·have:=nn (xjv c) d;omega
  ·rw[c] at h;simp at h
  ·rcases xjA (val r v) 0 with d | d
   ·exact .inr ⟨c,d⟩
   ·have:=pz (xjv c) d;omega
 have p1:0<abs (val r v):=by unfold abs;split<;>omega
 have p2:0<abs (val r u):=by unfold abs;split<;>omega
 have hz:0<(cw r u v).2.2:=by
  show 0<abs (val r v)*u.2.2+abs (val r u)*v.2.2
  have:=pp p1 hu
  have:=pp p2 hv
  omega
 have v0:val r (cw r u v)=0:=by
  unfold cw
  rw[val_add,val_mul,val_mul]
  rcases sg with ⟨c,d⟩ | ⟨c,d⟩
  ·have e1:abs (val r v)=val r v:=by unfold abs;rw[if_neg (by omega)]
   have e2:abs (val r u) = - val r u:=by unfold abs;rw[if_pos c]
   rw[e1,e2];grind
  ·have e1:abs (val r v) = - val r v:=by unfold abs;rw[if_pos d]
   have e2:abs (val r u)=val r u:=by unfold abs;rw[if_neg (by omega)]
   rw[e1,e2];grind
 refine⟨⟨p1,p2,kO hz,tR⟩,?_,xak hz,xcr hz⟩
 have:=xlk (val r) (tR (w:=cw r u v))
 rw[val_mul,v0] at this
 exact aA (kO hz) this
theorem Bt.val (h:Bt u v x a b g)(r:R3):g*Pol.val r x=a*Pol.val r u+b*Pol.val r v:=by
 have:=xlk (Pol.val r) h.e
 rwa [val_mul,val_add,val_mul,val_mul] at this
theorem Bt.det (h:Bt u v x a b g)(p q:R3):g*Pol.det p q x=a*Pol.det p q u+b*Pol.det p q v:=by
 have:=xlk (Pol.det p q) h.e
 rwa [qa,aS,qa,qa] at this
theorem Bt.kept (h:Bt u v x a b g)(hu:Pol.val r u≤0)(hv:Pol.val r v≤0):Pol.val r x≤0:=by
 have:=h.val r
 have:=pn (xjv h.pa) hu
 have:=pn (xjv h.pb) hv
 exact mf h.pg (by omega)
theorem Bt.tight (h:Bt u v x a b g)(hu:Pol.val r u=0)(hv:Pol.val r v=0):Pol.val r x=0:=by
 have:=h.val r
 rw[hu,hv] at this
 exact aA h.pg (by omega)
theorem unlike (hs:s.1≠0∨s.2.1≠0)(hu:0<u.2.2)(hv:0<v.2.2)(su:val s u=0)(sv:val s v=0)(h:val r u*val r v<0):turn s r≠0:=by
 intro z
 have e:s.1*(val r u*v.2.2-val r v*u.2.2)=r.1*(val s u*v.2.2-val s v*u.2.2)+turn s r*(u.2.1*v.2.2-v.2.1*u.2.2):=by simp only[val,turn];grind
 have e':s.2.1*(val r u*v.2.2-val r v*u.2.2)=r.2.1*(val s u*v.2.2-val s v*u.2.2)-turn s r*(u.1*v.2.2-v.1*u.2.2):=by simp only[val,turn];grind
 rw[z,su,sv] at e e'
 have k:val r u*v.2.2-val r v*u.2.2=0:=by
  rcases hs with c | c
  ·have e:s.1*(val r u*v.2.2-val r v*u.2.2)=0:=by rw[e];grind
   exact(xjF.mp e).resolve_left c
  ·have e':s.2.1*(val r u*v.2.2-val r v*u.2.2)=0:=by rw[e'];grind
   exact(xjF.mp e').resolve_left c
 rcases xjB (val r u) 0 with c | c | c
 ·have d:0<val r v:=by
   rcases xjA 0 (val r v) with d | d
   ·exact d
   ·have:=nn (xjv c) d;omega
  have:=xjK c hv
  have:=pp d hu
  omega
 ·rw[c] at h;simp at h
 ·have d:val r v<0:=by
   rcases xjA (val r v) 0 with d | d
   ·exact d
   ·have:=pz (xjv c) d;omega
  have:=xjK d hu
  have:=pp c hv
  omega
end Pol
namespace Pol
def seg (r:R3)(p:R3×R3):List R3:=(if val r p.1*val r p.2<0 then[xC r p.1 p.2] else[])++(if val r p.2≤0 then[p.2] else[])
def cH (r:R3)(l:List R3):List R3:=(cyc l).flatMap (seg r)
theorem oj (r:R3)(a b:List R3):∃c d,cH r (a++b)=c++d∧cH r (b++a)=d++c:=by
 obtain⟨c,d,e1,e2⟩:=xbH a b
 exact⟨c.flatMap (seg r),d.flatMap (seg r),by unfold cH;rw[e1,xj9],by unfold cH;rw[e2,xj9]⟩
theorem dG:∀ {p:R3} {P:List R3},0<val r p→(∀v∈P,0<val r v)→(chain p P).flatMap (seg r)=[]
 | p,[],_,_=>rfl
 | p,x::P,hp,h=>by
  have hx:=h x xkG
  show seg r (p,x)++(chain x P).flatMap (seg r)=[]
  rw[dG hx fun v hv=>h v (xkF _ hv),xjZ]
  unfold seg
  rw[if_neg (show ¬val r p*val r x<0 by have:=pp hp hx;omega),if_neg (show ¬val r x≤0 by omega)];rfl
theorem dU:∀ {p:R3} {Q:List R3},val r p≤0→(∀v∈Q,val r v≤0)→(chain p Q).flatMap (seg r)=Q
 | p,[],_,_=>rfl
 | p,x::Q,hp,h=>by
  have hx:=h x xkG
  show seg r (p,x)++(chain x Q).flatMap (seg r)=x::Q
  rw[dU hx fun v hv=>h v (xkF _ hv)]
  unfold seg
  rw[if_neg (show ¬val r p*val r x<0 by have:=nn hp hx;omega),if_pos (show val r (p,x).2≤0 from hx)];rfl
def bef (r p q:R3):List R3:=if val r q<0 then[xC r p q] else[]
theorem xg8 (hp:0<val r p)(hq:val r q≤0):seg r (p,q)=bef r p q++[q]:=by
 unfold seg bef
 rw[if_pos (show val r (p,q).2≤0 from hq)]
 by_cases c:val r q<0
 ·rw[if_pos c,if_pos (show val r (p,q).1*val r (p,q).2<0 from xjL hp c)]
 ·rw[if_neg c,if_neg (show ¬val r (p,q).1*val r (p,q).2<0 from by
   have e:val r q=0:=by omega
   show ¬val r p*val r q<0
   rw[e];simp)]
theorem xfC (hp:0<val r p)(hq:val r q≤0):seg r (q,p)=bef r p q:=by
 unfold seg bef
 rw[if_neg (show ¬val r (q,p).2≤0 from by show ¬val r p≤0;omega),xjZ]
 by_cases c:val r q<0
 ·rw[if_pos c,if_pos (show val r (q,p).1*val r (q,p).2<0 from xjK c hp)]
  unfold xC;rw[xaY]
 ·rw[if_neg c,if_neg (show ¬val r (q,p).1*val r (q,p).2<0 from by
   have e:val r q=0:=by omega
   show ¬val r q*val r p<0
   rw[e];simp)]
theorem sG (hP:∀v∈p1::P,0<val r v)(hQ:∀v∈q1::Q,val r v≤0) :
  cH r ((p1::P)++(q1::Q))=bef r p1 (xt q1 Q)++(bef r (xt p1 P) q1++q1::Q):=by
 unfold cH
 rw[hU,xj9]
 have h1:=hP p1 xkG
 have h2:=hQ q1 xkG
 have h3:=hQ _ (yq q1 Q)
 have h4:=hP _ (yq p1 P)
 have e1:(chain (xt q1 Q) (p1::P)).flatMap (seg r)=bef r p1 (xt q1 Q):=by
  show seg r (xt q1 Q,p1)++(chain p1 P).flatMap (seg r)=_
  rw[dG h1 fun v hv=>hP v (xkF _ hv),xjZ,xfC h1 h3]
 have e2:(chain (xt p1 P) (q1::Q)).flatMap (seg r)=bef r (xt p1 P) q1++q1::Q:=by
  show seg r (xt p1 P,q1)++(chain q1 Q).flatMap (seg r)=_
  rw[dU h2 fun v hv=>hQ v (xkF _ hv),xg8 h4 h2,xjY];rfl
 rw[e1,e2]
structure Good (Ls l:List R3):Prop where
 ccw:Ccw l
 bot:∀v∈l,0<v.2.2
 prim:∀v∈l,uI v=1
 kept:∀v∈l,∀s∈Ls,val s v≤0
 edge:∀u v,(u,v)∈cyc l→u≠v→∃s∈Ls,val s u=0∧val s v=0
 two:∀v∈l,∃s∈Ls,∃t∈Ls,val s v=0∧val t v=0∧turn s t≠0
 all:∀p:R3,0<p.2.2→(∀s∈Ls,val s p≤0)→InC l p
theorem Good.rot (h:Good Ls (a++b)):Good Ls (b++a) where
 ccw:=h.ccw.rot
 bot:=fun v hv=>h.bot v (by simpa [or_comm] using hv)
 prim:=fun v hv=>h.prim v (by simpa [or_comm] using hv)
 kept:=fun v hv=>h.kept v (by simpa [or_comm] using hv)
 edge:=fun u v e=>h.edge u v (cR e)
 two:=fun v hv=>h.two v (by simpa [or_comm] using hv)
 all:=fun p h0 h1=>by
  obtain⟨m,hm,c⟩:=h.all p h0 h1
  exact⟨m,hm,c.mono fun v hv=>.mem (by simpa [or_comm] using hv)⟩
theorem xdm:∀ {l:List R3},List.Sublist [a,b] l→3≤l.length→∃c,List.Sublist [c,a,b] l∨List.Sublist [a,c,b] l∨List.Sublist [a,b,c] l
 | [],_,h=>absurd h (by simp)
 | x::l,s,h=>by
  cases s with
  | cons _ s =>
   exact⟨x,.inl (s.cons_cons x)⟩
  | cons_cons _ s =>
   have hl:2≤l.length:=by simpa using h
   have hb:b∈l:=xkW.mp s
   obtain⟨s1,s2,e⟩:=List.append_of_mem hb
   cases s1 with
   | cons c s1 =>
    refine⟨c,.inr (.inl ?_)⟩
    rw[e]
    have:List.Sublist [c,b] (c::s1++b::s2):=(xkW.mpr xkG).append (xkW.mpr xkG)
    exact this.cons_cons a
   | nil =>
    cases s2 with
    | nil=>rw[e] at hl;simp at hl
    | cons c s2 =>
     refine⟨c,.inr (.inr ?_)⟩
     rw[e]
     simp
theorem gz (h:∀u v w:R3,List.Sublist [u,v,w] l→0<det u v w)(h3:3≤l.length):l.Nodup:=by
 refine List.pairwise_iff_forall_sublist.mpr fun {a b} s e=>?_
 subst e
 obtain⟨c,s | s | s⟩:=xdm s h3
 ·have:=h _ _ _ s;rw[vP] at this;omega
 ·have:=h _ _ _ s;rw[qP] at this;omega
 ·have:=h _ _ _ s;rw[qz] at this;omega
end Pol
namespace Pol
theorem mE (h:P≠[]):List.Sublist [p,xt p P] (p::P):=by
 cases P with
 | nil=>exact absurd rfl h
 | cons y ys=>exact(xkW.mpr (show xt p (y::ys)∈y::ys from yq y ys)).cons_cons p
structure Bw (u v x:R3)(a b g:Int):Prop where
 pa:0≤a
 pb:0<b
 pg:0<g
 e:mul g x=add (mul a u) (mul b v)
theorem Bt.w (h:Bt u v x a b g):Bw u v x a b g:=⟨xjv h.pa,h.pb,h.pg,h.e⟩
theorem Bw.self (u v:R3):Bw u v v 0 1 1:=⟨by omega,by omega,by omega,by apply ext3<;>simp[mul,add]⟩
theorem Bw.det (h:Bw u v x a b g)(p q:R3):g*Pol.det p q x=a*Pol.det p q u+b*Pol.det p q v:=by
 have:=xlk (Pol.det p q) h.e
 rwa [qa,aS,qa,qa] at this
section
variable {Ls P Q:List R3} {r p1 q1:R3}
structure xdF (Ls:List R3)(r p1 q1:R3)(P Q:List R3):Prop where
 good:Good Ls ((p1::P)++(q1::Q))
 hP:∀v∈p1::P,0<val r v
 hQ:∀v∈q1::Q,val r v≤0
 three:P≠[]∨Q≠[]
 dir:∀s∈Ls,s.1≠0∨s.2.1≠0
namespace xdF
variable (S:xdF Ls r p1 q1 P Q)
include S
theorem q1le:val r q1≤0:=S.hQ q1 xkG
theorem qmle:val r (xt q1 Q)≤0:=S.hQ _ (yq q1 Q)
theorem p1gt:0<val r p1:=S.hP p1 xkG
theorem pkgt:0<val r (xt p1 P):=S.hP _ (yq p1 P)
theorem botQ (h:v∈q1::Q):0<v.2.2:=S.good.bot v (xkD _ h)
theorem botP (h:v∈p1::P):0<v.2.2:=S.good.bot v (xkC _ h)
theorem pqq (hp:p∈p1::P)(s:List.Sublist [x,y] (q1::Q)):0<det p x y:=S.good.ccw.tri p x y ((xkW.mpr hp).append s)
theorem ppq (hp:List.Sublist [p,p'] (p1::P))(hx:x∈q1::Q):0<det p p' x:=S.good.ccw.tri p p' x (hp.append (xkW.mpr hx))
theorem qqq (s:List.Sublist [x,y,z] (q1::Q)):0<det x y z:=S.good.ccw.tri x y z (s.trans (xkZ _ _))
theorem q1xy (s:List.Sublist [x,y] (q1::Q)):0≤det q1 x y:=by
 cases s with
 | cons _ s=>exact xjv (S.qqq (s.cons_cons q1))
 | cons_cons _ s=>rw[qz];exact xjy _
theorem xyqm (s:List.Sublist [x,y] (q1::Q)):0≤det x y (xt q1 Q):=by
 obtain⟨ys,e⟩:=dj q1 Q
 have s':=s
 rw[e] at s'
 obtain⟨l1,l2,e2,s1,s2⟩:=xkY.mp s'
 cases l2 with
 | nil =>
  rw[xjZ] at e2
  subst e2
  have:=S.qqq (x:=x) (y:=y) (z:=xt q1 Q) (by rw[e];exact s1.append (xjT [xt q1 Q]))
  omega
 | cons b l2 =>
  have hb:b=xt q1 Q∧l2=[]:=by
   cases s2 with
   | cons _ s2=>cases s2
   | cons_cons _ s2=>cases s2;exact⟨rfl,rfl⟩
  obtain⟨hb,rfl⟩:=hb
  have:y=b:=by
   cases l1 with
   | nil=>cases e2
   | cons c l1 =>
    cases l1 with
    | nil=>injection e2 with _ e2;injection e2
    | cons d l1 =>
     injection e2 with _ e2
     injection e2 with _ e2
     simp at e2
  rw[this,hb,vP];exact xjy _
theorem nd:((p1::P)++(q1::Q)).Nodup:=S.good.ccw.nd
theorem p1pkx (hx:x∈q1::Q):0≤det p1 (xt p1 P) x∧(P≠[]→0<det p1 (xt p1 P) x):=by
 by_cases h:P=[]
 ·subst h
  exact⟨by show 0≤det p1 p1 x;rw[qz];exact xjy _,fun z=>absurd rfl z⟩
 ·have:=S.ppq (mE h) hx
  exact⟨by omega,fun _=>this⟩
theorem pq1x (hp:p∈p1::P)(hx:x∈q1::Q):0≤det p q1 x∧(x≠q1→0<det p q1 x):=by
 rcases xkE.mp hx with rfl | hx
 ·exact⟨by rw[vP];exact xjy _,fun z=>absurd rfl z⟩
 ·have:=S.pqq hp ((xkW.mpr hx).cons_cons q1)
  exact⟨by omega,fun _=>this⟩
theorem pxqm (hp:p∈p1::P)(hx:x∈q1::Q):0≤det p x (xt q1 Q)∧(x≠xt q1 Q→0<det p x (xt q1 Q)):=by
 obtain⟨ys,e⟩:=dj q1 Q
 rw[e] at hx
 rcases xkB.mp hx with hx | hx
 ·have:=S.pqq (x:=x) (y:=xt q1 Q) hp (by rw[e];exact(xkW.mpr hx).append (xjT [xt q1 Q]))
  exact⟨by omega,fun _=>this⟩
 ·have:x=xt q1 Q:=by simpa using hx
  rw[this]
  exact⟨by rw[vP];exact xjy _,fun z=>absurd rfl z⟩
theorem q1xqm (hx:x∈q1::Q):0≤det q1 x (xt q1 Q):=by
 rcases xkE.mp hx with rfl | hx
 ·rw[qz];exact xjy _
 ·exact S.xyqm ((xkW.mpr hx).cons_cons q1)
theorem q1ne (h:Q≠[]):q1≠xt q1 Q:=by
 have s:=mE (p:=q1) h
 have nd:=(xkR.mp S.nd).2.1
 exact List.pairwise_iff_forall_sublist.mp nd s
def w1 (r p1 q1:R3)(P:List R3):R3:=if val r q1<0 then xC r (xt p1 P) q1 else q1
def u1 (r p1 q1:R3)(Q:List R3):R3:=if val r (xt q1 Q)<0 then xC r p1 (xt q1 Q) else xt q1 Q
theorem X1 (h:val r q1<0):Bt (xt p1 P) q1 (xC r (xt p1 P) q1) (abs (val r q1)) (abs (val r (xt p1 P))) (uI (cw r (xt p1 P) q1))∧val r (xC r (xt p1 P) q1)=0∧0<(xC r (xt p1 P) q1).2.2∧uI (xC r (xt p1 P) q1)=1 :=
 kN (S.botP (yq p1 P)) (S.botQ xkG) (xjL S.pkgt h)
theorem X2 (h:val r (xt q1 Q)<0):Bt p1 (xt q1 Q) (xC r p1 (xt q1 Q)) (abs (val r (xt q1 Q))) (abs (val r p1)) (uI (cw r p1 (xt q1 Q)))∧val r (xC r p1 (xt q1 Q))=0∧0<(xC r p1 (xt q1 Q)).2.2∧uI (xC r p1 (xt q1 Q))=1 :=
 kN (S.botP xkG) (S.botQ (yq q1 Q)) (xjL S.p1gt h)
theorem w1b:∃a b g,Bw (xt p1 P) q1 (w1 r p1 q1 P) a b g∧(val r q1<0→0<a)∧val r (w1 r p1 q1 P)=0:=by
 unfold w1
 by_cases h:val r q1<0
 ·rw[if_pos h]
  obtain⟨b,z,_⟩:=S.X1 h
  exact⟨_,_,_,b.w,fun _=>b.pa,z⟩
 ·rw[if_neg h]
  exact⟨_,_,_,Bw.self _ _,fun z=>absurd z h,by have:=S.q1le;omega⟩
theorem u1b:∃a b g,Bw p1 (xt q1 Q) (u1 r p1 q1 Q) a b g∧(val r (xt q1 Q)<0→0<a)∧val r (u1 r p1 q1 Q)=0:=by
 unfold u1
 by_cases h:val r (xt q1 Q)<0
 ·rw[if_pos h]
  obtain⟨b,z,_⟩:=S.X2 h
  exact⟨_,_,_,b.w,fun _=>b.pa,z⟩
 ·rw[if_neg h]
  exact⟨_,_,_,Bw.self _ _,fun z=>absurd z h,by have:=S.qmle;omega⟩
theorem close (hc:val r q1<0∨Q≠[])(hp:val r p≤0):0≤det (u1 r p1 q1 Q) (w1 r p1 q1 P) p:=by
 obtain⟨a,b,g,bw,ha,hw⟩:=S.w1b
 obtain⟨c,d,g',bu,hcc,hu⟩:=S.u1b
 have e1:=bu.det p1 (w1 r p1 q1 P)
 rw[qP,xjO,Int.zero_add] at e1
 have e2:=bw.det (xt q1 Q) p1
 have d1:det (xt q1 Q) p1 (xt p1 P)=det p1 (xt p1 P) (xt q1 Q):=wV _ _ _
 have d2:det (xt q1 Q) p1 q1=det p1 q1 (xt q1 Q):=wV _ _ _
 rw[d1,d2] at e2
 obtain⟨f1,f2⟩:=S.p1pkx (yq q1 Q)
 obtain⟨f3,f4⟩:=S.pq1x (p:=p1) xkG (yq q1 Q)
 have k1:0<det (xt q1 Q) p1 (w1 r p1 q1 P):=by
  refine wu bw.pg ?_
  rw[e2]
  have n1:=pz bw.pa f1
  have n2:=pz (xjv bw.pb) f3
  by_cases hq:Q=[]
  ·have hp':P≠[]:=S.three.resolve_right (fun z=>z hq)
   have h0:val r q1<0:=hc.resolve_right (fun z=>z hq)
   have:=pp (ha h0) (f2 hp')
   omega
  ·have:=pp bw.pb (f4 (Ne.symm (S.q1ne hq)))
   omega
 have d3:det p1 (w1 r p1 q1 P) (xt q1 Q)=det (xt q1 Q) p1 (w1 r p1 q1 P):=vi _ _ _
 rw[d3] at e1
 have k2:0<det p1 (w1 r p1 q1 P) (u1 r p1 q1 Q):=by
  refine wu bu.pg ?_
  rw[e1];exact pp bu.pb k1
 have e3:=xc1 r (u1 r p1 q1 Q) (w1 r p1 q1 P) p1 p hu hw
 have d4:det (u1 r p1 q1 Q) (w1 r p1 q1 P) p1 = - det p1 (w1 r p1 q1 P) (u1 r p1 q1 Q):=by
  rw[vi,rC]
 rw[d4] at e3
 refine zy S.p1gt ?_
 rw[←e3]
 exact nn hp (by omega)
def left (r p1 q1:R3)(P Q:List R3):List R3:=bef r (xt p1 P) q1++(q1::Q)++bef r p1 (xt q1 Q)
theorem mem_left (h:v∈left r p1 q1 P Q):(v∈q1::Q)∨(val r q1<0∧v=xC r (xt p1 P) q1)∨(val r (xt q1 Q)<0∧v=xC r p1 (xt q1 Q)):=by
 unfold left bef at h
 rcases xkB.mp h with h | h
 ·rcases xkB.mp h with h | h
  ·split at h
   ·exact .inr (.inl ⟨by assumption,by simpa using h⟩)
   ·simp at h
  ·exact .inl h
 ·split at h
  ·exact .inr (.inr ⟨by assumption,by simpa using h⟩)
  ·simp at h
theorem sub_bef (h:List.Sublist l (bef r p q)):l=[]∨(val r q<0∧l=[xC r p q]):=by
 unfold bef at h
 split at h
 ·cases h with
  | cons _ h=>cases h;exact .inl rfl
  | cons_cons _ h=>cases h;exact .inr ⟨by assumption,rfl⟩
 ·cases h;exact .inl rfl
theorem tri (s:List.Sublist [u,v,w] (left r p1 q1 P Q)):0<det u v w:=by
 unfold left at s
 rw[xjY] at s
 obtain⟨l1,l2,e,s1,s2⟩:=xkY.mp s
 obtain⟨l3,l4,e2,s3,s4⟩:=xkY.mp s2
 have b1:=S.sub_bef s1
 have b4:=S.sub_bef s4
 subst e2
 rcases b1 with rfl | ⟨h1,rfl⟩
 ·rcases b4 with rfl | ⟨h4,rfl⟩
  ·have:[u,v,w]=l3:=by simpa using e
   subst this
   exact S.qqq s3
  ·-- q q X2
   obtain⟨bt,_⟩:=S.X2 h4
   have:l3=[u,v]∧w=xC r p1 (xt q1 Q):=by
    rcases xdO (show[u,v,w]=l3++[xC r p1 (xt q1 Q)] from e) with ⟨_,z⟩ | ⟨_,z⟩ | ⟨z1,z⟩ | ⟨_,z⟩
    ·cases z
    ·cases z
    ·cases z;exact⟨z1,rfl⟩
    ·cases z
   obtain⟨rfl,rfl⟩:=this
   have e3:=bt.det u v
   have k1:0<det u v p1:=by rw[vi];exact S.pqq xkG s3
   have k2:=S.xyqm s3
   have:=pp bt.pa k1
   have:=pz (xjv bt.pb) k2
   exact wu bt.pg (by omega)
 ·obtain⟨bt,_⟩:=S.X1 h1
  rcases b4 with rfl | ⟨h4,rfl⟩
  ·have:u=xC r (xt p1 P) q1∧l3=[v,w]:=by
    injection e with e1 e2
    exact⟨e1,by simpa using e2.symm⟩
   obtain⟨rfl,rfl⟩:=this
   have e3:=bt.det v w
   have k1:0<det v w (xt p1 P):=by rw[vi];exact S.pqq (yq p1 P) s3
   have k2:0≤det v w q1:=by rw[vi];exact S.q1xy s3
   have:=pp bt.pa k1
   have:=pz (xjv bt.pb) k2
   rw[wV]
   exact wu bt.pg (by omega)
  ·obtain⟨bu,_⟩:=S.X2 h4
   have:u=xC r (xt p1 P) q1∧l3=[v]∧w=xC r p1 (xt q1 Q):=by
    injection e with e1 e
    have e:[v,w]=l3++[xC r p1 (xt q1 Q)]:=e
    cases l3 with
    | nil=>cases e
    | cons a l3 =>
     injection e with e2 e
     cases l3 with
     | nil=>injection e with e3 _;exact⟨e1,by rw[e2],e3⟩
     | cons b l3=>injection e with _ e;simp at e
   obtain⟨rfl,rfl,rfl⟩:=this
   have hv:v∈q1::Q:=xkW.mp s3
   have e3:=bu.det (xC r (xt p1 P) q1) v
   have e4:=bt.det v p1
   have e5:=bt.det v (xt q1 Q)
   have r1:det v p1 (xt p1 P)=det p1 (xt p1 P) v:=wV _ _ _
   have r2:det v p1 q1=det p1 q1 v:=wV _ _ _
   have r3:det v (xt q1 Q) (xt p1 P)=det (xt p1 P) v (xt q1 Q):=vi _ _ _
   have r4:det v (xt q1 Q) q1=det q1 v (xt q1 Q):=vi _ _ _
   rw[r1,r2] at e4
   rw[r3,r4] at e5
   obtain⟨f1,f2⟩:=S.p1pkx hv
   obtain⟨f3,f4⟩:=S.pq1x (p:=p1) xkG hv
   obtain⟨f5,f6⟩:=S.pxqm (p:=xt p1 P) (yq p1 P) hv
   have f7:=S.q1xqm hv
   have n1:=pz (xjv bt.pa) f1
   have n2:=pz (xjv bt.pb) f3
   have n3:=pz (xjv bt.pa) f5
   have n4:=pz (xjv bt.pb) f7
   have g1:0≤det v p1 (xC r (xt p1 P) q1):=zy bt.pg (by omega)
   have g2:0≤det v (xt q1 Q) (xC r (xt p1 P) q1):=zy bt.pg (by omega)
   have some:0<det v p1 (xC r (xt p1 P) q1)∨0<det v (xt q1 Q) (xC r (xt p1 P) q1):=by
    by_cases hq:Q=[]
    ·have hp':P≠[]:=S.three.resolve_right (fun z=>z hq)
     left
     have:=pp bt.pa (f2 hp')
     exact wu bt.pg (by omega)
    ·by_cases hv1:v=q1
     ·right
      have:=pp bt.pa (f6 (by rw[hv1];exact S.q1ne hq))
      exact wu bt.pg (by omega)
     ·left
      have:=pp bt.pb (f4 hv1)
      exact wu bt.pg (by omega)
   have m1:det (xC r (xt p1 P) q1) v p1=det v p1 (xC r (xt p1 P) q1):=wV _ _ _
   have m2:det (xC r (xt p1 P) q1) v (xt q1 Q)=det v (xt q1 Q) (xC r (xt p1 P) q1):=wV _ _ _
   rw[m1,m2] at e3
   refine wu bu.pg ?_
   rw[e3]
   have t1:=pz (xjv bu.pa) g1
   have t2:=pz (xjv bu.pb) g2
   rcases some with z | z
   ·have:=pp bu.pa z;omega
   ·have:=pp bu.pb z;omega
end xdF
end
end Pol
namespace Pol
section
variable {Ls P Q:List R3} {r p1 q1:R3}
namespace xdF
variable (S:xdF Ls r p1 q1 P Q)
include S
theorem pairs (h:(u,v)∈cyc (left r p1 q1 P Q)):(u=u1 r p1 q1 Q∧v=w1 r p1 q1 P)∨(val r q1<0∧u=xC r (xt p1 P) q1∧v=q1)∨(val r (xt q1 Q)<0∧u=xt q1 Q∧v=xC r p1 (xt q1 Q))∨(u,v)∈chain q1 Q:=by
 unfold left bef at h
 unfold u1 w1
 by_cases h1:val r q1<0
 ·by_cases h2:val r (xt q1 Q)<0
  ·simp only[if_pos h1,if_pos h2,xj0,xkQ] at h ⊢
   have e:cyc (xC r (xt p1 P) q1::q1::(Q++[xC r p1 (xt q1 Q)]))=(xC r p1 (xt q1 Q),xC r (xt p1 P) q1)::(xC r (xt p1 P) q1,q1)::(chain q1 Q++[(xt q1 Q,xC r p1 (xt q1 Q))]):=by
    show(xt q1 (Q++[_]),_)::(_,q1)::chain q1 (Q++[_])=_
    rw[sN,jv];rfl
   rw[e] at h
   rcases xkE.mp h with h | h
   ·injection h with a b;exact .inl ⟨a,b⟩
   ·rcases xkE.mp h with h | h
    ·injection h with a b;exact .inr (.inl ⟨h1,a,b⟩)
    ·rcases xkB.mp h with h | h
     ·exact .inr (.inr (.inr h))
     ·have h:=xkP.mp h
      injection h with a b;exact .inr (.inr (.inl ⟨h2,a,b⟩))
  ·simp only[if_pos h1,if_neg h2,xj0,xkQ,xjZ] at h ⊢
   have e:cyc (xC r (xt p1 P) q1::q1::Q)=(xt q1 Q,xC r (xt p1 P) q1)::(xC r (xt p1 P) q1,q1)::chain q1 Q:=rfl
   rw[e] at h
   rcases xkE.mp h with h | h
   ·injection h with a b;exact .inl ⟨a,b⟩
   ·rcases xkE.mp h with h | h
    ·injection h with a b;exact .inr (.inl ⟨h1,a,b⟩)
    ·exact .inr (.inr (.inr h))
 ·by_cases h2:val r (xt q1 Q)<0
  ·simp only[if_neg h1,if_pos h2,xj0,xkQ] at h ⊢
   have e:cyc (q1::(Q++[xC r p1 (xt q1 Q)]))=(xC r p1 (xt q1 Q),q1)::(chain q1 Q++[(xt q1 Q,xC r p1 (xt q1 Q))]):=by
    show(xt q1 (Q++[_]),_)::chain q1 (Q++[_])=_
    rw[sN,jv];rfl
   rw[e] at h
   rcases xkE.mp h with h | h
   ·injection h with a b;exact .inl ⟨a,b⟩
   ·rcases xkB.mp h with h | h
    ·exact .inr (.inr (.inr h))
    ·have h:=xkP.mp h
     injection h with a b;exact .inr (.inr (.inl ⟨h2,a,b⟩))
  ·simp only[if_neg h1,if_neg h2,xj0,xkQ,xjZ] at h ⊢
   have e:cyc (q1::Q)=(xt q1 Q,q1)::chain q1 Q:=rfl
   rw[e] at h
   rcases xkE.mp h with h | h
   ·injection h with a b;exact .inl ⟨a,b⟩
   ·exact .inr (.inr (.inr h))
theorem old1:(xt p1 P,q1)∈cyc ((p1::P)++(q1::Q)):=by
 rw[hU];exact xkD _ xkG
theorem old2:(xt q1 Q,p1)∈cyc ((p1::P)++(q1::Q)):=by
 rw[hU];exact xkC _ xkG
theorem old3 (h:(u,v)∈chain q1 Q):(u,v)∈cyc ((p1::P)++(q1::Q)):=by
 rw[hU];exact xkD _ (xkF _ h)
theorem pk_ne:xt p1 P≠q1:=fun e=>by have:=S.pkgt;have:=S.q1le;rw[e] at *;omega
theorem p1_ne:xt q1 Q≠p1:=fun e=>by have:=S.p1gt;have:=S.qmle;rw[e] at *;omega
theorem len_left:(val r q1<0∨val r (xt q1 Q)<0∨2≤Q.length)→3≤(left r p1 q1 P Q).length:=by
 intro h
 unfold left bef
 by_cases hq:Q=[]
 ·subst hq
  have h':val r q1<0:=by
   rcases h with h | h | h
   ·exact h
   ·exact h
   ·simp at h
  rw[if_pos h',if_pos (show val r (xt q1 [])<0 from h')];simp
 ·have l1:1≤Q.length:=by
   cases Q with
   | nil=>exact absurd rfl hq
   | cons _ _=>simp
  rcases h with h | h | h
  ·rw[if_pos h];simp;omega
  ·rw[if_pos h];simp;omega
  ·simp;omega
theorem small (h:¬(val r q1<0∨val r (xt q1 Q)<0∨2≤Q.length)):left r p1 q1 P Q=q1::Q∧∀v∈q1::Q,val r v=0:=by
 have h1:¬val r q1<0:=fun z=>h (.inl z)
 have h2:¬val r (xt q1 Q)<0:=fun z=>h (.inr (.inl z))
 have h3:¬2≤Q.length:=fun z=>h (.inr (.inr z))
 refine⟨by unfold left bef;rw[if_neg h1,if_neg h2];simp,fun v hv=>?_⟩
 have a:=S.q1le
 have b:=S.qmle
 rcases xkE.mp hv with rfl | hv
 ·omega
 ·match Q,hv,h3,b,h2 with
  | [x],hv,_,b,h2 =>
   have:v=x:=by simpa using hv
   subst this
   have b:val r v≤0:=b
   have h2:¬val r v<0:=h2
   omega
  | _::_::_,_,h3,_,_=>exact absurd (by simp) h3
theorem good_left:Good (Ls++[r]) (left r p1 q1 P Q):=by
 have keptOld:∀s∈Ls,∀v∈(p1::P)++(q1::Q),val s v≤0:=fun s hs v hv=>S.good.kept v hv s hs
 have mP:∀ {v},v∈p1::P→v∈(p1::P)++(q1::Q):=fun h=>xkC _ h
 have mQ:∀ {v},v∈q1::Q→v∈(p1::P)++(q1::Q):=fun h=>xkD _ h
 refine⟨⟨fun u v w s=>S.tri s,?_⟩,fun v hv=>?_,fun v hv=>?_,fun v hv s hs=>?_,fun u v he hne=>?_,fun v hv=>?_,fun p h0 hp=>?_⟩
 ·by_cases c:val r q1<0∨val r (xt q1 Q)<0∨2≤Q.length
  ·exact gz (fun u v w s=>S.tri s) (S.len_left c)
  ·rw[(S.small c).1];exact(xkR.mp S.nd).2.1
 ·rcases S.mem_left hv with hv | ⟨h,rfl⟩ | ⟨h,rfl⟩
  ·exact S.botQ hv
  ·exact(S.X1 h).2.2.1
  ·exact(S.X2 h).2.2.1
 ·rcases S.mem_left hv with hv | ⟨h,rfl⟩ | ⟨h,rfl⟩
  ·exact S.good.prim v (mQ hv)
  ·exact(S.X1 h).2.2.2
  ·exact(S.X2 h).2.2.2
 ·rcases xkB.mp hs with hs | hs
  ·rcases S.mem_left hv with hv | ⟨h,rfl⟩ | ⟨h,rfl⟩
   ·exact keptOld s hs v (mQ hv)
   ·exact(S.X1 h).1.kept (keptOld s hs _ (mP (yq p1 P))) (keptOld s hs _ (mQ xkG))
   ·exact(S.X2 h).1.kept (keptOld s hs _ (mP xkG)) (keptOld s hs _ (mQ (yq q1 Q)))
  ·have:s=r:=by simpa using hs
   subst this
   rcases S.mem_left hv with hv | ⟨h,rfl⟩ | ⟨h,rfl⟩
   ·exact S.hQ v hv
   ·rw[(S.X1 h).2.1];exact xjy _
   ·rw[(S.X2 h).2.1];exact xjy _
 ·rcases S.pairs he with ⟨rfl,rfl⟩ | ⟨h,rfl,rfl⟩ | ⟨h,rfl,rfl⟩ | h
  ·obtain⟨_,_,_,_,_,e1⟩:=S.w1b
   obtain⟨_,_,_,_,_,e2⟩:=S.u1b
   exact⟨r,by simp,e2,e1⟩
  ·obtain⟨s,hs,a,b⟩:=S.good.edge _ _ S.old1 S.pk_ne
   exact⟨s,xkC _ hs,(S.X1 h).1.tight a b,b⟩
  ·obtain⟨s,hs,a,b⟩:=S.good.edge _ _ S.old2 S.p1_ne
   exact⟨s,xkC _ hs,a,(S.X2 h).1.tight b a⟩
  ·obtain⟨s,hs,a,b⟩:=S.good.edge _ _ (S.old3 h) hne
   exact⟨s,xkC _ hs,a,b⟩
 ·rcases S.mem_left hv with hv | ⟨h,rfl⟩ | ⟨h,rfl⟩
  ·obtain⟨s,hs,t,ht,a,b,c⟩:=S.good.two v (mQ hv)
   exact⟨s,xkC _ hs,t,xkC _ ht,a,b,c⟩
  ·obtain⟨s,hs,a,b⟩:=S.good.edge _ _ S.old1 S.pk_ne
   exact⟨s,xkC _ hs,r,by simp,(S.X1 h).1.tight a b,(S.X1 h).2.1,unlike (S.dir s hs) (S.botP (yq p1 P)) (S.botQ xkG) a b (xjL S.pkgt h)⟩
  ·obtain⟨s,hs,a,b⟩:=S.good.edge _ _ S.old2 S.p1_ne
   exact⟨s,xkC _ hs,r,by simp,(S.X2 h).1.tight b a,(S.X2 h).2.1,unlike (S.dir s hs) (S.botP xkG) (S.botQ (yq q1 Q)) b a (xjL S.p1gt h)⟩
 ·have hpL:∀s∈Ls,val s p≤0:=fun s hs=>hp s (xkC _ hs)
  have hpr:val r p≤0:=hp r (by simp)
  obtain⟨m,hm,cn⟩:=S.good.all p h0 hpL
  by_cases c:val r q1<0∨val r (xt q1 Q)<0∨2≤Q.length
  ·have he:∀u v,(u,v)∈cyc ((p1::P)++(q1::Q))→0≤det u v p:=fun u v h=>by
    have:=cn.det u v fun w hw=>S.good.ccw.edge h hw
    rw[qa] at this
    exact zy hm this
   refine Ccw.incone ⟨fun u v w s=>S.tri s,gz (fun u v w s=>S.tri s) (S.len_left c)⟩ (S.len_left c) fun u v hm'=>?_
   rcases S.pairs hm' with ⟨e1,e2⟩ | ⟨h,e1,e2⟩ | ⟨h,e1,e2⟩ | h
   ·rw[e1,e2]
    refine S.close ?_ hpr
    rcases c with c | c | c
    ·exact .inl c
    ·by_cases hq:Q=[]
     ·subst hq;exact .inl c
     ·exact .inr hq
    ·right;intro z;subst z;simp at c
   ·rw[e1,e2]
    have bt:=(S.X1 h).1
    have e:=bt.det q1 p
    have r1:det q1 p (xt p1 P)=det (xt p1 P) q1 p:=vi _ _ _
    rw[r1,qP,xjO,xjk] at e
    have k:=pz (xjv bt.pa) (he _ _ S.old1)
    rw[wV]
    exact zy bt.pg (by omega)
   ·rw[e1,e2]
    have bt:=(S.X2 h).1
    have e:=bt.det p (xt q1 Q)
    have r1:det p (xt q1 Q) p1=det (xt q1 Q) p1 p:=wV _ _ _
    rw[r1,vP,xjO,xjk] at e
    have k:=pz (xjv bt.pa) (he _ _ S.old2)
    rw[vi]
    exact zy bt.pg (by omega)
   ·exact he u v (S.old3 h)
  ·obtain⟨e,z⟩:=S.small c
   refine⟨m,hm,?_⟩
   have ge:∀v∈(p1::P)++(q1::Q),0≤val r v:=fun v hv=>by
    rcases xkB.mp hv with hv | hv
    ·have:=S.hP v hv;omega
    ·have:=z v hv;omega
   have:=cn.zeros r ge (by rw[val_mul];exact pn (xjv hm) hpr)
   rw[e]
   refine this.mono fun v hv=>?_
   obtain⟨hv,hv0⟩:=xkH.mp hv
   have hv0:val r v=0:=by simpa using hv0
   rcases xkB.mp hv with hv | hv
   ·have:=S.hP v hv;omega
   ·exact .mem hv
end xdF
end
end Pol
namespace Pol
def ym (r:R3)(left:List R3)(p:R3×R3):List R3 :=
 let l1:=if val r p.1*val r p.2<0 then(if xC r p.1 p.2∈left then left else left++[xC r p.1 p.2]) else left
 if val r p.2≤0 then l1++[p.2] else l1
def yL (l:List R3)(r:R3):List R3:=(cyc l).foldl (ym r) []
theorem xcv (h:(acc++seg r p).Nodup):ym r acc p=acc++seg r p:=by
 unfold ym seg at *
 by_cases c:val r p.1*val r p.2<0
 ·rw[if_pos c] at h ⊢
  have hn:xC r p.1 p.2∉acc:=fun z=>by
   have:=(xkR.mp h).2.2 _ z _ (xkC _ (xkP.mpr rfl))
   exact this rfl
  simp only[if_neg hn]
  split<;>simp
 ·rw[if_neg c] at h ⊢
  simp only
  split<;>simp
theorem pW:∀ {ps:List (R3×R3)} {acc:List R3},(acc++ps.flatMap (seg r)).Nodup→ps.foldl (ym r) acc=acc++ps.flatMap (seg r)
 | [],acc,_=>by simp
 | p::ps,acc,h=>by
  have h':(acc++(seg r p++ps.flatMap (seg r))).Nodup:=h
  rw[←xjY] at h'
  rw[xkb,xcv (xkR.mp h').1,pW h',xjY];rfl
theorem tW (h:(cH r l).Nodup):yL l r=cH r l:=by
 unfold yL
 rw[pW (by simpa [cH] using h)];rfl
theorem qF (h:∀v∈l,val r v≤0):cH r l=l:=by
 cases l with
 | nil=>rfl
 | cons x xs=>exact dU (h _ (yq x xs)) h
theorem ko (h:∀v∈l,0<val r v):cH r l=[]:=by
 cases l with
 | nil=>rfl
 | cons x xs=>exact dG (h _ (yq x xs)) h
theorem jJ (g:Good Ls l)(h:∀v∈l,val r v≤0):Good (Ls++[r]) l where
 ccw:=g.ccw
 bot:=g.bot
 prim:=g.prim
 kept:=fun v hv s hs=>by
  rcases xkB.mp hs with hs | hs
  ·exact g.kept v hv s hs
  ·have:s=r:=by simpa using hs
   subst this
   exact h v hv
 edge:=fun u v he hn=>by
  obtain⟨s,hs,a⟩:=g.edge u v he hn
  exact⟨s,xkC _ hs,a⟩
 two:=fun v hv=>by
  obtain⟨s,hs,t,ht,a⟩:=g.two v hv
  exact⟨s,xkC _ hs,t,xkC _ ht,a⟩
 all:=fun p h0 hp=>g.all p h0 fun s hs=>hp s (xkC _ hs)
theorem vI (g:Good Ls l)(h:∀v∈l,0≤val r v)(hs:List.Sublist l' l)(hl:l'.length≤1)(h0:∀v∈l',val r v=0)(h1:∀v∈l,val r v=0→v∈l'):Good (Ls++[r]) l' where
 ccw:=⟨fun u v w s=>by
  have:=s.length_le
  simp at this
  omega,g.ccw.nd.sublist hs⟩
 bot:=fun v hv=>g.bot v (hs.subset hv)
 prim:=fun v hv=>g.prim v (hs.subset hv)
 kept:=fun v hv s hs'=>by
  rcases xkB.mp hs' with h' | h'
  ·exact g.kept v (hs.subset hv) s h'
  ·have:s=r:=by simpa using h'
   subst this
   rw[h0 v hv];exact xjy _
 edge:=fun u v he hn=>by
  exfalso
  match l',hl,he with
  | [x],_,he =>
   have:(u,v)=(x,x):=by simpa [cyc,chain,xt] using he
   injection this with a b
   exact hn (by rw[a,b])
  | [],_,he=>simp[cyc] at he
  | _::_::_,hl,_=>simp at hl
 two:=fun v hv=>by
  obtain⟨s,hs',t,ht,a⟩:=g.two v (hs.subset hv)
  exact⟨s,xkC _ hs',t,xkC _ ht,a⟩
 all:=fun p hz hp=>by
  obtain⟨m,hm,c⟩:=g.all p hz fun s hs=>hp s (xkC _ hs)
  refine⟨m,hm,(c.zeros r h ?_).mono fun v hv=>?_⟩
  ·rw[val_mul];exact pn (xjv hm) (hp r (by simp))
  ·obtain⟨a,b⟩:=xkH.mp hv
   exact .mem (h1 v a (by simpa using b))
theorem gI (g:Good Ls [u,v])(dir:∀s∈Ls,s.1≠0∨s.2.1≠0)(hu:0<val r u)(hv:val r v<0)(hx:x=xC r u v):Good (Ls++[r]) [x,v]:=by
 subst hx
 have bu:=g.bot u (by simp)
 have bv:=g.bot v (by simp)
 obtain⟨bt,x0,xb,xp⟩:=kN (r:=r) bu bv (xjL hu hv)
 have ne:u≠v:=fun e=>by rw[e] at hu;omega
 obtain⟨s,hs,su,sv⟩:=g.edge u v (by simp[cyc,chain,xt]) ne
 have nx:xC r u v≠v:=fun e=>by rw[e] at x0;omega
 have sx:=bt.tight su sv
 refine⟨⟨fun a b c h=>by have:=h.length_le;simp at this,by simp[nx]⟩,fun w hw=>?_,fun w hw=>?_,fun w hw t ht=>?_,fun a b he hn=>?_,fun w hw=>?_,fun p hz hp=>?_⟩
 ·simp only[xkE,xkT,xls] at hw
  rcases hw with rfl | rfl
  ·exact xb
  ·exact bv
 ·simp only[xkE,xkT,xls] at hw
  rcases hw with rfl | rfl
  ·exact xp
  ·exact g.prim w (by simp)
 ·simp only[xkE,xkT,xls] at hw
  rcases xkB.mp ht with ht | ht
  ·rcases hw with rfl | rfl
   ·exact bt.kept (g.kept u (by simp) t ht) (g.kept v (by simp) t ht)
   ·exact g.kept w (by simp) t ht
  ·have:t=r:=by simpa using ht
   subst this
   rcases hw with rfl | rfl
   ·rw[x0];exact xjy _
   ·exact xjv hv
 ·have he:(a,b)=(v,xC r u v)∨(a,b)=(xC r u v,v):=by simpa [cyc,chain,xt] using he
  rcases he with e | e<;>injection e with e1 e2<;>subst e1 e2
  ·exact⟨s,xkC _ hs,sv,sx⟩
  ·exact⟨s,xkC _ hs,sx,sv⟩
 ·simp only[xkE,xkT,xls] at hw
  rcases hw with rfl | rfl
  ·exact⟨s,xkC _ hs,r,by simp,sx,x0,unlike (dir s hs) bu bv su sv (xjL hu hv)⟩
  ·obtain⟨s,hs',t,ht,a⟩:=g.two w (by simp)
   exact⟨s,xkC _ hs',t,xkC _ ht,a⟩
 ·obtain⟨m,hm,c⟩:=g.all p hz fun s hs=>hp s (xkC _ hs)
  obtain⟨a,b,a0,b0,e⟩:=c.pair
  have hr:val r (mul m p)≤0:=by rw[val_mul];exact pn (xjv hm) (hp r (by simp))
  rw[e,val_add,val_mul,val_mul] at hr
  have av:abs (val r v) = - val r v:=by unfold abs;rw[if_pos hv]
  have au:abs (val r u)=val r u:=by unfold abs;rw[if_neg (by omega)]
  refine⟨(- val r v)*m,pp (by omega) hm,?_⟩
  have e2:mul ((- val r v)*m) p=add (mul (a*(uI (cw r u v):Int)) (xC r u v)) (mul (b*(- val r v)-a*val r u) v):=by
   have e3:mul ((- val r v)*m) p=mul (- val r v) (mul m p):=by apply ext3<;>simp only[mul]<;>grind
   have e4:mul (a*(uI (cw r u v):Int)) (xC r u v)=mul a (mul (uI (cw r u v)) (xC r u v)):=by apply ext3<;>simp only[mul]<;>grind
   rw[e3,e,e4,bt.e,av,au]
   apply ext3<;>simp only[mul,add]<;>grind
  rw[e2]
  have k:0≤b*(- val r v)-a*val r u:=by
   have:b*(- val r v)-a*val r u = - (a*val r u+b*val r v):=by grind
   omega
  exact((Cn.mem (by simp)).smul (pz a0 (xjv bt.pg))).add ((Cn.mem (by simp)).smul k)
theorem Good.sw (g:Good Ls [u,v]):Good Ls [v,u]:=Good.rot (a:=[u]) (b:=[v]) g
theorem pM (g:Good Ls l)(dir:∀s∈Ls,s.1≠0∨s.2.1≠0):Good (Ls++[r]) (yL l r):=by
 match l,g with
 | [],g =>
  show Good (Ls++[r]) []
  exact jJ g fun v hv=>by simp at hv
 | [v],g =>
  by_cases h:val r v≤0
  ·have hk:∀w∈[v],val r w≤0:=fun w hw=>by rw[xkP.mp hw];exact h
   rw[tW (by rw[qF hk];simp),qF hk]
   exact jJ g hk
  ·have hk:∀w∈[v],0<val r w:=fun w hw=>by rw[xkP.mp hw];omega
   rw[tW (by rw[ko hk];simp),ko hk]
   exact vI g (fun w hw=>xjv (hk w hw)) (List.nil_sublist _) (by simp) (fun w hw=>by simp at hw) fun w hw h0=>by have:=hk w hw;omega
 | [u,v],g =>
  have ne:u≠v:=by
   have:=g.ccw.nd
   simp at this
   exact this
  have cy:cyc [u,v]=[(v,u),(u,v)]:=rfl
  unfold yL
  rw[cy]
  simp only[xkb,List.foldl_nil]
  by_cases c:val r u*val r v<0
  ·have c':val r v*val r u<0:=by rw[xjC];exact c
   have ex:xC r v u=xC r u v:=by unfold xC;rw[xaY]
   have hu0:val r u≠0:=fun z=>by rw[z] at c;simp at c
   have hv0:val r v≠0:=fun z=>by rw[z] at c;simp at c
   by_cases hu:val r u≤0
   ·have hv:0<val r v:=by
     rcases xjA 0 (val r v) with z | z
     ·exact z
     ·have:=nn hu z;omega
    have e1:ym r [] (v,u)=[xC r v u,u]:=by
     unfold ym
     simp only[if_pos c',if_pos hu]
     simp
    have e2:ym r [xC r v u,u] (u,v)=[xC r v u,u]:=by
     unfold ym
     simp only[if_pos c,if_neg (show ¬val r v≤0 by omega)]
     rw[if_pos (by rw[←ex];simp)]
    rw[e1,e2]
    exact gI g.sw dir hv (by omega) rfl
   ·have hv:val r v<0:=by
     rcases xjA (val r v) 0 with z | z
     ·exact z
     ·have:=pz (by omega:0≤val r u) z;omega
    have e1:ym r [] (v,u)=[xC r v u]:=by
     unfold ym
     simp only[if_pos c',if_neg hu]
     simp
    have e2:ym r [xC r v u] (u,v)=[xC r v u,v]:=by
     unfold ym
     simp only[if_pos c,if_pos (show val r v≤0 by omega)]
     rw[if_pos (by rw[←ex];simp)];rfl
    rw[e1,e2]
    exact gI g dir (by omega) hv ex
  ·have c':¬val r v*val r u<0:=by rw[xjC];exact c
   have e1:ym r [] (v,u)=if val r u≤0 then[u] else[]:=by
    unfold ym
    simp only[if_neg c']
    split<;>simp
   have e2:∀l,ym r l (u,v)=if val r v≤0 then l++[v] else l:=fun l=>by
    unfold ym
    simp only[if_neg c]
   rw[e1,e2]
   by_cases hu:val r u≤0
   ·rw[if_pos hu]
    by_cases hv:val r v≤0
    ·rw[if_pos hv]
     show Good (Ls++[r]) [u,v]
     exact jJ g fun w hw=>by
      simp only[xkE,xkT,xls] at hw
      rcases hw with rfl | rfl<;>assumption
    ·rw[if_neg hv]
     have hu0:val r u=0:=by
      rcases xjA (val r u) 0 with z | z
      ·have:=xjK z (show 0<val r v by omega);omega
      ·omega
     exact vI g (fun w hw=>by
      simp only[xkE,xkT,xls] at hw
      rcases hw with rfl | rfl<;>omega) (by simp) (by simp) (fun w hw=>by rw[xkP.mp hw];exact hu0) fun w hw h0=>by
       simp only[xkE,xkT,xls] at hw
       rcases hw with rfl | rfl
       ·simp
       ·omega
   ·rw[if_neg hu]
    by_cases hv:val r v≤0
    ·rw[if_pos hv]
     have hv0:val r v=0:=by
      rcases xjA (val r v) 0 with z | z
      ·have:=xjL (show 0<val r u by omega) z;omega
      ·omega
     exact vI g (fun w hw=>by
      simp only[xkE,xkT,xls] at hw
      rcases hw with rfl | rfl<;>omega) (by simp) (by simp) (fun w hw=>by
       have:w=v:=by simpa using hw
       rw[this];exact hv0) fun w hw h0=>by
       simp only[xkE,xkT,xls] at hw
       rcases hw with rfl | rfl
       ·omega
       ·simp
    ·rw[if_neg hv]
     exact vI g (fun w hw=>by
      simp only[xkE,xkT,xls] at hw
      rcases hw with rfl | rfl<;>omega) (by simp) (by simp) (fun w hw=>by simp at hw) fun w hw h0=>by
       simp only[xkE,xkT,xls] at hw
       rcases hw with rfl | rfl<;>omega
 | x::y::z::t,g =>
  obtain⟨a,b,P,Q,e1,e2,hP,hQ⟩:=g.ccw.parts r
  have e0:x::y::z::t=a++b:=e1
  rw[e0] at g ⊢
  have gr:Good Ls (b++a):=g.rot
  have mem:∀v,v∈a++b→v∈P++Q:=fun v hv=>by rw[←e2];simpa [or_comm] using hv
  have hlen:(P++Q).length=t.length+3:=by
   rw[←e2,xkm,Nat.add_comm,←xkm,←e0];simp
  cases P with
  | nil =>
   have hk:∀v∈a++b,val r v≤0:=fun v hv=>hQ v (by simpa using mem v hv)
   rw[tW (by rw[qF hk];exact g.ccw.nd),qF hk]
   exact jJ g hk
  | cons p1 P =>
   cases Q with
   | nil =>
    have hk:∀v∈a++b,0<val r v:=fun v hv=>hP v (by simpa using mem v hv)
    rw[tW (by rw[ko hk];simp),ko hk]
    exact vI g (fun w hw=>xjv (hk w hw)) (List.nil_sublist _) (by simp) (fun w hw=>by simp at hw) fun w hw h0=>by have:=hk w hw;omega
   | cons q1 Q =>
    have S:xdF Ls r p1 q1 P Q:=⟨by rw[←e2];exact gr,hP,hQ,by
     rcases Classical.em (P=[]) with h | h
     ·right
      intro h'
      subst h h'
      simp at hlen
     ·exact .inl h,dir⟩
    have gl:=S.good_left
    unfold xdF.left at gl
    have g2:=Good.rot (a:=bef r (xt p1 P) q1++q1::Q) (b:=bef r p1 (xt q1 Q)) gl
    rw[←sG hP hQ,←e2] at g2
    obtain⟨c,d,f1,f2⟩:=oj r a b
    rw[f2] at g2
    have g3:=g2.rot
    rw[←f1] at g3
    rw[tW g3.ccw.nd]
    exact g3
end Pol
namespace Pol
def FAR:Int:=60001
def box:List R3:=[(-FAR,-FAR,1),(FAR,-FAR,1),(FAR,FAR,1),(-FAR,FAR,1)]
def xbe:List R3:=[(-1,0,FAR),(1,0,FAR),(0,-1,FAR),(0,1,FAR)]
theorem xiY {a b c d u v w:R3}(s:List.Sublist [u,v,w] [a,b,c,d]):(u=a∧v=b∧w=c)∨(u=a∧v=b∧w=d)∨(u=a∧v=c∧w=d)∨(u=b∧v=c∧w=d):=by
 have full:∀ {x y z u v w:R3},List.Sublist [u,v,w] [x,y,z]→u=x∧v=y∧w=z:=fun {x y z u v w} s=>by
  have:=s.eq_of_length (by simp)
  injection this with h1 h2
  injection h2 with h2 h3
  injection h3 with h3 _
  exact⟨h1,h2,h3⟩
 cases s with
 | cons _ s=>exact .inr (.inr (.inr (full s)))
 | cons_cons _ s =>
  have two:∀ {x y z v w:R3},List.Sublist [v,w] [x,y,z]→(v=x∧w=y)∨(v=x∧w=z)∨(v=y∧w=z):=fun {x y z v w} s=>by
   cases s with
   | cons _ s =>
    have:=s.eq_of_length (by simp)
    injection this with h1 h2
    injection h2 with h2 _
    exact .inr (.inr ⟨h1,h2⟩)
   | cons_cons _ s =>
    have:w∈[y,z]:=xkW.mp s
    simp only[xkE,xkT,xls] at this
    rcases this with rfl | rfl
    ·exact .inl ⟨rfl,rfl⟩
    ·exact .inr (.inl ⟨rfl,rfl⟩)
  rcases two s with ⟨h1,h2⟩ | ⟨h1,h2⟩ | ⟨h1,h2⟩
  ·exact .inl ⟨rfl,h1,h2⟩
  ·exact .inr (.inl ⟨rfl,h1,h2⟩)
  ·exact .inr (.inr (.inl ⟨rfl,h1,h2⟩))
theorem xbU:Ccw box:=by
 refine⟨fun u v w s=>?_,by decide⟩
 rcases xiY s with ⟨rfl,rfl,rfl⟩ | ⟨rfl,rfl,rfl⟩ | ⟨rfl,rfl,rfl⟩ | ⟨rfl,rfl,rfl⟩<;>decide
theorem oy:Good xbe box:=by
 refine⟨xbU,by decide,by decide,by decide,fun u v h _=>?_,by decide,fun p hz hp=>?_⟩
 ·have h:(u,v)∈[((-FAR,FAR,1),(-FAR,-FAR,1)),((-FAR,-FAR,1),(FAR,-FAR,1)),((FAR,-FAR,1),(FAR,FAR,1)),((FAR,FAR,1),(-FAR,FAR,1))]:=h
  simp only[xkE,xkT,xls] at h
  rcases h with h | h | h | h<;>injection h with h1 h2<;>subst h1 h2
  ·exact⟨(-1,0,FAR),by decide,by decide,by decide⟩
  ·exact⟨(0,-1,FAR),by decide,by decide,by decide⟩
  ·exact⟨(1,0,FAR),by decide,by decide,by decide⟩
  ·exact⟨(0,1,FAR),by decide,by decide,by decide⟩
 ·have h1:=hp (-1,0,FAR) (by decide)
  have h2:=hp (1,0,FAR) (by decide)
  have h3:=hp (0,-1,FAR) (by decide)
  have h4:=hp (0,1,FAR) (by decide)
  simp only[val,FAR] at h1 h2 h3 h4
  refine xbU.incone (by decide) fun u v h=>?_
  have h:(u,v)∈[((-FAR,FAR,1),(-FAR,-FAR,1)),((-FAR,-FAR,1),(FAR,-FAR,1)),((FAR,-FAR,1),(FAR,FAR,1)),((FAR,FAR,1),(-FAR,FAR,1))]:=h
  simp only[xkE,xkT,xls] at h
  rcases h with h | h | h | h<;>injection h with h5 h6<;>subst h5 h6<;>simp only[det,FAR]<;>omega
def pieces (rows:List R3):List R3:=rows.foldl yL box
theorem nN:∀(rows Ls l:List R3),Good Ls l→(∀s∈Ls,s.1≠0∨s.2.1≠0)→(∀s∈rows,s.1≠0∨s.2.1≠0)→Good (Ls++rows) (rows.foldl yL l)
 | [],Ls,l,g,_,_=>by simpa using g
 | r::rows,Ls,l,g,d1,d2=>by
  rw[xkb]
  have:=nN rows (Ls++[r]) (yL l r) (pM g d1) (fun s hs=>by
   rcases xkB.mp hs with h | h
   ·exact d1 s h
   ·rw[xkP.mp h];exact d2 r xkG) (fun s hs=>d2 s (xkF _ hs))
  rwa [xjY] at this
theorem wJ (d:∀s∈rows,s.1≠0∨s.2.1≠0):Good (xbe++rows) (pieces rows):=nN rows xbe box oy (by decide) d
def GR (rows:List R3):Prop:=∀u v:Int,(u≠0∨v≠0)→∃r∈rows,0<r.1*u+r.2.1*v
theorem best {rows:List R3}(f g:R3→Int)(h:∃r∈rows,0<g r):∃i∈rows,0<g i∧∀r∈rows,0<g r→f r*g i≤f i*g r:=by
 induction rows with
 | nil=>obtain⟨r,hr,_⟩:=h;simp at hr
 | cons x rows ih =>
  by_cases hx:0<g x
  ·by_cases hr:∃r∈rows,0<g r
   ·obtain⟨i,hi,gi,hb⟩:=ih hr
    rcases xjA (f i*g x) (f x*g i) with c | c
    ·refine⟨x,xkG,hx,fun r hr gr=>?_⟩
     rcases xkE.mp hr with rfl | hr
     ·exact xjy _
     ·have h1:=hb r hr gr
      have h2:(f r*g i)*g x≤(f i*g r)*g x:=xjH h1 (xjv hx)
      have h3:(f i*g x)*g r≤(f x*g i)*g r:=xjH (xjv c) (xjv gr)
      have h4:g i*(f r*g x)≤g i*(f x*g r):=by
       have e1:g i*(f r*g x)=(f r*g i)*g x:=by grind
       have e2:(f i*g r)*g x=(f i*g x)*g r:=by grind
       have e3:(f x*g i)*g r=g i*(f x*g r):=by grind
       omega
      exact xjw h4 gi
    ·refine⟨i,xkF _ hi,gi,fun r hr gr=>?_⟩
     rcases xkE.mp hr with rfl | hr
     ·exact c
     ·exact hb r hr gr
   ·refine⟨x,xkG,hx,fun r hr' gr=>?_⟩
    rcases xkE.mp hr' with rfl | h'
    ·exact xjy _
    ·exact absurd ⟨r,h',gr⟩ hr
  ·obtain⟨r,hr,gr⟩:=h
   rcases xkE.mp hr with rfl | hr
   ·exact absurd gr hx
   ·obtain⟨i,hi,gi,hb⟩:=ih ⟨r,hr,gr⟩
    refine⟨i,xkF _ hi,gi,fun r hr gr=>?_⟩
    rcases xkE.mp hr with rfl | hr
    ·exact absurd gr hx
    ·exact hb r hr gr
def bf (r:R3):Prop:=((-30≤r.1∧r.1≤30)∧(-30≤r.2.1∧r.2.1≤30))∧(-1000≤r.2.2∧r.2.2≤1000)
structure IsC (rows:List R3)(p:R3):Prop where
 kept:∀r∈rows,val r p≤0
 two:∃s∈rows,∃t∈rows,val s p=0∧val t p=0∧turn s t≠0
def sA (p q:R3):Prop:=p.1*q.2.2=q.1*p.2.2∧p.2.1*q.2.2=q.2.1*p.2.2
theorem xgg (hn:turn s t≠0)(p1:val s p=0)(p2:val t p=0)(q1:val s q=0)(q2:val t q=0):sA p q:=by
 have e1:turn s t*(p.1*q.2.2-q.1*p.2.2)=(t.2.1*val s p-s.2.1*val t p)*q.2.2-(t.2.1*val s q-s.2.1*val t q)*p.2.2:=by simp only[turn,val];grind
 have e2:turn s t*(p.2.1*q.2.2-q.2.1*p.2.2)=(s.1*val t p-t.1*val s p)*q.2.2-(s.1*val t q-t.1*val s q)*p.2.2:=by simp only[turn,val];grind
 rw[p1,p2,q1,q2] at e1 e2
 have e1:turn s t*(p.1*q.2.2-q.1*p.2.2)=0:=by rw[e1];grind
 have e2:turn s t*(p.2.1*q.2.2-q.2.1*p.2.2)=0:=by rw[e2];grind
 have:=(xjF.mp e1).resolve_left hn
 have:=(xjF.mp e2).resolve_left hn
 exact⟨by omega,by omega⟩
section
variable {rows more:List R3}
structure xeW (rows more:List R3):Prop where
 box:∀ {p:R3},0<p.2.2→(∀r∈more,val r p≤0)→∀s∈xbe,val s p<0
 fr:∀r∈rows,bf r
 sub:∀r∈rows,r∈more
 dir:∀r∈more,r.1≠0∨r.2.1≠0
theorem xeW.corner (F:xeW rows more)(hv:v∈pieces more):0<v.2.2∧uI v=1∧IsC more v:=by
 have g:=wJ F.dir
 have hz:=g.bot v hv
 have hk:∀r∈more,val r v≤0:=fun r hr=>g.kept v hv r (xkD _ hr)
 have nb:=F.box hz hk
 obtain⟨s,hs,t,ht,a,b,c⟩:=g.two v hv
 have in':∀x∈xbe++more,val x v=0→x∈more:=fun x hx h0=>by
  rcases xkB.mp hx with h | h
  ·have:=nb x h;omega
  ·exact h
 exact⟨hz,g.prim v hv,hk,s,in' s hs a,t,in' t ht b,a,b,c⟩
theorem xeW.incone (F:xeW rows more)(hz:0<p.2.2)(hp:∀r∈more,val r p≤0):InC (pieces more) p:=by
 have g:=wJ F.dir
 refine g.all p hz fun s hs=>?_
 rcases xkB.mp hs with h | h
 ·exact xjv (F.box hz hp s h)
 ·exact hp s h
theorem val_neg (r p:R3):val (- r.1,- r.2.1,- r.2.2) p = - val r p:=by simp only[val];grind
theorem xeW.found (F:xeW rows more)(hz:0<p.2.2)(hp:IsC more p):∃v∈pieces more,sA v p:=by
 obtain⟨m,hm,c⟩:=F.incone hz hp.kept
 obtain⟨s,hs,t,ht,a,b,hn⟩:=hp.two
 have g:=wJ F.dir
 have kept:∀v∈pieces more,∀r∈more,val r v≤0:=fun v hv r hr=>g.kept v hv r (xkD _ hr)
 have c1:=c.zeros (- s.1,- s.2.1,- s.2.2) (fun v hv=>by rw[val_neg];have:=kept v hv s hs;omega) (by rw[val_neg,val_mul,a];simp)
 have c2:=c1.zeros (- t.1,- t.2.1,- t.2.2) (fun v hv=>by rw[val_neg];have:=kept v (xkH.mp hv).1 t ht;omega) (by rw[val_neg,val_mul,b];simp)
 cases e:((pieces more).filter fun v=>val (- s.1,- s.2.1,- s.2.2) v=0).filter (fun v=>val (- t.1,- t.2.1,- t.2.2) v=0) with
 | nil =>
  rw[e] at c2
  exfalso
  rcases c2.bot (fun v hv=>by simp at hv) with h | h
  ·have:m*p.2.2=0:=xlk (·.2.2) h
   have:=pp hm hz
   omega
  ·have:∀q:R3,Cn [] q→q=(0,0,0):=fun q hq=>by
    induction hq with
    | zero=>rfl
    | mem h=>simp at h
    | add _ _ h1 h2=>rw[h1,h2];rfl
   rw[this _ c2] at h
   simp at h
 | cons v r =>
  have hv:v∈((pieces more).filter fun v=>val (- s.1,- s.2.1,- s.2.2) v=0).filter (fun v=>val (- t.1,- t.2.1,- t.2.2) v=0):=by rw[e];exact xkG
  obtain⟨h1,h2⟩:=xkH.mp hv
  obtain⟨h3,h4⟩:=xkH.mp h1
  have h2:val (- t.1,- t.2.1,- t.2.2) v=0:=by simpa using h2
  have h4:val (- s.1,- s.2.1,- s.2.2) v=0:=by simpa using h4
  rw[val_neg] at h2 h4
  exact⟨v,h3,xgg hn (by omega) (by omega) a b⟩
end
end Pol
namespace Pol
def dot (r s:R3):Int:=r.1*s.1+r.2.1*s.2.1
def xb5 (sg:Int)(last:Option R3)(x:R3):Bool:=match last with | none=>true | some l=>decide (0<sg*turn l x)
def wA (r:R3)(sg:Int)(last:Option R3)(x:R3):Option R3 :=
 if 0<sg*turn r x∧xb5 sg last x=true then some x else last
def far (r:R3)(sg:Int)(rs:List R3):Option R3:=rs.foldl (wA r sg) none
def back (r:R3)(rs:List R3):Bool:=rs.any fun x=>decide (turn r x=0)&&decide (dot r x<0)
def uk:List R3→Bool
 | []=>false
 | r::rs=>match far r 1 (r::rs),far r (-1) (r::rs) with
  | some l,some k=>decide (0<turn l k) || back r (r::rs)
  | _,_=>false
theorem xd2 {a b:Int}(h:0<a)(k:a*b≤0):b≤0:=by
 rcases xjA 0 b with z | z
 ·have:=pp h z;omega
 ·exact z
theorem plk (r l k z:R3):turn r l*turn k z-turn r k*turn l z+turn r z*turn l k=0:=by
 obtain⟨a,b,_⟩:=r;obtain⟨c,d,_⟩:=l;obtain⟨e,f,_⟩:=k;obtain⟨g,h,_⟩:=z
 simp only[turn];grind
theorem xhL (r l z:R3):z.1*turn r l=r.1*turn z l+l.1*turn r z:=by
 obtain⟨a,b,_⟩:=r;obtain⟨c,d,_⟩:=l;obtain⟨g,h,_⟩:=z
 simp only[turn];grind
theorem xh3 (r l z:R3):z.2.1*turn r l=r.2.1*turn z l+l.2.1*turn r z:=by
 obtain⟨a,b,_⟩:=r;obtain⟨c,d,_⟩:=l;obtain⟨g,h,_⟩:=z
 simp only[turn];grind
theorem xfI (r l:R3):turn l r = - turn r l:=by
 obtain⟨a,b,_⟩:=r;obtain⟨c,d,_⟩:=l
 simp only[turn];grind
theorem proj (r x z:R3):dot r r*turn x z=dot r x*turn r z-turn r x*dot r z:=by
 obtain⟨a,b,_⟩:=r;obtain⟨c,d,_⟩:=x;obtain⟨g,h,_⟩:=z
 simp only[turn,dot];grind
theorem sq {a:Int}(h:a≠0):0<a*a:=by
 rcases xjA 0 a with z | z
 ·exact pp z z
 ·have:0<(-a)*(-a):=pp (by omega) (by omega)
  rwa [Int.neg_mul_neg] at this
theorem sq0 (a:Int):0≤a*a:=by
 rcases xjA 0 a with z | z
 ·exact pz (by omega) (by omega)
 ·exact nn z z
theorem mS {r:R3}(h:r.1≠0∨r.2.1≠0):0<dot r r:=by
 unfold dot
 have h1:=sq0 r.1
 have h2:=sq0 r.2.1
 rcases h with h | h
 ·have:=sq h;omega
 ·have:=sq h;omega
theorem xeq (h:turn r l≠0)(h1:turn r z=0)(h2:turn l z=0):z.1=0∧z.2.1=0:=by
 have b1:=xhL r l z
 have b2:=xh3 r l z
 have a1:=xfI l z
 rw[h2] at a1
 rw[a1,h1] at b1 b2
 simp only[xjO,Int.neg_zero,xjk] at b1 b2
 exact⟨(xjF.mp b1).resolve_right h,(xjF.mp b2).resolve_right h⟩
structure mH (r:R3)(s:Int)(rs:List R3)(l:R3):Prop where
 mem:l∈rs
 left:0<s*turn r l
 all:∀x∈rs,0<s*turn r x→s*turn l x≤0
theorem xiV (s:Int)(r l k z:R3):(s*turn r l)*(s*turn k z)=(s*turn r k)*(s*turn l z)-(s*turn r z)*(s*turn l k):=by
 have:=plk r l k z
 grind
def xiq (r:R3)(s:Int)(done:List R3):Option R3→Prop
 | none=>∀x∈done,s*turn r x≤0
 | some l=>mH r s done l
theorem xay {r:R3}{s:Int}:∀(rs done:List R3) (o:Option R3),xiq r s done o→xiq r s (done++rs) (rs.foldl (wA r s) o)
 | [],done,o,h=>by simpa using h
 | y::rs,done,o,h=>by
  rw[xkb]
  have ih:=xay (r:=r) (s:=s) rs (done++[y]) (wA r s o y) (by
   unfold wA
   by_cases c:0<s*turn r y∧xb5 s o y=true
   ·rw[if_pos c]
    obtain⟨c1,c2⟩:=c
    refine⟨by simp,c1,fun x hx hp=>?_⟩
    rcases xkB.mp hx with hx | hx
    ·cases o with
     | none=>exact absurd (show s*turn r x≤0 from h x hx) (by omega)
     | some l =>
      have h:mH r s done l:=h
      have c2:0<s*turn l y:=xlr c2
      have hl:s*turn l x≤0:=h.all x hx hp
      have e:=xiV s r l y x
      have p1:=pn (xjv c1) hl
      have p2:=pp hp c2
      exact xd2 h.left (by rw[e];omega)
    ·have:x=y:=by simpa using hx
     subst this
     have:turn x x=0:=by unfold turn;grind
     rw[this];simp
   ·rw[if_neg c]
    cases o with
    | none =>
     intro x hx
     rcases xkB.mp hx with hx | hx
     ·exact h x hx
     ·have:x=y:=by simpa using hx
      subst this
      have c':¬0<s*turn r x:=fun z=>c ⟨z,rfl⟩
      omega
    | some l =>
     have h:mH r s done l:=h
     refine⟨xkC _ h.mem,h.left,fun x hx hp=>?_⟩
     rcases xkB.mp hx with hx | hx
     ·exact h.all x hx hp
     ·have:x=y:=by simpa using hx
      subst this
      have c':¬0<s*turn l x:=fun z=>c ⟨hp,xln z⟩
      omega)
  rwa [xjY] at ih
theorem oR (h:far r s rs=none):∀x∈rs,s*turn r x≤0:=by
 have:=xay (r:=r) (s:=s) rs [] none (fun x hx=>by simp at hx)
 unfold far at h
 rw[h] at this
 intro x hx
 exact this x (by simpa using hx)
theorem kL (h:far r s rs=some l):mH r s rs l:=by
 have:=xay (r:=r) (s:=s) rs [] none (fun x hx=>by simp at hx)
 unfold far at h
 rw[h,xkQ] at this
 exact this
theorem xbI (hr:r∈rs)(r0:r.1≠0∨r.2.1≠0)(hl:mH r 1 rs l)(hk:mH r (-1) rs k)(h:0<turn l k∨back r rs=true)(hz:∀x∈rs,turn x z≤0):z.1=0∧z.2.1=0:=by
 have l1:0<turn r l:=by have:=hl.left;omega
 have k1:turn r k<0:=by have:=hk.left;omega
 have zr:=hz r hr
 have zl:=hz l hl.mem
 have zk:=hz k hk.mem
 have e:=plk r l k z
 have p1:=pn (xjv l1) zk
 have p2:=nn (xjv k1) zl
 have hz0:turn r z=0:=by
  rcases h with h | h
  ·have p3:=np zr (xjv h)
   have p4:turn r z*turn l k=0:=by omega
   exact(xjF.mp p4).resolve_right (by omega)
  ·unfold back at h
   rw[xjX] at h
   obtain⟨b,hb,c⟩:=h
   simp only[xjh,xlo] at c
   have q:=proj r b z
   rw[c.1] at q
   simp only[xjS,Int.sub_zero] at q
   have q1:=pn (xjv (mS r0)) (hz b hb)
   have q2:=nn (xjv c.2) zr
   have q3:dot r b*turn r z=0:=by omega
   exact(xjF.mp q3).resolve_left (by have:=c.2;omega)
 rw[hz0] at e
 simp only[xjS,xjk] at e
 have p5:turn r k*turn l z=0:=by omega
 exact xeq (by omega) hz0 ((xjF.mp p5).resolve_left (by omega))
theorem xc5 (r0:∀x∈rs,x.1≠0∨x.2.1≠0)(hr:r∈rs)(hl:mH r 1 rs l)(hk:mH r (-1) rs k)(h:¬0<turn l k)(hb:back r rs=false):∀x∈rs,turn l x≤0:=by
 intro x hx
 have l1:0<turn r l:=by have:=hl.left;omega
 have k1:turn r k<0:=by have:=hk.left;omega
 rcases xjB (turn r x) 0 with c | c | c
 ·have kx:0≤turn k x:=by have:=hk.all x hx (by omega);omega
  have e:=plk r l k x
  have p1:=pz (xjv l1) kx
  have p2:=nn (xjv c) (by omega:turn l k≤0)
  have p3:0≤turn r k*turn l x:=by omega
  rcases xjA 0 (turn l x) with z | z
  ·have p4:turn r k*turn l x<0:=xjK k1 z
   omega
  ·exact z
 ·have q:=proj r x l
  rw[c] at q
  simp only[xjS,Int.sub_zero] at q
  have d0:0≤dot r x:=by
   rcases xjA (dot r x) 0 with z | z
   ·exfalso
    have:back r rs=true:=by
     unfold back
     rw[xjX]
     exact⟨x,hx,by rw[xln c,xln z];rfl⟩
    rw[this] at hb;cases hb
   ·exact z
  have q1:=pz d0 (xjv l1)
  have q2:=mS (r0 r hr)
  have a:=xfI x l
  rw[a]
  have:0≤turn x l:=by
   rcases xjA (turn x l) 0 with z | z
   ·have:=xjL q2 z
    omega
   ·exact z
  omega
 ·have:=hl.all x hx (by omega)
  omega
def RA (rs:List R3):Prop:=∀z∈rs,∀s:Int,(s=1∨s = -1)→∃x∈rs,0<s*turn z x
theorem xhJ (r0:∀x∈rs,x.1≠0∨x.2.1≠0)(h:GR rs):RA rs:=fun z hz s hs=>by
 have key:∀x:R3,x.1*(s * -z.2.1)+x.2.1*(s*z.1)=s*turn z x:=fun x=>by unfold turn;grind
 obtain⟨x,hx,p⟩:=h (s * -z.2.1) (s*z.1) (by have:=r0 z hz;rcases hs with e | e<;>subst e<;>omega)
 exact⟨x,hx,by rw[key x] at p;exact p⟩
theorem xdo (r0:∀x∈rs,x.1≠0∨x.2.1≠0)(ne:rs≠[])(h:RA rs):uk rs=true:=by
 have no:∀z:R3,z∈rs→∀s:Int,(s=1∨s = -1)→(∀x∈rs,s*turn z x≤0)→False:=fun z hz s hs hx=>by
  obtain⟨x,hxm,p⟩:=h z hz s hs
  have:=hx x hxm
  omega
 cases rs with
 | nil=>exact absurd rfl ne
 | cons r t =>
  have hr:r∈r::t:=xkG
  have e:uk (r::t)=match far r 1 (r::t),far r (-1) (r::t) with
   | some l,some k=>decide (0<turn l k) || back r (r::t)
   | _,_=>false:=rfl
  rw[e]
  cases e1:far r 1 (r::t) with
  | none=>exact(no r hr 1 (.inl rfl) (oR e1)).elim
  | some l =>
   cases e2:far r (-1) (r::t) with
   | none=>exact(no r hr (-1) (.inr rfl) (oR e2)).elim
   | some k =>
    show(decide (0<turn l k) || back r (r::t))=true
    have hl:=kL e1
    have hk:=kL e2
    rcases Classical.em ((decide (0<turn l k) || back r (r::t))=true) with q | q
    ·exact q
    ·exfalso
     simp only[Bool.or_eq_true,xlo,not_or,Bool.not_eq_true] at q
     exact no l hl.mem 1 (.inl rfl) (fun x hx=>by have:=xc5 r0 hr hl hk q.1 q.2 x hx;omega)
theorem xcj (r0:∀x∈rs,x.1≠0∨x.2.1≠0)(h:uk rs=true):GR rs:=by
 cases rs with
 | nil=>cases h
 | cons r t =>
  have hr:r∈r::t:=xkG
  have e:uk (r::t)=match far r 1 (r::t),far r (-1) (r::t) with
   | some l,some k=>decide (0<turn l k) || back r (r::t)
   | _,_=>false:=rfl
  rw[e] at h
  cases e1:far r 1 (r::t) with
  | none=>rw[e1] at h;cases h
  | some l =>
   cases e2:far r (-1) (r::t) with
   | none=>rw[e1,e2] at h;cases h
   | some k =>
    rw[e1,e2] at h
    have c:(decide (0<turn l k) || back r (r::t))=true:=h
    have hl:=kL e1
    have hk:=kL e2
    have c':0<turn l k∨back r (r::t)=true:=by simpa using c
    intro u v uv
    rcases Classical.em (∃x∈r::t,0<x.1*u+x.2.1*v) with q | q
    ·exact q
    ·exfalso
     have key:∀x:R3,turn x (-v,u,0)=x.1*u+x.2.1*v:=fun x=>by simp only[turn];grind
     have z:=xbI hr (r0 r hr) hl hk c' (z:=(-v,u,0)) (fun x hx=>by
      rw[key x]
      rcases xjA 0 (x.1*u+x.2.1*v) with w | w
      ·exact absurd ⟨x,hx,w⟩ q
      ·exact w)
     simp only at z
     omega
theorem xhx (h:GR rs):rs≠[]:=fun e=>by
 obtain⟨r,hr,_⟩:=h 1 0 (.inl (by decide))
 rw[e] at hr;simp at hr
end Pol
namespace Pol
theorem pL (r:R3)(acc:List R3)(p:R3×R3):(ym r acc p).length≤acc.length+(seg r p).length:=by
 unfold ym seg
 by_cases c:val r p.1*val r p.2<0
 ·by_cases m:xC r p.1 p.2∈acc
  ·simp only[if_pos c,if_pos m]
   split<;>simp<;>omega
  ·simp only[if_pos c,if_neg m]
   split<;>simp<;>omega
 ·simp only[if_neg c]
  split<;>simp
theorem om (r:R3):∀(ps:List (R3×R3)) (acc:List R3),(ps.foldl (ym r) acc).length≤acc.length+(ps.flatMap (seg r)).length
 | [],acc=>by simp
 | p::ps,acc=>by
  rw[xkb,List.flatMap_cons,xkm]
  have:=om r ps (ym r acc p)
  have:=pL r acc p
  omega
theorem xbJ (r p q:R3):(bef r p q).length≤1:=by unfold bef;split<;>simp
theorem xcN (h:Ccw l)(r:R3):(cH r l).length≤l.length+2:=by
 obtain⟨a,b,P,Q,e1,e2,hP,hQ⟩:=h.parts r
 obtain⟨c,d,f1,f2⟩:=oj r a b
 have el:(cH r l).length=(cH r (P++Q)).length:=by
  rw[e1,f1,←e2,f2,xkm,xkm];omega
 have ll:l.length=(P++Q).length:=by rw[e1,←e2,xkm,xkm];omega
 rw[el,ll]
 cases P with
 | nil =>
  rw[xkQ,qF hQ];omega
 | cons p P =>
  cases Q with
  | nil=>rw[xjZ,ko hP];simp
  | cons q Q =>
   rw[sG hP hQ]
   simp only[xkm,xkn]
   have:=xbJ r p (xt q Q)
   have:=xbJ r (xt p P) q
   omega
theorem xfq (h:Ccw l)(r:R3):(yL l r).length≤l.length+2:=by
 have:=om r (cyc l) []
 have:=xcN h r
 unfold yL cH at *
 simp at *
 omega
theorem gG:∀(rows Ls l:List R3),Good Ls l→(∀s∈Ls,s.1≠0∨s.2.1≠0)→(∀s∈rows,s.1≠0∨s.2.1≠0)→(rows.foldl yL l).length≤l.length+2*rows.length
 | [],Ls,l,_,_,_=>by simp
 | r::rows,Ls,l,g,d,d'=>by
  rw[xkb]
  have h1:=xfq g.ccw r
  have dr:=d' r xkG
  have h2:=gG rows (Ls++[r]) (yL l r) (pM g d) (fun s hs=>by
   rcases xkB.mp hs with h | h
   ·exact d s h
   ·rw[xkP.mp h];exact dr) (fun s hs=>d' s (xkF _ hs))
  rw[xkn];omega
theorem sE (d:∀s∈rows,s.1≠0∨s.2.1≠0):(pieces rows).length≤4+2*rows.length:=gG rows xbe box oy (by decide) d
theorem mV (p:R3):∀l:List R3,(chain p l).length=l.length
 | []=>rfl
 | x::l=>by show(chain x l).length+1=_;rw[mV x l];rfl
theorem xeX:∀l:List R3,(cyc l).length=l.length
 | []=>rfl
 | x::l=>mV _ _
theorem oA (p:R3):∀(l:List R3) (i:Nat) (v:R3),l[i]? = some v→∃u,(p::l)[i]? = some u∧(chain p l)[i]? = some (u,v)
 | [],i,v,h=>by simp at h
 | x::l,0,v,h=>by simp at h;subst h;exact⟨p,rfl,rfl⟩
 | x::l,i+1,v,h=>by
  have h':l[i]? = some v:=by simpa using h
  obtain⟨u,e1,e2⟩:=oA x l i v h'
  exact⟨u,by simpa using e1,by show(chain x l)[i]? = _;exact e2⟩
theorem xfY (h:l[i]? = some v):∃u,u∈l∧(cyc l)[i]? = some (u,v)∧((i=0∧∃ys,l=ys++[u])∨(0<i∧l[i-1]? = some u)):=by
 cases l with
 | nil=>simp at h
 | cons x l =>
  obtain⟨u,e1,e2⟩:=oA (xt x l) (x::l) i v h
  cases i with
  | zero =>
   have:xt x l=u:=by simpa using e1
   subst this
   obtain⟨ys,e⟩:=dj x l
   exact⟨_,yq x l,e2,.inl ⟨rfl,ys,e⟩⟩
  | succ i =>
   have e1:(x::l)[i]? = some u:=by simpa using e1
   exact⟨u,xkM e1,e2,.inr ⟨by omega,by simpa using e1⟩⟩
theorem vJ {α β:Type}(f:β→α→β)(b:β){l:List α}{i:Nat}{x:α}(h:l[i]? = some x):(l.take (i+1)).foldl f b=f ((l.take i).foldl f b) x:=by
 have hi:=(xkg.mp h).1
 rw[xk3,h,xka];rfl
end Pol
namespace Pol
def Ah (p q:R3):Prop:=p.1*q.2.2<q.1*p.2.2∨p.1*q.2.2=q.1*p.2.2∧p.2.1*q.2.2<q.2.1*p.2.2
theorem aI {a x b y c z:Int}(hx:0<x)(hy:0<y)(hz:0<z)(h1:a*y<b*x)(h2:b*z≤c*y):a*z<c*x:=by
 have e1:a*y*z<b*x*z:=xjI h1 hz
 have e2:b*z*x≤c*y*x:=xjH h2 (by omega)
 have:a*z*y<c*x*y:=by
  have e3:a*z*y=a*y*z:=by grind
  have e4:c*x*y=c*y*x:=by grind
  have e5:b*x*z=b*z*x:=by grind
  omega
 exact xjz this (by omega)
theorem xcH {a x b y c z:Int}(hx:0<x)(hy:0<y)(hz:0<z)(h1:a*y≤b*x)(h2:b*z<c*y):a*z<c*x:=by
 have e1:a*y*z≤b*x*z:=xjH h1 (by omega)
 have e2:b*z*x<c*y*x:=xjI h2 hx
 have:a*z*y<c*x*y:=by
  have e3:a*z*y=a*y*z:=by grind
  have e4:c*x*y=c*y*x:=by grind
  have e5:b*x*z=b*z*x:=by grind
  omega
 exact xjz this (by omega)
theorem xcK {a x b y c z:Int}(hy:0<y)(h1:a*y=b*x)(h2:b*z=c*y):a*z=c*x:=by
 have:a*z*y=c*x*y:=by grind
 exact xjp (by omega) this
theorem Ah.irrefl (p:R3):¬Ah p p:=by rintro(h | h)<;>omega
theorem Ah.trans {p q w:R3}(hp:0<p.2.2)(hq:0<q.2.2)(hw:0<w.2.2)(h1:Ah p q)(h2:Ah q w):Ah p w:=by
 rcases h1 with a | ⟨a,b⟩
 ·rcases h2 with c | ⟨c,d⟩
  ·exact .inl (aI hp hq hw a (by omega))
  ·exact .inl (aI hp hq hw a (by omega))
 ·rcases h2 with c | ⟨c,d⟩
  ·exact .inl (xcH hp hq hw (by omega) c)
  ·exact .inr ⟨xcK hq a c,aI hp hq hw b (by omega)⟩
theorem Ah.total (h1:¬Ah p q)(h2:¬Ah q p):sA p q:=by
 unfold Ah at h1 h2
 unfold sA
 omega
def qV (l:List R3):Prop:=∀h t,l=h::t→∀v∈l,¬Ah v h
theorem xc4 (h:Ccw l)(ha:l[k]? = some a)(hb:l[k+1]? = some b):(∀w∈l,0≤det a b w)∧∀j c,k+1<j→l[j]? = some c→det a c b<0:=by
 have hk:=(xkg.mp hb).1
 have hk0:k<l.length:=by omega
 have ea:l[k]=a:=by rw[xke hk0] at ha;exact xlj ha
 have eb:l[k+1]=b:=by rw[xke hk] at hb;exact xlj hb
 have sp:l=l.take k++a::b::l.drop (k+2):=by
  rw[←ea,←eb,←xj1 hk,←xj1 hk0,xk0]
 constructor
 ·intro w hw
  refine h.edge ?_ hw
  cases l with
  | nil=>simp at hk
  | cons x t =>
   cases k with
   | zero =>
    have:chain (xt x t) (x::t)=(xt x t,x)::chain x t:=rfl
    show(a,b)∈chain (xt x t) (x::t)
    rw[this]
    refine xkF _ (fL (s:=[]) (t:=(x::t).drop 2) ?_)
    simpa using sp
   | succ k =>
    have e:t=(x::t).tail:=rfl
    show(a,b)∈chain (xt x t) (x::t)
    exact fL (s:=xt x t::(x::t).take (k+1)) (t:=(x::t).drop (k+1+2)) (by
     rw[xj0]
     exact xlk (List.cons _) sp)
 ·intro j c hj hc
  have s:List.Sublist [a,b,c] l:=by
   rw[sp]
   refine xjU ?_ (xkZ _ _)
   refine List.Sublist.cons₂ _ (List.Sublist.cons₂ _ (xkW.mpr ?_))
   have:(l.drop (k+2))[j-(k+2)]? = some c:=by rw[List.getElem?_drop,←hc];congr 1;omega
   exact xkM this
  have:=h.tri a b c s
  have e:=rC a b c
  omega
theorem sM:∀ {l:List α},l.Nodup→a∈l→(∀x∈l,p x=true↔x=a)→l.filter p=[a]
 | [],_,h,_=>by simp at h
 | x::l,nd,h,hp=>by
  obtain⟨n1,n2⟩:=xkS.mp nd
  by_cases e:x=a
  ·subst e
   rw[xj7 ((hp x xkG).mpr rfl)]
   congr 1
   rw[xj8]
   intro y hy py
   have:=(hp y (xkF _ hy)).mp py
   subst this
   exact n1 hy
  ·rw[xj6 (fun py=>e ((hp x xkG).mp py))]
   exact sM n2 ((xkE.mp h).resolve_left fun z=>e z.symm) fun y hy=>hp y (xkF _ hy)
theorem az:∀ {l k:List α},l.Nodup→k.Nodup→(∀x,x∈l↔x∈k)→l.length=k.length:=fun {l k} h1 h2 h=>((List.perm_ext_iff_of_nodup h1 h2).mpr h).length_eq
def yh (s t:R3):R3:=if turn s t<0 then(-(s.2.2*t.2.1-s.2.1*t.2.2),-(s.1*t.2.2-s.2.2*t.1),-turn s t) else(s.2.2*t.2.1-s.2.1*t.2.2,s.1*t.2.2-s.2.2*t.1,turn s t)
theorem uA (h:turn s t≠0):0<(yh s t).2.2∧val s (yh s t)=0∧val t (yh s t)=0:=by
 unfold yh
 split
 ·refine⟨by simp only;omega,?_,?_⟩<;>simp only[val,turn]<;>grind
 ·refine⟨by simp only;omega,?_,?_⟩<;>simp only[val,turn]<;>grind
theorem nH (h:turn s t≠0)(h1:val s v=0)(h2:val t v=0):sA (yh s t) v:=xgg h (uA h).2.1 (uA h).2.2 h1 h2
end Pol
namespace L2
open PySem PySem.Spec PyProof.Rows
def Bk (k:Nat)(i:Int):Prop:=i.natAbs<2 ^ k
theorem Bk.mono (h:Bk k i)(hk:k≤m):Bk m i:=xlb h (Nat.pow_le_pow_right (by decide) hk)
theorem Bk.mul (h:Bk k i)(h':Bk m j):Bk (k+m) (i*j):=by
 unfold Bk at *
 rw[xjP,Nat.pow_add]
 exact Nat.mul_lt_mul'' h h'
theorem Bk.add {k:Nat}{i j:Int}(h:Bk k i)(h':Bk k j):Bk (k+1) (i+j):=by
 unfold Bk at *
 rw[Nat.pow_succ]
 have:=Int.natAbs_add_le i j
 omega
theorem Bk.neg (h:Bk k i):Bk k (-i):=by unfold Bk at *;rw[Int.natAbs_neg];exact h
theorem Bk.sub (h:Bk k i)(h':Bk k j):Bk (k+1) (i-j):=by rw[Int.sub_eq_add_neg];exact h.add h'.neg
theorem Bk.bd (h:Bk k i)(hk:k≤2000:=by decide):Bd i:=h.mono hk
theorem Bk.abs (h:Bk k i):Bk k (if i<0 then -i else i):=by split;exact h.neg;exact h
theorem Bk.le (h:Bk k i)(hl:j.natAbs≤i.natAbs):Bk k j:=xla hl h
def B3k (k:Nat)(r:Pol.R3):Prop:=(Bk k r.1∧Bk k r.2.1)∧Bk k r.2.2
theorem B3k.mono (h:B3k k r)(hk:k≤m):B3k m r:=⟨⟨h.1.1.mono hk,h.1.2.mono hk⟩,h.2.mono hk⟩
def B3 (r:Pol.R3):Prop:=(Bd r.1∧Bd r.2.1)∧Bd r.2.2
theorem B3k.b3 (h:B3k k r)(hk:k≤2000:=by decide):B3 r:=h.mono hk
theorem B3k.val (h:B3k k r)(h':B3k m p):Bk (k+m+2) (Pol.val r p) :=
 ((h.1.1.mul h'.1.1).add (h.1.2.mul h'.1.2)).sub ((h.2.mul h'.2).mono (xk8 _))
def xfH:Tr→Bool
 | .int _=>true
 | _=>false
def frT (n d:Int):Tr:=.tup [.int n,.int d]
def mY (t b:Int):Int:=t / (Int.gcd t b:Int)
def ay (t b:Int):Int:=b / (Int.gcd t b:Int)
def trR (r:Pol.R3):Tr:=.tup [.int r.1,.int r.2.1,.int r.2.2]
def yW (v:Pol.R3):Tr:=.tup [frT (mY v.1 v.2.2) (ay v.1 v.2.2),frT (mY v.2.1 v.2.2) (ay v.2.1 v.2.2)]
theorem bS (p:Pol.R3):pln (trR p)=true:=rfl
theorem aM (p q:Pol.R3):teq (trR p) (trR q)=decide (p=q):=by
 have e:teq (trR p) (trR q)=(decide (p.1=q.1)&&(decide (p.2.1=q.2.1)&&(decide (p.2.2=q.2.2)&&true))):=rfl
 rw[e]
 by_cases h:p=q
 ·subst h;simp
 ·rw[xlm h]
  by_cases h1:p.1=q.1
  ·by_cases h2:p.2.1=q.2.1
   ·by_cases h3:p.2.2=q.2.2
    ·exact absurd (Pol.ext3 h1 h2 h3) h
    ·simp[h3]
   ·simp[h2]
  ·simp[h1]
theorem uB (f:α→Tr)(h:∀x,pln (f x)=true):∀l:List α,PyData.canLayAll0 (uZ (l.map f))=true
 | []=>rfl
 | x::l=>by
  show((gF (f x)).canLay0&&PyData.canLayAll0 (uZ (l.map f)))=true
  rw[uB f h l,show(gF (f x)).canLay0=true from h x];rfl
theorem xbW (l:List Pol.R3)(c:Pol.R3):((l.map trR).any fun u=>teq u (trR c))=decide (c∈l):=by
 rw[Bool.eq_iff_iff,xjX,xlo]
 constructor
 ·rintro⟨u,hu,h⟩
  obtain⟨x,hx,rfl⟩:=xkK.mp hu
  rw[aM,xlo] at h
  subst h;exact hx
 ·intro h
  exact⟨trR c,xkL h,by rw[aM];simp⟩
theorem xdk (hx:0≤x)(hy:0≤y):Int.gcd y (x % y)=Int.gcd x y:=by
 obtain⟨n,rfl⟩:=Int.eq_ofNat_of_zero_le hy
 obtain⟨m,rfl⟩:=Int.eq_ofNat_of_zero_le hx
 show Nat.gcd n (((m % n:Nat):Int)).natAbs=Nat.gcd m n
 rw[Int.natAbs_natCast,Nat.gcd_comm m n,Nat.gcd_rec n m,Nat.gcd_comm]
theorem xaf (hb:b≠0)(h:Bd b):Bd (Int.gcd t b:Int):=by
 unfold Bd
 refine xla ?_ h
 have:=Int.gcd_le_natAbs_right (a:=t) hb
 omega
def oi:TSp:=fun ts KK=>∃t,ts=[t]∧KK (.bl (xfH t))
def fw:TSp:=fun ts KK=>∃t,ts=[t]∧∃us,(t=.tup us∨t=.lst us)∧us.length<sizeLine∧KK (.bl (us.all xfH))
def xey:TSp:=fun ts KK=>∃a b:Int,ts=[.int a,.int b]∧KK (.int (Int.gcd a b))
def xfJ:TSp:=fun ts KK=>∃t b:Int,ts=[.int t,.int b]∧b≠0∧Bd b∧KK (frT (mY t b) (ay t b))
def cJ:TSp:=fun ts KK=>∃r p:Pol.R3,ts=[trR r,trR p]∧B3 r∧B3 p∧KK (.int (Pol.val r p))
def pP:TSp:=fun ts KK=>∃r u v:Pol.R3,ts=[trR r,trR u,trR v]∧(B3k 100 r∧B3k 800 u∧B3k 800 v)∧(0<u.2.2∧0<v.2.2)∧Pol.val r u*Pol.val r v<0∧KK (trR (Pol.xC r u v))
def ahead (p q:Pol.R3):Bool:=decide (p.1*q.2.2<q.1*p.2.2∨p.1*q.2.2=q.1*p.2.2∧p.2.1*q.2.2<q.2.1*p.2.2)
def xdP:TSp:=fun ts KK=>∃p q:Pol.R3,ts=[trR p,trR q]∧B3 p∧B3 q∧KK (.bl (ahead p q))
def fj:TSp:=fun ts KK=>∃(l:List Pol.R3) (r:Pol.R3),ts=[.lst (l.map trR),trR r]∧B3k 100 r∧(∀v∈l,B3k 800 v∧0<v.2.2)∧l.length≤100000∧KK (.lst ((Pol.yL l r).map trR))
def yi (l:List Pol.R3)(s i:Nat):Nat:=if ahead (l.getD i (0,0,0)) (l.getD s (0,0,0))=true then i else s
def vO (l:List Pol.R3):Nat:=(List.range l.length).foldl (yi l) 0
def yn (l:List Pol.R3):List Pol.R3:=l.drop (vO l)++l.take (vO l)
def sW:TSp:=fun ts KK=>∃l:List Pol.R3,ts=[.lst (l.map trR)]∧(∀v∈l,B3 v)∧l.length≤100000∧KK (.lst ((yn l).map trR))
structure qC (rows:List Pol.R3):Prop where
 dir:∀r∈rows,r.1≠0∨r.2.1≠0
 sm:∀r∈rows,B3k 100 r
 len:rows.length≤10000
def oa:TSp:=fun ts KK=>∃(t:Tr) (r0 rows:List Pol.R3),ts=[.lst ((Pol.pieces r0).map trR),t]∧(t=.tup (rows.map trR)∨t=.lst (rows.map trR))∧qC (r0++rows)∧KK (.lst ((Pol.pieces (r0++rows)).map trR))
def aa:TSp:=fun ts KK=>∃(t:Tr) (rows:List Pol.R3),ts=[t]∧(t=.tup (rows.map trR)∨t=.lst (rows.map trR))∧qC rows∧KK (.lst ((Pol.pieces rows).map trR))
def tX:TSp:=fun ts KK=>∃l:List Pol.R3,ts=[.lst (l.map trR)]∧(∀v∈l,B3k 800 v∧0<v.2.2)∧l.length≤100000∧KK (.lst ((yn l).map yW))
def qX:TSp:=fun ts KK=>∃(t:Tr) (rows:List Pol.R3),ts=[t]∧(t=.tup (rows.map trR)∨t=.lst (rows.map trR))∧qC rows∧KK (.lst ((yn (Pol.pieces rows)).map yW))
def gS:Tr→Option Pol.R3
 | .tup [.int a,.int b,.int c]=>some (a,b,c)
 | _=>none
def mR (t:Tr):Bool:=match gS t with | some r=>decide (r.1≠0∨r.2.1≠0) | none=>false
def xdY:TSp:=fun ts KK=>∃t,ts=[t]∧KK (.bl (mR t))
def b_:TSp:=fun ts KK=>∃(a b c d:Int) (x y:List Tr),ts=[.tup (.int a::.int b::x),.tup (.int c::.int d::y)]∧((Bd a∧Bd b)∧Bd c∧Bd d)∧KK (.int (a*d-b*c))
def xhG:Option Pol.R3→Tr
 | some r=>trR r
 | none=>.non
def mW:TSp:=fun ts KK=>∃(r:Pol.R3) (rows:List Pol.R3) (s:Int),ts=[trR r,.tup (rows.map trR),.int s]∧(s=1∨s = -1)∧B3k 900 r∧(∀x∈rows,B3k 900 x)∧KK (xhG (Pol.far r s rows))
def xfV:TSp:=fun ts KK=>∃(r:Pol.R3) (rows:List Pol.R3),ts=[trR r,.tup (rows.map trR)]∧B3k 900 r∧(∀x∈rows,B3k 900 x)∧KK (.bl (Pol.back r rows))
def oJ:TSp:=fun ts KK=>∃rows:List Pol.R3,ts=[.tup (rows.map trR)]∧(∀x∈rows,B3k 900 x)∧KK (.bl (Pol.uk rows))
instance (r:Pol.R3):Decidable (Pol.bf r):=by unfold Pol.bf;infer_instance
def zd (t:Tr):Bool:=match gS t with | some r=>decide ((r.1≠0∨r.2.1≠0)∧Pol.bf r) | none=>false
def dy:TSp:=fun ts KK=>∃t,ts=[t]∧KK (.bl (zd t))
def nearF (n d:Int):Bool:=decide (-(12*d)≤n∧n≤12*d)
def xbZ:TSp:=fun ts KK=>∃fs:List (Int×Int),ts=[.tup (fs.map fun f=>frT f.1 f.2)]∧fs.length≤1000∧(∀f∈fs,Bd f.2)∧KK (.bl (fs.all fun f=>nearF f.1 f.2))
def rR (v:Pol.R3):Bool:=nearF (mY v.1 v.2.2) (ay v.1 v.2.2)&&nearF (mY v.2.1 v.2.2) (ay v.2.1 v.2.2)
def rowsOf:List Tr→Option (List Pol.R3)
 | []=>some []
 | t::ts=>match gS t,rowsOf ts with | some r,some rs=>some (r::rs) | _,_=>none
def xq (rows:List Pol.R3):Bool:=decide (3≤rows.length∧rows.length≤8)&&(rows.all fun r=>decide ((r.1≠0∨r.2.1≠0)∧Pol.bf r))&&Pol.uk rows&&(Pol.pieces rows).all rR
def isField:Tr→Bool
 | .tup us=>match rowsOf us with | some rows=>xq rows | none=>false
 | _=>false
def o6:TSp:=fun ts KK=>∃t,ts=[t]∧KK (.bl (isField t))
end L2
namespace L2
open PySem PySem.Spec PyProof.Rows
theorem aK (ts:List α)(s:Nat):dJ ts (some (s:Int)) none=ts.drop s:=by
 unfold dJ
 rw[HT.xbi,HT.oG]
 by_cases h:s≤ts.length
 ·rw[Nat.min_eq_left h,xk2 (by rw[xko];omega)]
 ·rw[Nat.min_eq_right (by omega),List.drop_eq_nil_of_le (xk7 _),List.drop_eq_nil_of_le (by omega)];simp
theorem pZ (ts:List α)(s:Nat):dJ ts none (some (s:Int))=ts.take s:=by
 unfold dJ
 rw[HT.xbi,HT.oG,xj3,Nat.sub_zero]
 by_cases h:s≤ts.length
 ·rw[Nat.min_eq_left h]
 ·rw[Nat.min_eq_right (by omega),xk2 (xk7 _),xk2 (by omega)]
theorem rh {α:Type}{f:α→Tr}{l:List α}{i:Nat}{x:Tr}(h:(qJ (l.map f))[i]? = some x):∃v,l[i]? = some v∧x=.tup [.int i,f v]:=by
 have hi:i<l.length:=by
  have:=(xkg.mp h).1
  unfold qJ at this
  rw[uP,xkr] at this
  exact this
 have e:(l.map f)[i]? = some (f l[i]):=by rw[xkh,xke hi];rfl
 unfold qJ at h
 rw[jz e] at h
 refine⟨l[i],xke hi,?_⟩
 have:=xlj h
 rw[←this];simp
theorem jP (f:α→Tr)(l:List α):(qJ (l.map f)).length=l.length:=by unfold qJ;rw[uP,xkr]
theorem lb {l:List Pol.R3}{i:Nat}{v:Pol.R3}(h:l[i]? = some v):∃u,u∈l∧(Pol.cyc l)[i]? = some (u,v)∧atT (l.map trR) ((i:Int)-1)=some (trR u):=by
 obtain⟨u,hu,hc,hw⟩:=Pol.xfY h
 refine⟨u,hu,hc,?_⟩
 rcases hw with ⟨rfl,ys,e⟩ | ⟨h0,e⟩
 ·rw[e,xky]
  exact tQ (ys.map trR) (trR u)
 ·rw[show((i:Int)-1)=((i-1:Nat):Int) by omega,dR,xkh,e];rfl
theorem lj (g:Pol.Good Ls l)(hs:∀s∈Ls,B3k k s):∀v∈l,B3k (2*k+1) v:=fun v hv=>by
 obtain⟨s,hs1,t,ht1,e1,e2,hn⟩:=g.two v hv
 have z:=g.bot v hv
 obtain⟨b1,b2,b3⟩:=Pol.gH (g.prim v hv) z e1 e2 hn
 have S:=hs s hs1
 have T:=hs t ht1
 have m:∀ {x y z w:Int},Bk k x→Bk k y→Bk k z→Bk k w→Bk (2*k+1) (x*y-z*w):=fun h1 h2 h3 h4=>((h1.mul h2).sub (h3.mul h4)).mono (by omega)
 refine⟨⟨(m S.2 T.1.2 T.2 S.1.2).le b2,(m T.2 S.1.1 S.2 T.1.1).le b3⟩,?_⟩
 have:=m S.1.1 T.1.2 S.1.2 T.1.1
 refine this.le ?_
 unfold Pol.turn at b1
 omega
theorem xby:∀s∈Pol.xbe,B3k 100 s:=fun s hs=>by
 have h:s∈Pol.xbe:=hs
 simp only[Pol.xbe,xkE,xkT,xls] at h
 unfold B3k Bk
 rcases h with rfl | rfl | rfl | rfl<;>simp only[Pol.FAR]<;>decide
theorem qC.good (h:qC rows)(i:Nat):Pol.Good (Pol.xbe++rows.take i) ((rows.take i).foldl Pol.yL Pol.box):=Pol.wJ (rows:=rows.take i) fun s hs=>h.dir s (xkN hs)
theorem qC.small (h:qC rows)(i:Nat):∀v∈(rows.take i).foldl Pol.yL Pol.box,B3k 800 v∧0<v.2.2:=fun v hv=>by
 have g:=h.good i
 refine⟨(lj g (k:=100) (fun s hs=>?_) v hv).mono (by decide),g.bot v hv⟩
 rcases xkB.mp hs with z | z
 ·exact xby s z
 ·exact h.sm s (xkN z)
theorem qC.plen (h:qC rows)(i:Nat):((rows.take i).foldl Pol.yL Pol.box).length≤100000:=by
 have:=Pol.sE (rows:=rows.take i) fun s hs=>h.dir s (xkN hs)
 unfold Pol.pieces at this
 have l:(rows.take i).length≤rows.length:=by rw[xkw];omega
 have:=h.len
 omega
theorem ux (h:v∈yn l):v∈l:=by
 unfold yn at h
 rcases xkB.mp h with h | h
 ·exact List.mem_of_mem_drop h
 ·exact xkN h
theorem tS (p:Pol.R3→Bool)(l:List Pol.R3):(yn l).all p=l.all p:=by
 unfold yn
 rw[List.all_append,Bool.and_comm,←List.all_append,xk0]
theorem qc (l:List Pol.R3):(yn l).length=l.length:=by
 unfold yn
 rw[xkm,xko,xkw];omega
theorem xgJ (a b c d:Int):HT.lexLt [a,b] [c,d]=decide (a<c∨a=c∧b<d):=by
 simp only[HT.lexLt]
 by_cases h:a<c
 ·simp[h];omega
 ·by_cases h2:a=c
  ·subst h2;simp;omega
  ·simp[h,h2]
theorem xaz {α:Type}{l:List α}{n:Nat}(e:l.length=n)(h:n≤1000000:=by decide):l.length<sizeLine:=sqz (by omega)
theorem xeY (hz:0<z)(h:Bd z):Bd (ay i z):=by
 unfold ay
 have g:(0:Int)<(Int.gcd i z:Int):=by have:=xju i (show z≠0 by omega);omega
 have h1:=Int.ediv_le_self (Int.gcd i z:Int) (show 0≤z by omega)
 have h2:=Int.ediv_nonneg (show 0≤z by omega) (show 0≤(Int.gcd i z:Int) by omega)
 unfold Bd at *
 omega
theorem kG (h:gS t=some r):t=trR r:=by
 unfold gS at h
 split at h
 ·cases h;rfl
 ·cases h
theorem j7 (rows:List Pol.R3):rowsOf (rows.map trR)=some rows:=by
 induction rows with
 | nil=>rfl
 | cons r rows ih =>
  show(match gS (trR r),rowsOf (rows.map trR) with | some r,some rs=>some (r::rs) | _,_=>none)=_
  rw[ih];rfl
theorem ql:∀ {us:List Tr} {rows:List Pol.R3},rowsOf us=some rows→us=rows.map trR
 | [],rows,h=>by cases h;rfl
 | t::us,rows,h=>by
  unfold rowsOf at h
  cases e1:gS t with
  | none=>rw[e1] at h;cases h
  | some r =>
   cases e2:rowsOf us with
   | none=>rw[e1,e2] at h;cases h
   | some rs =>
    rw[e1,e2] at h
    cases h
    rw[kG e1,ql e2];rfl
theorem bP (h:us.all zd=true):∃rows:List Pol.R3,us=rows.map trR∧∀r∈rows,(r.1≠0∨r.2.1≠0)∧Pol.bf r:=by
 induction us with
 | nil=>exact⟨[],rfl,fun r hr=>by simp at hr⟩
 | cons t us ih =>
  rw[List.all_cons,xjh] at h
  obtain⟨rows,e,hr⟩:=ih h.2
  have ht:=h.1
  unfold zd at ht
  cases e1:gS t with
  | none=>rw[e1] at ht;cases ht
  | some r =>
   rw[e1] at ht
   have ht:=xlr ht
   refine⟨r::rows,by rw[kG e1,e];rfl,fun x hx=>?_⟩
   rcases xkE.mp hx with z | z
   ·rw[z];exact ht
   ·exact hr x z
theorem aF (h:Pol.bf r):B3k 100 r:=by
 obtain⟨⟨⟨a,b⟩,c,d⟩,e,f⟩:=h
 refine⟨⟨?_,?_⟩,?_⟩<;>unfold Bk<;>omega
theorem sC (rows:List Pol.R3):(rows.map trR).all zd=rows.all fun r=>decide ((r.1≠0∨r.2.1≠0)∧Pol.bf r):=by
 rw[xjW];rfl
theorem lx (h:us.all zd=false):isField (.tup us)=false:=by
 show(match rowsOf us with | some rows=>xq rows | none=>false)=false
 cases e:rowsOf us with
 | none=>rfl
 | some rows =>
  rw[ql e,sC] at h
  show xq rows=false
  unfold xq
  rw[h];simp
end L2
namespace Fra
def gd (a b:Int):Int:=(Int.gcd a b:Int)
def low (n d:Int):Int×Int:=(n / gd n d,d / gd n d)
theorem n5 (a b:Int):0≤gd a b:=xjQ _
theorem mz (h:a≠0∨b≠0):0<gd a b:=by
 unfold gd
 have:0<Int.gcd a b:=by
  rcases h with h | h
  ·exact Int.gcd_pos_of_ne_zero_left _ h
  ·exact xju _ h
 omega
theorem dO (a b:Int):gd a b ∣ a:=xjr ..
theorem jE (a b:Int):gd a b ∣ b:=xjs ..
theorem xe4 (a:Int):gd a 0=if a<0 then -a else a:=by
 unfold gd
 rw[Int.gcd_zero_right]
 split<;>omega
theorem xc8 (h:∀k:Int,(k ∣ a∧k ∣ b)↔(k ∣ c∧k ∣ d)):gd a b=gd c d:=by
 have e1:gd a b ∣ gd c d:=xjl ((h _).mp ⟨dO a b,jE a b⟩).1 ((h _).mp ⟨dO a b,jE a b⟩).2
 have e2:gd c d ∣ gd a b:=xjl ((h _).mpr ⟨dO c d,jE c d⟩).1 ((h _).mpr ⟨dO c d,jE c d⟩).2
 exact Int.dvd_antisymm (n5 _ _) (n5 _ _) e1 e2
theorem xfr (a b q:Int):gd b (a-b*q)=gd a b:=by
 refine xc8 fun k=>⟨fun⟨h1,h2⟩=>⟨?_,h1⟩,fun⟨h1,h2⟩=>⟨h2,?_⟩⟩
 ·have:=Int.dvd_add h2 (Int.dvd_mul_of_dvd_left (c:=q) h1)
  rwa [Int.sub_add_cancel] at this
 ·exact Int.dvd_sub h1 (Int.dvd_mul_of_dvd_left h2)
theorem xeI (a b:Int):gd b (a.fmod b)=gd a b:=by
 rw[Int.fmod_def];exact xfr a b _
theorem lC {a b:Int}(h:b≠0):(a.fmod b).natAbs<b.natAbs:=by
 by_cases hb:0<b
 ·have h1:=Int.fmod_nonneg_of_pos a hb
  have h2:=Int.fmod_lt_of_pos a hb
  omega
 ·have hn:0 < -b:=by omega
  have e:a.fmod b = - ((-a).fmod (-b)):=by rw[Int.neg_fmod_neg];omega
  have h1:=Int.fmod_nonneg_of_pos (-a) hn
  have h2:=Int.fmod_lt_of_pos (-a) hn
  omega
theorem xal (n d:Int):(low n d).1*gd n d=n:=Int.ediv_mul_cancel (dO n d)
theorem cD (n d:Int):(low n d).2*gd n d=d:=Int.ediv_mul_cancel (jE n d)
theorem uU (n d:Int):(low n d).1*d=n*(low n d).2:=by
 have h1:=xal n d
 have h2:=cD n d
 grind
theorem wW (h:0<d):0<(low n d).2:=by
 have h2:=cD n d
 have g:=mz (a:=n) (b:=d) (.inr (by omega))
 generalize gd n d=k at *
 generalize (low n d).2=m at *
 by_cases hm:0<m
 ·exact hm
 ·have:m*k≤0:=Int.mul_nonpos_of_nonpos_of_nonneg (by omega) (by omega)
  omega
theorem aU (h:0<d):Int.gcd (low n d).1 (low n d).2=1:=by
 have g:=mz (a:=n) (b:=d) (.inr (by omega))
 unfold low gd at *
 exact Int.gcd_ediv_gcd_ediv_gcd (by omega)
theorem xaE (h:b ∣ a*d)(g:Int.gcd b a=1):b ∣ d:=by
 have h':b.natAbs ∣ a.natAbs*d.natAbs:=by rw[←xjP];exact Int.natAbs_dvd_natAbs.mpr h
 exact Int.natAbs_dvd_natAbs.mp (Nat.Coprime.dvd_of_dvd_mul_left (show Nat.Coprime b.natAbs a.natAbs from g) h')
theorem sV (h1:Int.gcd a b=1)(h2:Int.gcd c d=1)(hb:0<b)(hd:0<d)(e:a*d=c*b):a=c∧b=d:=by
 have k1:b ∣ d:=by
  have:b ∣ a*d:=⟨c,by rw[e,xjC]⟩
  exact xaE this (by rw[Int.gcd_comm];exact h1)
 have k2:d ∣ b:=by
  have:d ∣ c*b:=⟨a,by rw[←e,xjC]⟩
  exact xaE this (by rw[Int.gcd_comm];exact h2)
 have ebd:b=d:=Int.dvd_antisymm (by omega) (by omega) k1 k2
 subst ebd
 exact⟨xjp (by omega) e,rfl⟩
theorem kM (h:0<d)(h':0<d')(e:n*d'=n'*d):low n d=low n' d':=by
 have c1:=aU (n:=n) h
 have c2:=aU (n:=n') h'
 have p1:=wW (n:=n) h
 have p2:=wW (n:=n') h'
 have x1:=uU n d
 have x2:=uU n' d'
 have key:(low n d).1*(low n' d').2=(low n' d').1*(low n d).2:=by
  generalize (low n d).1=a at *
  generalize (low n d).2=b at *
  generalize (low n' d').1=c at *
  generalize (low n' d').2=f at *
  have:(a*f)*(d*d')=(c*b)*(d*d'):=by grind
  exact xjp (by have:=xjN h h';omega) this
 obtain⟨u,v⟩:=sV c1 c2 p1 p2 key
 exact Prod.ext u v
theorem xeU (hx:0<x1)(hy:0<y1) :
  low ((low (a*x0) x1).1*(low (b*y0) y1).2+(low (b*y0) y1).1*(low (a*x0) x1).2) ((low (a*x0) x1).2*(low (b*y0) y1).2)=low (a*x0*y1+b*y0*x1) (x1*y1):=by
 have p1:=wW (n:=a*x0) hx
 have p2:=wW (n:=b*y0) hy
 have e1:=uU (a*x0) x1
 have e2:=uU (b*y0) y1
 refine kM (xjN p1 p2) (xjN hx hy) ?_
 generalize (low (a*x0) x1).1=p at *
 generalize (low (a*x0) x1).2=q at *
 generalize (low (b*y0) y1).1=r at *
 generalize (low (b*y0) y1).2=t at *
 grind
end Fra
namespace L2
open PySem PySem.Spec PyProof.Rows
abbrev F2:=Int×Int
abbrev P2:=F2×F2
def fT (f:F2):Tr:=frT f.1 f.2
def pT (p:P2):Tr:=.tup [fT p.1,fT p.2]
def lfr (t b:Int):F2:=if b<0 then Fra.low (-t) (-b) else Fra.low t b
theorem vm (h:0<b):lfr t b=Fra.low t b:=by unfold lfr;rw[if_neg (by omega)]
theorem xeH (h:b<0):lfr t b=Fra.low (-t) (-b):=by unfold lfr;rw[if_pos h]
def plc (v:Pol.R3):P2:=(Fra.low v.1 v.2.2,Fra.low v.2.1 v.2.2)
theorem km (v:Pol.R3):yW v=pT (plc v):=rfl
def qo (r:Pol.R3)(p:P2):F2:=lfr (r.1*p.1.1*p.2.2+r.2.1*p.2.1*p.1.2) (p.1.2*p.2.2)
def uF (f g:F2):Bool:=decide (f.1*g.2<g.1*f.2)
def fmin (f g:F2):F2:=lfr (f.1*g.2-g.1*f.2) (f.2*g.2)
def n_ (f g:F2):F2:=lfr (f.1*g.1) (f.2*g.2)
def rY (f g:F2):F2:=lfr (f.1*g.2+g.1*f.2) (f.2*g.2)
def gC (p q w:P2):Int:=(fmin (n_ (fmin q.1 p.1) (fmin w.2 p.2)) (n_ (fmin q.2 p.2) (fmin w.1 p.1))).1
def dm (r:Pol.R3)(p:P2):Bool:=decide ((qo r p).1≤r.2.2*(qo r p).2)
structure Fk (k:Nat)(f:F2):Prop where
 top:Bk k f.1
 bot:Bk k f.2
 pos:0<f.2
theorem Fk.mono (h:Fk k f)(hk:k≤m):Fk m f:=⟨h.top.mono hk,h.bot.mono hk,h.pos⟩
theorem nW (h:0<b)(ht:Bk k t)(hb:Bk k b):Fk k (Fra.low t b):=by
 have g:=Fra.mz (a:=t) (b:=b) (.inr (by omega))
 refine⟨ht.le ?_,hb.le ?_,Fra.wW h⟩
 ·have e:=Fra.xal t b
  generalize (Fra.low t b).1=x at *
  generalize Fra.gd t b=y at *
  rw[←e,xjP]
  exact Nat.le_mul_of_pos_right _ (by omega)
 ·have e:=Fra.cD t b
  generalize (Fra.low t b).2=x at *
  generalize Fra.gd t b=y at *
  have:b.natAbs=x.natAbs*y.natAbs:=by rw[←xjP,e]
  rw[this]
  exact Nat.le_mul_of_pos_right _ (by omega)
theorem gA (h:b≠0)(ht:Bk k t)(hb:Bk k b):Fk k (lfr t b):=by
 unfold lfr
 split
 ·exact nW (by omega) ht.neg hb.neg
 ·exact nW (by omega) ht hb
structure Sd (f:F2)(N D:Int):Prop where
 pf:0<f.2
 pd:0<D
 e:f.1*D=N*f.2
theorem mq (h:0<b):Sd (Fra.low t b) t b:=⟨Fra.wW h,h,Fra.uU t b⟩
theorem xba (h:0<f.2):Sd f f.1 f.2:=⟨h,h,rfl⟩
theorem Sd.lfr (hb:0<b)(hD:0<D)(e:t*D=N*b)(hf:f=L2.lfr t b):Sd f N D:=by
 subst hf
 rw[vm hb]
 refine⟨Fra.wW hb,hD,?_⟩
 have h:=Fra.uU t b
 generalize (Fra.low t b).1=x at *
 generalize (Fra.low t b).2=y at *
 have:(x*D)*b=(N*y)*b:=by grind
 exact xjp (by omega) this
theorem Sd.minus (h:Sd f N D)(h':Sd g M E):Sd (fmin f g) (N*E-M*D) (D*E):=by
 refine Sd.lfr (Pol.pp h.pf h'.pf) (Pol.pp h.pd h'.pd) ?_ rfl
 have:=h.e;have:=h'.e
 grind
theorem Sd.times (h:Sd f N D)(h':Sd g M E):Sd (n_ f g) (N*M) (D*E):=by
 refine Sd.lfr (Pol.pp h.pf h'.pf) (Pol.pp h.pd h'.pd) ?_ rfl
 have:=h.e;have:=h'.e
 grind
theorem kJ {a b k:Int}(hk:0<k):a*k≤b*k↔a≤b:=⟨fun h=>xjx h hk,fun h=>xjH h (by omega)⟩
theorem j9 {a b k:Int}(hk:0<k):a*k<b*k↔a<b:=⟨fun h=>xjz h (by omega),fun h=>xjI h hk⟩
theorem sX {a b k:Int}(hk:0<k):a*k=b*k↔a=b:=⟨fun h=>xjp (by omega) h,fun h=>by rw[h]⟩
theorem q8 {a k:Int}(hk:0<k):a*k<0↔a<0:=by
 have:=j9 (a:=a) (b:=0) hk
 rwa [xjS] at this
theorem Sd.le {f:F2}{N D:Int}(h:Sd f N D)(c:Int):f.1≤c*f.2↔N≤c*D:=by
 have e:=h.e
 rw[←kJ h.pd,e,show c*f.2*D=(c*D)*f.2 by grind,kJ h.pf]
theorem Sd.neg {f:F2}{N D:Int}(h:Sd f N D):f.1<0↔N<0:=by
 have e:=h.e
 rw[←q8 h.pd,e,q8 h.pf]
theorem Sd.lt {f g:F2}{N D M E:Int}(h:Sd f N D)(h':Sd g M E):f.1*g.2<g.1*f.2↔N*E<M*D:=by
 have e:=h.e;have e':=h'.e
 rw[←j9 (Pol.pp h.pd h'.pd),show f.1*g.2*(D*E)=(N*E)*(f.2*g.2) by grind,show g.1*f.2*(D*E)=(M*D)*(f.2*g.2) by grind,j9 (Pol.pp h.pf h'.pf)]
theorem Sd.eq {f g:F2}{N D M E:Int}(h:Sd f N D)(h':Sd g M E):f.1*g.2=g.1*f.2↔N*E=M*D:=by
 have e:=h.e;have e':=h'.e
 rw[←sX (Pol.pp h.pd h'.pd),show f.1*g.2*(D*E)=(N*E)*(f.2*g.2) by grind,show g.1*f.2*(D*E)=(M*D)*(f.2*g.2) by grind,sX (Pol.pp h.pf h'.pf)]
section
variable {p q v w:Pol.R3}
theorem sdx (h:0<v.2.2):Sd (plc v).1 v.1 v.2.2:=mq h
theorem sdy (h:0<v.2.2):Sd (plc v).2 v.2.1 v.2.2:=mq h
theorem cL (r:Pol.R3)(h:0<v.2.2):Sd (qo r (plc v)) (r.1*v.1+r.2.1*v.2.1) v.2.2:=by
 have a:=sdx h;have b:=sdy h
 refine Sd.lfr (Pol.pp a.pf b.pf) h ?_ rfl
 have:=a.e;have:=b.e
 grind
theorem sT (r:Pol.R3)(h:0<v.2.2):dm r (plc v)=decide (Pol.val r v≤0):=by
 unfold dm
 rw[xll,(cL r h).le]
 unfold Pol.val;omega
theorem sU (hp:0<p.2.2)(hq:0<q.2.2)(hw:0<w.2.2):gC (plc p) (plc q) (plc w)<0↔Pol.det p q w<0:=by
 unfold gC
 have s:=(((sdx hq).minus (sdx hp)).times ((sdy hw).minus (sdy hp))).minus (((sdy hq).minus (sdy hp)).times ((sdx hw).minus (sdx hp)))
 rw[s.neg]
 have D:0<q.2.2*p.2.2*(w.2.2*p.2.2):=Pol.pp (Pol.pp hq hp) (Pol.pp hw hp)
 have e:(q.1*p.2.2-p.1*q.2.2)*(w.2.1*p.2.2-p.2.1*w.2.2)*(q.2.2*p.2.2*(w.2.2*p.2.2))-(q.2.1*p.2.2-p.2.1*q.2.2)*(w.1*p.2.2-p.1*w.2.2)*(q.2.2*p.2.2*(w.2.2*p.2.2))
   = Pol.det p q w*(p.2.2*(q.2.2*p.2.2*(w.2.2*p.2.2))):=by unfold Pol.det;grind
 rw[e,q8 (Pol.pp hp D)]
theorem xel (hp:0<p.2.2)(hq:0<q.2.2)(h:Pol.sA p q):plc p=plc q:=by
 unfold plc
 rw[Fra.kM hp hq h.1,Fra.kM hp hq h.2]
theorem xcM (hp:0<p.2.2)(hq:0<q.2.2)(h:plc p=plc q):Pol.sA p q:=by
 have a:=(sdx hp).eq (sdx hq)
 have b:=(sdy hp).eq (sdy hq)
 rw[h] at a b
 exact⟨a.mp rfl,b.mp rfl⟩
theorem xat (hp:0<p.2.2)(hq:0<q.2.2)(gp:Pol.uI p=1)(gq:Pol.uI q=1)(h:Pol.sA p q):p=q:=by
 have key:∀ {p q:Pol.R3},0<p.2.2→0<q.2.2→Pol.uI p=1→Pol.sA p q→p.2.2 ∣ q.2.2:=fun {p q} hp hq gp h=>by
  have h1:p.2.2 ∣ q.2.2*p.1:=⟨q.1,by have:=h.1;grind⟩
  have h2:p.2.2 ∣ q.2.2*p.2.1:=⟨q.2.1,by have:=h.2;grind⟩
  have h3:p.2.2 ∣ q.2.2*p.2.2:=Int.dvd_mul_left ..
  have g12:p.2.2 ∣ q.2.2*(Int.gcd p.1 p.2.1:Int):=by
   have:=xjl h1 h2
   rw[xjt] at this
   have h4:((q.2.2).natAbs*Int.gcd p.1 p.2.1:Nat)=((q.2.2*(Int.gcd p.1 p.2.1:Int)).natAbs:Nat):=by rw[xjP];rfl
   rw[h4] at this
   exact xjm.mp this
  have g3:=xjl g12 h3
  rw[xjt] at g3
  have hg':Int.gcd (Int.gcd p.1 p.2.1:Int) p.2.2=1:=gp
  rw[hg',Nat.mul_one] at g3
  exact xjm.mp g3
 have ez:p.2.2=q.2.2:=Int.dvd_antisymm (by omega) (by omega) (key hp hq gp h) (key hq hp gq ⟨h.1.symm,h.2.symm⟩)
 have h1:=h.1;have h2:=h.2
 rw[ez] at h1 h2
 exact Pol.ext3 (xjp (by omega) h1) (xjp (by omega) h2) ez
theorem xbg (h:0<v.2.2)(hb:B3k k v):Fk k (plc v).1∧Fk k (plc v).2:=⟨nW h hb.1.1 hb.2,nW h hb.1.2 hb.2⟩
end
theorem xag (p:P2):pln (pT p)=true:=rfl
theorem ni (f g:F2):teq (fT f) (fT g)=decide (f=g):=by
 have e:teq (fT f) (fT g)=(decide (f.1=g.1)&&(decide (f.2=g.2)&&true)):=rfl
 rw[e]
 by_cases h1:f.1=g.1
 ·by_cases h2:f.2=g.2
  ·simp[h1,h2,Prod.ext_iff]
  ·simp[h1,h2,Prod.ext_iff]
 ·simp[h1,Prod.ext_iff]
theorem xd8 (p q:P2):teq (pT p) (pT q)=decide (p=q):=by
 have e:teq (pT p) (pT q)=(teq (fT p.1) (fT q.1)&&(teq (fT p.2) (fT q.2)&&true)):=rfl
 rw[e,ni,ni]
 by_cases h1:p.1=q.1
 ·by_cases h2:p.2=q.2
  ·simp[h1,h2,Prod.ext_iff]
  ·simp[h1,h2,Prod.ext_iff]
 ·simp[h1,Prod.ext_iff]
theorem xbG (l:List P2)(c:P2):((l.map pT).any fun u=>teq u (pT c))=decide (c∈l):=by
 rw[Bool.eq_iff_iff,xjX,xlo]
 constructor
 ·rintro⟨u,hu,h⟩
  obtain⟨x,hx,rfl⟩:=xkK.mp hu
  rw[xd8,xlo] at h
  subst h;exact hx
 ·intro h
  exact⟨pT c,xkL h,by rw[xd8];simp⟩
end L2
namespace L2
open PySem PySem.Spec PyProof.Rows
theorem yH {α:Type}{dg:DG}{dc:DT}{de:DE}{τi:TSt}{KK:List Tr→Prop}{f:α→Tr}{l:List α}(p:α→Bool)(g:α→Tr)
  (h1:∀a∈l,∀(N:Tr→Prop) (M:Prop),(p a=true→N (g a))→(p a=false→M)→dg (f a) τi fun τ2=>dc τ2 fun b=>if b=true then de τ2 N else M) (h0:KK ((l.filter p).map g)):be dg dc de τi KK (l.map f) []:=by
 refine jM (fun ys acc=>∃zs us,l=zs++us∧ys=us.map f∧acc=(zs.filter p).map g) (fun acc ⟨zs,us,e,ey,e2⟩=>?_) (fun x ys acc N ⟨zs,us,e,ey,e2⟩ hN=>?_) _ [] ⟨[],l,rfl,rfl,rfl⟩
 ·cases us with
  | nil=>rw[xjZ] at e;subst e e2;exact h0
  | cons u us=>cases ey
 ·cases us with
  | nil=>cases ey
  | cons u us =>
   injection ey with ex ey
   subst ex ey e2
   have hu:u∈l:=by rw[e];simp
   refine h1 u hu (fun y=>N ((zs.filter p).map g++[y])) (N ((zs.filter p).map g)) (fun hp=>hN _ ⟨zs++[u],us,by rw[e];simp,rfl,?_⟩) (fun hp=>hN _ ⟨zs++[u],us,by rw[e];simp,rfl,?_⟩)
   ·rw[List.filter_append,xj7 hp];simp
   ·rw[List.filter_append,xj6 (by rw[hp];exact xji)];simp
theorem nt {α:Type}{dg:DG}{de:DE}{τi:TSt}{KK:List Tr→Prop}{f:α→Tr}{l:List α}(g:α→Tr)(h1:∀a∈l,∀N:Tr→Prop,N (g a)→dg (f a) τi fun τ2=>de τ2 N)(h0:KK (l.map g)):be dg lQ de τi KK (l.map f) []:=by
 refine jM (fun ys acc=>∃zs us,l=zs++us∧ys=us.map f∧acc=zs.map g) (fun acc ⟨zs,us,e,ey,e2⟩=>?_) (fun x ys acc N ⟨zs,us,e,ey,e2⟩ hN=>?_) _ [] ⟨[],l,rfl,rfl,rfl⟩
 ·cases us with
  | nil=>rw[xjZ] at e;subst e e2;exact h0
  | cons u us=>cases ey
 ·cases us with
  | nil=>cases ey
  | cons u us =>
   injection ey with ex ey
   subst ex ey e2
   exact h1 u (by rw[e];simp) (fun y=>N (zs.map g++[y])) (hN _ ⟨zs++[u],us,by rw[e];simp,rfl,by simp⟩)
theorem xeZ (xs:List Tr):teq (.lst xs) (.lst [])=xs.isEmpty:=by cases xs<;>rfl
theorem aX (h:PyData.canLayAll0 (uZ xs)=true):xe_ (.lst xs) (.lst []):=⟨h,rfl,xk9 (Nat.min_le_right _ _) (by decide)⟩
theorem bU {neg:Bool}{xs:List Tr}{KK:Tr→Prop}(h:PyData.canLayAll0 (uZ xs)=true)(k:KK (.bl (if neg then !xs.isEmpty else xs.isEmpty))):xf5 neg (.lst xs) (.lst []) KK:=⟨aX h,by rw[xeZ];exact k⟩
theorem xbC (l:List P2):PyData.canLayAll0 (uZ (l.map pT))=true:=uB pT xag l
theorem filter_empty (p:α→Bool)(l:List α):(l.filter p).isEmpty=l.all fun x=>!p x:=by
 induction l with
 | nil=>rfl
 | cons x l ih =>
  by_cases h:p x=true
  ·rw[xj7 h,List.all_cons,h];rfl
  ·rw[xj6 h,ih,List.all_cons]
   have:p x=false:=by simpa using h
   rw[this];rfl
def lI:TSp:=fun ts KK=>∃t b:Int,ts=[.int t,.int b]∧b≠0∧Bd b∧KK (fT (lfr t b))
def xa_ (s t:Pol.R3):Tr:=if Pol.turn s t=0 then .non else yW (Pol.yh s t)
def ar:TSp:=fun ts KK=>∃s t:Pol.R3,ts=[trR s,trR t]∧B3k 900 s∧B3k 900 t∧KK (xa_ s t)
def xaB:TSp:=fun ts KK=>∃(r:Pol.R3) (p:P2),ts=[trR r,pT p]∧B3k 200 r∧Fk 600 p.1∧Fk 600 p.2∧KK (.bl (dm r p))
def xbR:TSp:=fun ts KK=>∃f g:F2,ts=[fT f,fT g]∧Fk 1000 f∧Fk 1000 g∧KK (.bl (uF f g))
def xao:TSp:=fun ts KK=>∃f g:F2,ts=[fT f,fT g]∧Fk 900 f∧Fk 900 g∧KK (fT (fmin f g))
def xen:TSp:=fun ts KK=>∃f g:F2,ts=[fT f,fT g]∧Fk 900 f∧Fk 900 g∧KK (fT (rY f g))
def bL:TSp:=fun ts KK=>∃f g:F2,ts=[fT f,fT g]∧Fk 900 f∧Fk 900 g∧KK (fT (n_ f g))
def Pk (k:Nat)(p:P2):Prop:=Fk k p.1∧Fk k p.2
def xam:TSp:=fun ts KK=>∃p q w:P2,ts=[pT p,pT q,pT w]∧Pk 200 p∧Pk 200 q∧Pk 200 w∧KK (.int (gC p q w))
def dE:TSp:=fun ts KK=>∃(p q:P2) (ws:List P2),ts=[pT p,pT q,.lst (ws.map pT)]∧Pk 200 p∧Pk 200 q∧(∀w∈ws,Pk 200 w)∧ws.length≤1000∧KK (.bl (ws.all fun w=>!decide (gC p q w<0)))
structure xbm (l:List Pol.R3):Prop where
 ccw:Pol.Ccw l
 pos:∀v∈l,0<v.2.2
 prim:∀v∈l,Pol.uI v=1
 sm:∀v∈l,B3k 190 v
 least:Pol.qV l
 len:l.length≤900
def xdU:TSp:=fun ts KK=>∃ps l:List Pol.R3,ts=[.lst (ps.map yW)]∧(∀v,v∈ps↔v∈l)∧ps.length≤1000∧xbm l∧KK (.lst (l.map yW))
structure wG (rows:List Pol.R3):Prop where
 fine:Pol.xeW rows rows
 len:rows.length≤8
def wd (rows:List Pol.R3):List Pol.R3:=yn (Pol.pieces rows)
def nA:TSp:=fun ts KK=>∃rows:List Pol.R3,ts=[.tup (rows.map trR)]∧wG rows∧KK (.lst ((wd rows).map yW))
theorem xaO (h:b≠0):0<(lfr t b).2:=by
 unfold lfr
 split
 ·exact Fra.wW (by omega)
 ·exact Fra.wW (by omega)
theorem Fk.min (h:Fk k f)(h':Fk k g):Fk (2*k+1) (fmin f g):=by
 unfold fmin
 refine gA (by have:=Pol.pp h.pos h'.pos;omega) ?_ ?_
 ·exact((h.top.mul h'.bot).sub (h'.top.mul h.bot)).mono (by omega)
 ·exact(h.bot.mul h'.bot).mono (by omega)
theorem Fk.tim (h:Fk k f)(h':Fk k g):Fk (2*k) (n_ f g):=by
 unfold n_
 refine gA (by have:=Pol.pp h.pos h'.pos;omega) ?_ ?_
 ·exact(h.top.mul h'.top).mono (by omega)
 ·exact(h.bot.mul h'.bot).mono (by omega)
theorem nX (p q:Pol.R3):ahead p q=true↔Pol.Ah p q:=by unfold ahead Pol.Ah;exact xlp
theorem rV (l:List Pol.R3)(hl:l≠[]):∀n,n≤l.length→(List.range n).foldl (yi l) 0<l.length
 | 0,_=>by simp;exact List.length_pos_iff.mpr hl
 | n+1,h=>by
  rw[List.range_succ,xka]
  have ih:=rV l hl n (by omega)
  generalize (List.range n).foldl (yi l) 0=m at ih ⊢
  show yi l m n<_
  unfold yi
  split<;>omega
theorem oV (l:List Pol.R3)(hp:∀v∈l,0<v.2.2)(hl:l≠[]):∀n,n≤l.length→∀j,j<n→¬Pol.Ah (l.getD j (0,0,0)) (l.getD ((List.range n).foldl (yi l) 0) (0,0,0))
 | 0,_=>fun j hj=>by omega
 | n+1,h=>fun j hj=>by
  rw[List.range_succ,xka]
  have ih:=oV l hp hl n (by omega)
  have s:=rV l hl n (by omega)
  have g:∀i,i<l.length→0<(l.getD i (0,0,0)).2.2:=fun i hi=>by
   rw[xkc,xke hi];exact hp _ (xkl hi)
  generalize (List.range n).foldl (yi l) 0=m at ih s ⊢
  show ¬Pol.Ah _ (l.getD (yi l m n) (0,0,0))
  by_cases c:ahead (l.getD n (0,0,0)) (l.getD m (0,0,0))=true
  ·have e:yi l m n=n:=by unfold yi;rw[if_pos c]
   rw[e]
   have c:=(nX _ _).mp c
   by_cases hjn:j=n
   ·rw[hjn];exact Pol.Ah.irrefl _
   ·intro z
    exact ih j (by omega) (z.trans (g j (by omega)) (g n (by omega)) (g m s) c)
  ·have e:yi l m n=m:=by unfold yi;rw[if_neg c]
   rw[e]
   by_cases hjn:j=n
   ·rw[hjn];exact fun z=>c ((nX _ _).mpr z)
   ·exact ih j (by omega)
theorem se (hp:∀v∈l,0<v.2.2):Pol.qV (yn l):=by
 intro h t e v hv
 have hl:l≠[]:=fun z=>by rw[z] at e;unfold yn at e;simp at e
 have s:=rV l hl l.length (xk7 _)
 have ok:=oV l hp hl l.length (xk7 _)
 have hh:h=l.getD (vO l) (0,0,0):=by
  unfold yn at e
  rw[xj1 (show vO l<l.length from s),xj0] at e
  injection e with e1 e2
  rw[←e1,xkc,xke (show vO l<l.length from s)];rfl
 have hv:=ux hv
 obtain⟨j,hj,rfl⟩:=xkJ.mp hv
 have:=ok j hj
 rw[hh]
 rw[xkc,xke hj] at this
 exact this
theorem vK:v∈yn l↔v∈l:=by
 unfold yn
 rw[xkB,Or.comm,←xkB,xk0]
theorem rk (h:Pol.Ccw l):Pol.Ccw (yn l):=by
 unfold yn
 apply Pol.Ccw.rot
 rw[xk0];exact h
theorem wG.rows {rows:List Pol.R3}(h:wG rows):qC rows:=⟨h.fine.dir,fun r hr=>aF (h.fine.fr r hr),by have:=h.len;omega⟩
theorem uh (h:Pol.bf r):B3k 10 r:=by
 obtain⟨⟨⟨a,b⟩,c,d⟩,e,f⟩:=h
 refine⟨⟨?_,?_⟩,?_⟩<;>unfold Bk<;>omega
theorem wG.corner {rows:List Pol.R3}(h:wG rows){v:Pol.R3}(hv:v∈wd rows):(0<v.2.2∧Pol.uI v=1∧Pol.IsC rows v)∧B3k 21 v:=by
 have hv:v∈Pol.pieces rows:=ux hv
 have c:=h.fine.corner hv
 refine⟨c,?_⟩
 obtain⟨hz,g,⟨_,s,hs,t,ht,e1,e2,hn⟩⟩:=c
 obtain⟨b1,b2,b3⟩:=Pol.gH g hz e1 e2 hn
 have S:=uh (h.fine.fr s hs)
 have T:=uh (h.fine.fr t ht)
 have m:∀ {x y z w:Int},Bk 10 x→Bk 10 y→Bk 10 z→Bk 10 w→Bk 21 (x*y-z*w):=fun h1 h2 h3 h4=>(h1.mul h2).sub (h3.mul h4)
 refine⟨⟨(m S.2 T.1.2 T.2 S.1.2).le b2,(m T.2 S.1.1 S.2 T.1.1).le b3⟩,?_⟩
 refine(m S.1.1 T.1.2 S.1.2 T.1.1).le ?_
 unfold Pol.turn at b1
 omega
theorem wG.ring {rows:List Pol.R3}(h:wG rows):xbm (wd rows) where
 ccw:=rk (Pol.wJ h.fine.dir).ccw
 pos:=fun v hv=>(h.corner hv).1.1
 prim:=fun v hv=>(h.corner hv).1.2.1
 sm:=fun v hv=>(h.corner hv).2.mono (by decide)
 least:=se (Pol.wJ h.fine.dir).bot
 len:=by
  unfold wd
  rw[qc]
  have:=Pol.sE h.fine.dir
  have:=h.len
  omega
theorem wG.crossing {rows:List Pol.R3}(h:wG rows){s t:Pol.R3}(hs:s∈rows)(ht:t∈rows)(hn:Pol.turn s t≠0)(hk:∀r∈rows,Pol.val r (Pol.yh s t)≤0):∃v∈wd rows,yW (Pol.yh s t)=yW v:=by
 obtain⟨z,e1,e2⟩:=Pol.uA hn
 obtain⟨v,hv,sm⟩:=h.fine.found z ⟨hk,s,hs,t,ht,e1,e2,hn⟩
 refine⟨v,vK.mpr hv,?_⟩
 rw[km,km,xel z (h.fine.corner hv).1 ⟨sm.1.symm,sm.2.symm⟩]
theorem wG.tightPt {rows:List Pol.R3}(h:wG rows){s t v:Pol.R3}(hv:v∈wd rows)(hn:Pol.turn s t≠0)(h1:Pol.val s v=0)(h2:Pol.val t v=0):yW (Pol.yh s t)=yW v∧∀r∈rows,Pol.val r (Pol.yh s t)≤0:=by
 obtain⟨⟨hz,_,hc⟩,_⟩:=h.corner hv
 obtain⟨z,e1,e2⟩:=Pol.uA hn
 have sm:=Pol.nH hn h1 h2
 refine⟨by rw[km,km,xel z hz sm],fun r hr=>?_⟩
 have k:=hc.kept r hr
 have e:Pol.val r (Pol.yh s t)*v.2.2=Pol.val r v*(Pol.yh s t).2.2:=by
  have a:=sm.1;have b:=sm.2
  unfold Pol.val
  grind
 have:Pol.val r (Pol.yh s t)*v.2.2≤0:=by rw[e];exact Pol.np k (by omega)
 rcases xjA 0 (Pol.val r (Pol.yh s t)) with q | q
 ·have:=Pol.pp q hz;omega
 ·exact q
theorem tM (hp:0<p.2.2)(hq:0<q.2.2)(gp:Pol.uI p=1)(gq:Pol.uI q=1)(h:plc p=plc q):p=q:=xat hp hq gp gq (xcM hp hq h)
end L2
namespace L2
open PySem PySem.Spec PyProof.Rows
theorem cT (h:Pol.turn s t≠0):yW (Pol.yh s t)=pT (lfr (s.2.2*t.2.1-s.2.1*t.2.2) (Pol.turn s t),lfr (s.1*t.2.2-s.2.2*t.1) (Pol.turn s t)):=by
 rw[km]
 congr 1
 unfold Pol.yh lfr plc
 split<;>rfl
theorem mJ (h:Pol.turn s t=0):xa_ s t=.non:=if_pos h
theorem sO (h:Pol.turn s t≠0):xa_ s t=yW (Pol.yh s t):=if_neg h
theorem xcE (hx:Fk 600 p.1)(hy:Fk 600 p.2)(hr:B3k 200 r):Bd (qo r p).2:=by
 unfold qo
 have:=gA (k:=1500) (t:=r.1*p.1.1*p.2.2+r.2.1*p.2.1*p.1.2) (b:=p.1.2*p.2.2) (by have:=Pol.pp hx.pos hy.pos;omega)
  (((hr.1.1.mul hx.top |>.mul hy.bot).add (hr.1.2.mul hy.top |>.mul hx.bot)).mono (by decide)) ((hx.bot.mul hy.bot).mono (by decide))
 exact this.bot.bd
structure fM (ss done:List Pol.R3):Prop where
 nd:ss.Nodup
 mem:∀v,v∈ss↔v∈done
 least:Pol.qV ss
def zo (ss:List Pol.R3)(p:Pol.R3):Nat:=(ss.filter fun v=>uF (plc v).1 (plc p).1).length+(ss.filter fun v=>decide ((plc v).1=(plc p).1)&&uF (plc v).2 (plc p).2).length
theorem m5 (hp:0<p.2.2)(hq:0<q.2.2):uF (plc p).1 (plc q).1=true↔p.1*q.2.2<q.1*p.2.2:=by
 unfold uF;rw[xlp];exact(sdx hp).lt (sdx hq)
theorem mG (hp:0<p.2.2)(hq:0<q.2.2):uF (plc p).2 (plc q).2=true↔p.2.1*q.2.2<q.2.1*p.2.2:=by
 unfold uF;rw[xlp];exact(sdy hp).lt (sdy hq)
theorem xaC (hp:0<p.2.2)(hq:0<q.2.2):(plc p).1=(plc q).1↔p.1*q.2.2=q.1*p.2.2 :=
 ⟨fun e=>((sdx hp).eq (sdx hq)).mp (by rw[e]),fun e=>Fra.kM hp hq e⟩
theorem bJ (hs:∀v∈ss,0<v.2.2)(hp:0<p.2.2)(h:zo ss p=0):∀v∈ss,¬Pol.Ah v p:=fun v hv a=>by
 unfold zo at h
 have h1:(ss.filter fun v=>uF (plc v).1 (plc p).1)=[]:=xkp.mp (by omega)
 have h2:(ss.filter fun v=>decide ((plc v).1=(plc p).1)&&uF (plc v).2 (plc p).2)=[]:=xkp.mp (by omega)
 rw[xj8] at h1 h2
 rcases a with a | ⟨a,b⟩
 ·exact h1 v hv ((m5 (hs v hv) hp).mpr a)
 ·exact h2 v hv (by rw[xln ((xaC (hs v hv) hp).mpr a),(mG (hs v hv) hp).mpr b];rfl)
theorem xaa (hs:∀v∈ss,0<v.2.2)(hp:0<p.2.2)(h:zo ss p≠0):∃v∈ss,Pol.Ah v p:=by
 unfold zo at h
 by_cases h1:(ss.filter fun v=>uF (plc v).1 (plc p).1)=[]
 ·by_cases h2:(ss.filter fun v=>decide ((plc v).1=(plc p).1)&&uF (plc v).2 (plc p).2)=[]
  ·rw[h1,h2] at h;exact absurd rfl h
  ·obtain⟨v,hv⟩:=List.exists_mem_of_ne_nil _ h2
   obtain⟨m,c⟩:=xkH.mp hv
   rw[xjh,xlo] at c
   exact⟨v,m,.inr ⟨(xaC (hs v m) hp).mp c.1,(mG (hs v m) hp).mp c.2⟩⟩
 ·obtain⟨v,hv⟩:=List.exists_mem_of_ne_nil _ h1
  obtain⟨m,c⟩:=xkH.mp hv
  exact⟨v,m,.inl ((m5 (hs v m) hp).mp c)⟩
theorem ae {α:Type}{P Q:α→Bool}(h:∀x,P x=true→Q x=true→False):∀l:List α,(l.filter P).length+(l.filter Q).length≤l.length
 | []=>xk7 _
 | x::l=>by
  have ih:=ae h l
  by_cases h1:P x=true
  ·rw[xj7 h1,xj6 (h x h1),xkn,xkn];omega
  ·rw[xj6 h1]
   by_cases h2:Q x=true
   ·rw[xj7 h2,xkn,xkn];omega
   ·rw[xj6 h2,xkn];omega
theorem xbh {ss:List Pol.R3}{p:Pol.R3}:zo ss p≤ss.length:=by
 unfold zo
 refine ae (fun v h1 z=>?_) ss
 rw[xjh,xlo] at z
 unfold uF at h1
 rw[z.1,xlo] at h1
 omega
theorem fM.ins {ss done:List Pol.R3}{p:Pol.R3}(h:fM ss done)(hs:∀v∈ss,0<v.2.2)(hp:0<p.2.2)(hn:p∉ss) :
  fM (ss.take (zo ss p)++[p]++ss.drop (zo ss p)) (done++[p]):=by
 have perm:(ss.take (zo ss p)++[p]++ss.drop (zo ss p)).Perm (p::ss):=by
  have e:p::ss=p::(ss.take (zo ss p)++ss.drop (zo ss p)):=by rw[xk0]
  rw[e,xjY]
  exact List.perm_middle
 have memp:∀v,v∈ss.take (zo ss p)++[p]++ss.drop (zo ss p)↔v=p∨v∈ss:=fun v=>by rw[perm.mem_iff,xkE]
 refine⟨perm.nodup_iff.mpr (xkS.mpr ⟨hn,h.nd⟩),fun v=>?_,fun x t e v hv=>?_⟩
 ·rw[memp,xkB,xkP,h.mem,Or.comm]
 ·by_cases h0:zo ss p=0
  ·have z:=bJ hs hp h0
   rw[h0,List.take_zero,xkQ,xj0] at e
   injection e with e1 e2
   rw[←e1]
   rcases(memp v).mp hv with q | q
   ·rw[q];exact Pol.Ah.irrefl p
   ·exact z v q
  ·obtain⟨w,hw,aw⟩:=xaa hs hp h0
   cases ss with
   | nil=>simp at hw
   | cons y ys =>
    obtain⟨m,hm⟩:∃m,zo (y::ys) p=m+1:=⟨zo (y::ys) p-1,by omega⟩
    rw[hm,List.take_succ_cons,xj0,xj0] at e
    injection e with e1 e2
    rw[←e1]
    have ly:=h.least y ys rfl
    rcases(memp v).mp hv with q | q
    ·rw[q]
     intro z
     exact ly w hw (aw.trans (hs w hw) hp (hs y xkG) z)
    ·exact ly v q
theorem fM.stay (h:fM ss done)(hp:p∈ss):fM ss (done++[p]):=⟨h.nd,fun v=>by
 rw[xkB,xkP,←h.mem]
 exact⟨.inl,fun z=>z.elim id fun e=>e▸hp⟩,h.least⟩
theorem nB (hr:xbm l)(hm:∀v,v∈ss↔v∈l)(hl:Pol.qV ss):ss.head? = l.head?:=by
 cases ss with
 | nil =>
  cases l with
  | nil=>rfl
  | cons a t=>exact absurd ((hm a).mpr xkG) (by simp)
 | cons b u =>
  cases l with
  | nil=>exact absurd ((hm b).mp xkG) (by simp)
  | cons a t =>
   have hb:=(hm b).mp xkG
   have ha:=(hm a).mpr xkG
   have h1:=hr.least a t rfl b hb
   have h2:=hl b u rfl a ha
   have:=xat (hr.pos b hb) (hr.pos a xkG) (hr.prim b hb) (hr.prim a xkG) (Pol.Ah.total h1 h2)
   rw[this];rfl
theorem l7 (hr:xbm l)(nd:ss.Nodup)(hm:∀v,v∈ss↔v∈l)(hl:Pol.qV ss)(h3:ss.length<3):ss=l:=by
 have hh:=nB hr hm hl
 have len:=Pol.az nd hr.ccw.nd hm
 rcases ss with _ | ⟨a,_ | ⟨b,_ | ⟨e,t⟩⟩⟩
 ·rcases l with _ | ⟨c,u⟩
  ·rfl
  ·cases len
 ·rcases l with _ | ⟨c,_ | ⟨d,u⟩⟩
  ·cases len
  ·simpa using hh
  ·cases len
 ·rcases l with _ | ⟨c,_ | ⟨d,_ | ⟨g,u⟩⟩⟩
  ·cases len
  ·cases len
  ·have e:a=c:=by simpa using hh
   subst e
   have hb:=(hm b).mp (by simp)
   have:b≠a:=fun z=>by subst z;simp at nd
   simp[this] at hb
   rw[hb]
  ·cases len
 ·exact absurd h3 (by simp)
theorem xb1 {l ss:List Pol.R3}(hr:xbm l)(nd:ss.Nodup)(hm:∀v,v∈ss↔v∈l){k:Nat}{a b:Pol.R3}(ha:l[k]? = some a)(hb:l[k+1]? = some b) :
  ss.filter (fun v=>!decide (plc v∈(l.take (k+1)).map plc)&&(ss.map plc).all fun w=>!decide (gC (plc a) (plc v) w<0))=[b]:=by
 have ham:=xkM ha
 have hbm:=xkM hb
 have hk:=(xkg.mp hb).1
 obtain⟨c1,c2⟩:=Pol.xc4 hr.ccw ha hb
 have inj:∀ {x y},x∈l→y∈l→plc x=plc y→x=y:=fun hx hy e=>tM (hr.pos _ hx) (hr.pos _ hy) (hr.prim _ hx) (hr.prim _ hy) e
 have ix:∀ {i j:Nat} {x:Pol.R3},l[i]? = some x→l[j]? = some x→i=j:=fun {i j x} h1 h2=>by
  have hi:=(xkg.mp h1).1
  exact(List.getElem?_inj hi hr.ccw.nd).mp (h1.trans h2.symm)
 have tk:∀ {j:Nat} {x:Pol.R3},l[j]? = some x→(plc x∈(l.take (k+1)).map plc↔j<k+1):=fun {j x} hj=>by
  have hxm:=xkM hj
  constructor
  ·intro z
   obtain⟨y,hy,e⟩:=xkK.mp z
   have:=inj (xkN hy) hxm e
   subst this
   obtain⟨i,hi,e⟩:=xkJ.mp hy
   rw[List.getElem_take] at e
   have hi':i<k+1:=by rw[xkw] at hi;omega
   have:l[i]? = some y:=by rw[xke (by rw[xkw] at hi;omega),e]
   have:=ix this hj
   omega
  ·intro z
   refine xkL ?_
   have:(l.take (k+1))[j]? = some x:=by rw[List.getElem?_take_of_lt z,hj]
   exact xkM this
 refine Pol.sM nd ((hm b).mpr hbm) fun x hx=>?_
 have hxl:=(hm x).mp hx
 obtain⟨j,hj,ej⟩:=xkJ.mp hxl
 have hj':l[j]? = some x:=by rw[xke hj,ej]
 rw[xjh,Bool.not_eq_true',decide_eq_false_iff_not,tk hj',xjW,xjV]
 constructor
 ·rintro⟨h1,h2⟩
  by_cases e:j=k+1
  ·subst e;rw[hj'] at hb;exact xlj hb
  ·exfalso
   have:=c2 j x (by omega) hj'
   have:=h2 b ((hm b).mpr hbm)
   simp at this
   have:=sU (hr.pos a ham) (hr.pos x hxl) (hr.pos b hbm)
   omega
 ·rintro rfl
  refine⟨?_,fun w hw=>?_⟩
  ·have:=ix hj' hb;omega
  ·have hwl:=(hm w).mp hw
   have:=c1 w hwl
   have:=sU (hr.pos a ham) (hr.pos x hbm) (hr.pos w hwl)
   simp
   omega
theorem xd6 (h:fT f=fT g):f=g:=by
 have e:=ni f g
 unfold fT frT at h
 injection h with h
 injection h with h1 h
 injection h with h2 h
 injection h1 with h1;injection h2 with h2
 exact Prod.ext h1 h2
theorem xgN (h:pT p=pT q):p=q:=by
 unfold pT at h
 injection h with h
 injection h with h1 h
 injection h with h2 h
 exact Prod.ext (xd6 h1) (xd6 h2)
theorem gX (l:List Pol.R3):l.map yW=(l.map plc).map pT:=by rw[xkA];rfl
theorem pQ {l:List Pol.R3}(hp:∀v∈l,0<v.2.2)(hg:∀v∈l,Pol.uI v=1){ss:List Pol.R3}(hs:∀v∈ss,v∈l){p:Pol.R3}(h:p∈l):((ss.map yW).any fun u=>teq u (yW p))=decide (p∈ss):=by
 rw[gX,km,xbG,xll]
 constructor
 ·intro z
  obtain⟨y,hy,e⟩:=xkK.mp z
  rw[←tM (hp y (hs y hy)) (hp p h) (hg y (hs y hy)) (hg p h) e];exact hy
 ·intro z;exact xkL z
theorem fq (l:List Pol.R3):PyData.canLayAll0 (uZ (l.map yW))=true:=uB yW (fun v=>xag (plc v)) l
end L2
namespace L2
open PySem PySem.Spec PyProof.Rows
theorem x_ (P:TSt→Prop)(hB:∀ τ',P τ'→B G τ')(hA:∀N:TSt→Prop,(∀ τ',P τ'→N τ')→A { G with nx:=N } τ):xfN A B G τ:=hA (B G) hB
theorem vX (all:List Tr)(W:Nat→TSt→Prop)(hd:∀KK:List Tr→Prop,KK all→di τ KK)(w0:W 0 τ)
  (h1:∀i x τ (N:TSt→Prop),all[i]? = some x→W i τ→(∀ τ',W (i+1) τ'→N τ')→dg x τ fun τ'=>body { G with nx:=N,ct:=N,bk:=G.nx } τ')
  (h0:∀ τ,W all.length τ→G.nx τ):xh9 di dg body G τ:=hd _ (zD W w0 h1 h0)
abbrev TV9:=TV×TV×TV×TV×TV×TV×TV×TV×TV
theorem o7 (f:α→β)(l:List α)(x:α):(l++[x]).map f=l.map f++[f x]:=by rw[xky];rfl
theorem gY (h:-1000000≤i∧i≤1000000):Bd i:=xb2 (by omega) (by omega)
theorem w4 (h:-1000000≤i∧i≤1000000)(h':-1000000≤j∧j≤1000000):CM i j:=⟨gY h,gY h'⟩
theorem tk {m:Int}(h:0<m∧m<1000000):0<m∧m<2 ^ 128:=⟨h.1,by omega⟩
structure LF0 (rows:List Pol.R3):Prop where
 l3:3≤rows.length
 l8:rows.length≤8
 sm:∀r∈rows,((-14≤r.1∧r.1≤14)∧(-14≤r.2.1∧r.2.1≤14))∧(-100≤r.2.2∧r.2.2≤100)
 dir:∀r∈rows,r.1≠0∨r.2.1≠0
 gr:Pol.GR rows
 near:∀p:Pol.R3,0<p.2.2→(∀r∈rows,Pol.val r p≤0)→(-(9*p.2.2)≤p.1∧p.1≤9*p.2.2)∧(-(9*p.2.2)≤p.2.1∧p.2.1≤9*p.2.2)
structure LF (rows:List Pol.R3):Prop where
 l3:3≤rows.length
 l8:rows.length≤8
 sm:∀r∈rows,((-14≤r.1∧r.1≤14)∧(-14≤r.2.1∧r.2.1≤14))∧(-200≤r.2.2∧r.2.2≤200)
 dir:∀r∈rows,r.1≠0∨r.2.1≠0
 gr:Pol.GR rows
 near:∀p:Pol.R3,0<p.2.2→(∀r∈rows,Pol.val r p≤0)→(-(12*p.2.2)≤p.1∧p.1≤12*p.2.2)∧(-(12*p.2.2)≤p.2.1∧p.2.1≤12*p.2.2)
def xa7:TSp:=fun ts KK=>ts=[]∧∀rows,LF rows→KK (.tup (rows.map trR))
def aH (u v:Int)(r:Pol.R3):Pol.R3:=(r.1,r.2.1,r.2.2+r.1*u+r.2.1*v)
theorem o8 (h1:-m≤a)(h2:a≤m)(h3:-n≤b)(h4:b≤n)(hm:0≤m)(hn:0≤n):-(m*n)≤a*b∧a*b≤m*n:=by
 have key:(a*b).natAbs≤(m*n).natAbs:=by
  rw[xjP,xjP]
  exact Nat.mul_le_mul (by omega) (by omega)
 have:=Pol.pz hm hn
 omega
theorem LF0.moved (h:LF0 rows)(hu:-3≤u∧u≤3)(hv:-3≤v∧v≤3):LF (rows.map (aH u v)) where
 l3:=by rw[xkr];exact h.l3
 l8:=by rw[xkr];exact h.l8
 sm:=fun r hr=>by
  obtain⟨s,hs,rfl⟩:=xkK.mp hr
  obtain⟨⟨⟨a1,a2⟩,b1,b2⟩,c1,c2⟩:=h.sm s hs
  have x:=o8 a1 a2 hu.1 hu.2 (by decide) (by decide)
  have y:=o8 b1 b2 hv.1 hv.2 (by decide) (by decide)
  simp only[aH]
  omega
 dir:=fun r hr=>by
  obtain⟨s,hs,rfl⟩:=xkK.mp hr
  exact h.dir s hs
 gr:=fun x y hn=>by
  obtain⟨r,hr,p⟩:=h.gr x y hn
  exact⟨aH u v r,xkL hr,p⟩
 near:=fun p hz hk=>by
  have:=h.near (p.1-u*p.2.2,p.2.1-v*p.2.2,p.2.2) hz fun r hr=>by
   have:=hk _ (xkL hr)
   have e:Pol.val r (p.1-u*p.2.2,p.2.1-v*p.2.2,p.2.2)=Pol.val (aH u v r) p:=by simp only[Pol.val,aH];grind
   rw[e];exact this
  simp only at this
  have x:=xjH hu.1 (show 0≤p.2.2 by omega)
  have x':=xjH hu.2 (show 0≤p.2.2 by omega)
  have y:=xjH hv.1 (show 0≤p.2.2 by omega)
  have y':=xjH hv.2 (show 0≤p.2.2 by omega)
  omega
theorem LF.rot (h:LF rows)(n:Nat):LF (rows.drop n++rows.take n):=by
 have mem:∀r,r∈rows.drop n++rows.take n↔r∈rows:=fun r=>by rw[xkB,Or.comm,←xkB,xk0]
 have len:(rows.drop n++rows.take n).length=rows.length:=by rw[xkm,xko,xkw];omega
 exact⟨by rw[len];exact h.l3,by rw[len];exact h.l8,fun r hr=>h.sm r ((mem r).mp hr),fun r hr=>h.dir r ((mem r).mp hr),
  fun u v hn=>let ⟨r,hr,p⟩:=h.gr u v hn;⟨r,(mem r).mpr hr,p⟩,fun p hz hk=>h.near p hz fun r hr=>hk r ((mem r).mpr hr)⟩
theorem LF.frow (h:LF rows):∀r∈rows,Pol.bf r:=fun r hr=>by have:=h.sm r hr;unfold Pol.bf;omega
theorem LF.fine (h:LF rows):wG rows:=⟨⟨fun {p} hz hp s hs=>by
 have:=h.near p hz hp
 simp only[Pol.xbe,xkE,xkT,xls] at hs
 rcases hs with rfl | rfl | rfl | rfl<;>simp only[Pol.val,Pol.FAR]<;>omega,h.frow,fun _ h=>h,h.dir⟩,h.l8⟩
theorem mZ (hd:0<d):nearF (mY n d) (ay n d)=true↔-(12*d)≤n∧n≤12*d:=by
 have s:=mq (t:=n) (b:=d) hd
 unfold nearF
 rw[xlp]
 have h1:=s.le 12
 have h2:-(12*ay n d)≤mY n d↔-(12*d)≤n:=by
  have e:=s.e
  have p:=s.pf
  show -(12*(Fra.low n d).2)≤(Fra.low n d).1↔_
  rw[←kJ hd,e,show -(12*(Fra.low n d).2)*d=(-(12*d))*(Fra.low n d).2 by grind,kJ p]
 have h3:mY n d≤12*ay n d↔n≤12*d:=h1
 rw[h2,h3]
theorem xb_ (hz:0<v.2.2):rR v=true↔(-(12*v.2.2)≤v.1∧v.1≤12*v.2.2)∧(-(12*v.2.2)≤v.2.1∧v.2.1≤12*v.2.2):=by
 unfold rR
 rw[xjh,mZ hz,mZ hz]
theorem LF.field (h:LF rows):isField (.tup (rows.map trR))=true:=by
 show(match rowsOf (rows.map trR) with | some rows=>xq rows | none=>false)=true
 rw[j7]
 show xq rows=true
 unfold xq
 rw[xln ⟨h.l3,h.l8⟩,Pol.xdo h.dir (Pol.xhx h.gr) (Pol.xhJ h.dir h.gr)]
 have e1:(rows.all fun r=>decide ((r.1≠0∨r.2.1≠0)∧Pol.bf r))=true:=by
  rw[xjV];intro r hr;exact xln ⟨h.dir r hr,h.frow r hr⟩
 have e2:(Pol.pieces rows).all rR=true:=by
  rw[xjV]
  intro v hv
  obtain⟨hz,_,hc⟩:=h.fine.fine.corner hv
  exact(xb_ hz).mpr (h.near v hz hc.kept)
 rw[e1,e2];rfl
structure xhB (b1 c1 b2 c2 b3 c3 b4 c4:Int):Prop where
 h1:(1≤b1∧b1≤3)∧0≤c1∧c1≤5*b1
 h2:(1≤b2∧b2≤3)∧0≤c2∧c2≤5*b2
 h3:(1≤b3∧b3≤3)∧0≤c3∧c3≤5*b3
 h4:(1≤b4∧b4≤3)∧0≤c4∧c4≤5*b4
theorem xhi {b c x z:Int}(hb:1≤b)(hc:c≤5*b)(hz:0<z)(h:b*x≤c*z):x≤5*z:=by
 have h1:c*z≤5*b*z:=xjH hc (by omega)
 have h2:b*x≤b*(5*z):=by
  have:b*(5*z)=5*b*z:=by grind
  omega
 exact xjw h2 (by omega)
def Extra (r:Pol.R3):Prop:=(((-6≤r.1∧r.1≤6)∧(-6≤r.2.1∧r.2.1≤6))∧(-40≤r.2.2∧r.2.2≤40))∧(r.1≠0∨r.2.1≠0)
theorem xhB.lf {b1 c1 b2 c2 b3 c3 b4 c4:Int}(B:xhB b1 c1 b2 c2 b3 c3 b4 c4){ex:List Pol.R3}(hx:∀r∈ex,Extra r)(hl:ex.length≤4):LF0 ([(-b1,0,c1),(b2,0,c2),(0,-b3,c3),(0,b4,c4)]++ex):=by
 obtain⟨h1,h2,h3,h4⟩:=B
 have four:∀r∈([(-b1,0,c1),(b2,0,c2),(0,-b3,c3),(0,b4,c4)]++ex:List Pol.R3),r=(-b1,0,c1)∨r=(b2,0,c2)∨r=(0,-b3,c3)∨r=(0,b4,c4)∨Extra r:=fun r hr=>by
  rcases xkB.mp hr with h | h
  ·simp only[xkE,xkT,xls] at h
   rcases h with h | h | h | h
   ·exact .inl h
   ·exact .inr (.inl h)
   ·exact .inr (.inr (.inl h))
   ·exact .inr (.inr (.inr (.inl h)))
  ·exact .inr (.inr (.inr (.inr (hx r h))))
 have m1:(-b1,0,c1)∈([(-b1,0,c1),(b2,0,c2),(0,-b3,c3),(0,b4,c4)]++ex:List Pol.R3):=xkC _ xkG
 have m2:(b2,0,c2)∈([(-b1,0,c1),(b2,0,c2),(0,-b3,c3),(0,b4,c4)]++ex:List Pol.R3):=xkC _ (xkF _ xkG)
 have m3:(0,-b3,c3)∈([(-b1,0,c1),(b2,0,c2),(0,-b3,c3),(0,b4,c4)]++ex:List Pol.R3):=xkC _ (xkF _ (xkF _ xkG))
 have m4:(0,b4,c4)∈([(-b1,0,c1),(b2,0,c2),(0,-b3,c3),(0,b4,c4)]++ex:List Pol.R3):=xkC _ (xkF _ (xkF _ (xkF _ xkG)))
 refine⟨by simp,by simp;omega,fun r hr=>?_,fun r hr=>?_,fun u v hn=>?_,fun p hz hk=>?_⟩
 ·rcases four r hr with h | h | h | h | h
  ·subst h;simp only;omega
  ·subst h;simp only;omega
  ·subst h;simp only;omega
  ·subst h;simp only;omega
  ·unfold Extra at h;omega
 ·rcases four r hr with h | h | h | h | h
  ·subst h;exact .inl (by simp only;omega)
  ·subst h;exact .inl (by simp only;omega)
  ·subst h;exact .inr (by simp only;omega)
  ·subst h;exact .inr (by simp only;omega)
  ·exact h.2
 ·rcases xjB u 0 with c | c | c
  ·refine⟨_,m1,?_⟩
   simp only
   have:=xjN (show 0<b1 by omega) (show 0 < -u by omega)
   grind
  ·rcases xjB v 0 with d | d | d
   ·refine⟨_,m3,?_⟩
    simp only
    have:=xjN (show 0<b3 by omega) (show 0 < -v by omega)
    grind
   ·omega
   ·refine⟨_,m4,?_⟩
    simp only
    have:=xjN (show 0<b4 by omega) d
    grind
  ·refine⟨_,m2,?_⟩
   simp only
   have:=xjN (show 0<b2 by omega) c
   grind
 ·have k1:=hk _ m1
  have k2:=hk _ m2
  have k3:=hk _ m3
  have k4:=hk _ m4
  simp only[Pol.val] at k1 k2 k3 k4
  have e1:=xhi (x:=-p.1) h1.1.1 h1.2.2 hz (by grind)
  have e2:=xhi (x:=p.1) h2.1.1 h2.2.2 hz (by grind)
  have e3:=xhi (x:=-p.2.1) h3.1.1 h3.2.2 hz (by grind)
  have e4:=xhi (x:=p.2.1) h4.1.1 h4.2.2 hz (by grind)
  omega
def kg (rows:List Pol.R3):Prop:=∃b1 c1 b2 c2 b3 c3 b4 c4,rows=[(-b1,0,c1),(b2,0,c2),(0,-b3,c3),(0,b4,c4)]∧xhB b1 c1 b2 c2 b3 c3 b4 c4
theorem kg.last (h:kg rows)(hx:∀r∈ex,Extra r):∃ini l,rows++ex=ini++[l]∧Extra (0-l.1,0-l.2.1,0-l.2.2):=by
 obtain⟨b1,c1,b2,c2,b3,c3,b4,c4,rfl,B⟩:=h
 rcases List.eq_nil_or_concat ex with rfl | ⟨ini,l,rfl⟩
 ·refine⟨[(-b1,0,c1),(b2,0,c2),(0,-b3,c3)],(0,b4,c4),by simp,?_⟩
  have:=B.h4
  unfold Extra
  simp only
  omega
 ·rw[List.concat_eq_append] at hx ⊢
  refine⟨_++ini,l,by rw[xjY],?_⟩
  have:=hx l (by simp)
  unfold Extra at *
  simp only
  omega
theorem kg.len (h:kg rows):rows.length=4:=by
 obtain⟨b1,c1,b2,c2,b3,c3,b4,c4,rfl,B⟩:=h
 rfl
theorem kg.lf (h:kg rows)(hx:∀r∈ex,Extra r)(hl:ex.length≤4):LF0 (rows++ex):=by
 obtain⟨b1,c1,b2,c2,b3,c3,b4,c4,rfl,B⟩:=h
 exact B.lf hx hl
def xaI:List (Int×Int):=[(-1,0),(1,0),(0,-1),(0,1)]
def dT (d:Int×Int):Tr:=.tup [.int d.1,.int d.2]
def lK (i:Nat)(rows:List Pol.R3):Prop:=rows.length=i∧∀(j:Nat) (r:Pol.R3) (d:Int×Int),rows[j]? = some r→xaI[j]? = some d→∃b c:Int,((1≤b∧b≤3)∧0≤c∧c≤5*b)∧r=(d.1*b,d.2*b,c)
theorem lK.step (h:lK i rows)(hd:xaI[i]? = some d)(hb:(1≤b∧b≤3)∧0≤c∧c≤5*b):lK (i+1) (rows++[(d.1*b,d.2*b,c)]):=by
 refine⟨by rw[xkm,h.1];rfl,fun j r d' hr hd'=>?_⟩
 by_cases hj:j<i
 ·rw[xkd (by rw[h.1];exact hj)] at hr
  exact h.2 j r d' hr hd'
 ·have hl:=(xkg.mp hr).1
  rw[xkm,h.1,xkv] at hl
  have:j=i:=by omega
  subst this
  rw[List.getElem?_append_right (by rw[h.1];exact xk7 _),h.1,Nat.sub_self] at hr
  rw[hd] at hd'
  cases hr;cases hd'
  exact⟨b,c,hb,rfl⟩
theorem lK.box (h:lK 4 rows):kg rows:=by
 obtain⟨hl,h⟩:=h
 rcases rows with _ | ⟨r1,_ | ⟨r2,_ | ⟨r3,_ | ⟨r4,_ | ⟨r5,rs⟩⟩⟩⟩⟩
 ·cases hl
 ·cases hl
 ·cases hl
 ·cases hl
 ·obtain⟨b1,c1,g1,e1⟩:=h 0 r1 (-1,0) rfl rfl
  obtain⟨b2,c2,g2,e2⟩:=h 1 r2 (1,0) rfl rfl
  obtain⟨b3,c3,g3,e3⟩:=h 2 r3 (0,-1) rfl rfl
  obtain⟨b4,c4,g4,e4⟩:=h 3 r4 (0,1) rfl rfl
  subst e1 e2 e3 e4
  refine⟨b1,c1,b2,c2,b3,c3,b4,c4,?_,g1,g2,g3,g4⟩
  simp only[List.cons.injEq,Prod.mk.injEq,and_true]
  omega
 ·cases hl
theorem pJ {i:Nat}{d:Int×Int}(h:xaI[i]? = some d):(-1≤d.1∧d.1≤1)∧(-1≤d.2∧d.2≤1):=by
 have:=xkM h
 simp only[xaI,xkE,xkT,xls] at this
 rcases this with rfl | rfl | rfl | rfl<;>decide
def Drawn (d:Int×Int)(y:Tr):Prop:=∃c:Int,(0≤c∧c<8)∧y=.tup [.int d.1,.int d.2,.int c]
theorem xdw {d1 d2 d3:Int×Int}{ys:List Tr}(h:Paired Drawn [d1,d2,d3] ys):∃c1 c2 c3:Int,((0≤c1∧c1≤7)∧(0≤c2∧c2≤7)∧(0≤c3∧c3≤7))∧ys=[(d1.1,d1.2,c1),(d2.1,d2.2,c2),(d3.1,d3.2,c3)].map trR:=by
 cases h with
 | cons h1 h =>
  cases h with
  | cons h2 h =>
   cases h with
   | cons h3 h =>
    cases h
    obtain⟨c1,g1,rfl⟩:=h1
    obtain⟨c2,g2,rfl⟩:=h2
    obtain⟨c3,g3,rfl⟩:=h3
    exact⟨c1,c2,c3,by omega,rfl⟩
theorem mM {α:Type}{dg:DG}{de:DE}{τi:TSt}{KK:List Tr→Prop}{f:α→Tr}{l:List α}(R:α→Tr→Prop)(h1:∀a∈l,∀N:Tr→Prop,(∀y,R a y→N y)→dg (f a) τi fun τ2=>de τ2 N)
  (h0:∀ys,Paired R l ys→KK ys):be dg lQ de τi KK (l.map f) []:=by
 refine jM (fun ys acc=>∃zs us,l=zs++us∧ys=us.map f∧Paired R zs acc) (fun acc ⟨zs,us,e,ey,e2⟩=>?_) (fun x ys acc N ⟨zs,us,e,ey,e2⟩ hN=>?_) _ [] ⟨[],l,rfl,rfl,.nil⟩
 ·cases us with
  | nil=>rw[xjZ] at e;subst e;exact h0 acc e2
  | cons u us=>cases ey
 ·cases us with
  | nil=>cases ey
  | cons u us =>
   injection ey with ex ey
   subst ex ey
   exact h1 u (by rw[e];simp) (fun y=>N (acc++[y])) fun y hy=>hN _ ⟨zs++[u],us,by rw[e];simp,rfl,bN e2 hy⟩
theorem xcX (h1:1≤k)(h7:k≤7):LF0 [(-1,0,0),(1,-2*k,0),(1,2*k,2*k)]:=by
 refine⟨by simp,by simp,fun r hr=>?_,fun r hr=>?_,fun u v hn=>?_,fun p hz hk=>?_⟩
 ·simp only[xkE,xkT,xls] at hr
  rcases hr with rfl | rfl | rfl<;>simp only<;>omega
 ·simp only[xkE,xkT,xls] at hr
  rcases hr with rfl | rfl | rfl<;>simp only<;>omega
 ·rcases xjA u 0 with c | c
  ·exact⟨_,xkG,by simp only;omega⟩
  ·rcases xjB v 0 with d | d | d
   ·refine⟨(1,-2*k,0),by simp,?_⟩
    simp only
    have:=xjN (show 0<k by omega) (show 0 < -v by omega)
    grind
   ·refine⟨(1,2*k,2*k),by simp,?_⟩
    simp only
    subst d
    omega
   ·refine⟨(1,2*k,2*k),by simp,?_⟩
    simp only
    have:=xjN (show 0<k by omega) d
    grind
 ·have k1:=hk (-1,0,0) (by simp)
  have k2:=hk (1,-2*k,0) (by simp)
  have k3:=hk (1,2*k,2*k) (by simp)
  simp only[Pol.val] at k1 k2 k3
  have e2:p.1≤2*(k*p.2.1):=by grind
  have e3:p.1+2*(k*p.2.1)≤2*(k*p.2.2):=by grind
  have kz:k*p.2.2≤7*p.2.2:=xjH h7 (by omega)
  have y0:0≤p.2.1:=Pol.zy (show 0<k by omega) (by omega)
  have y1:p.2.1≤p.2.2:=by
   have:k*p.2.1≤k*p.2.2:=by omega
   exact xjw this (by omega)
  omega
theorem xfK (h:0≤c∧c≤7):-100≤c∧c≤100:=by omega
theorem xfc (h1:0≤c1∧c1≤7)(h2:0≤c2∧c2≤7)(h3:0≤c3∧c3≤7):LF0 [(-2,1,c1),(1,-3,c2),(2,3,c3)]:=by
 refine⟨by simp,by simp,fun r hr=>?_,fun r hr=>?_,fun u v hn=>?_,fun p hz hk=>?_⟩
 ·simp only[xkE,xkT,xls] at hr
  rcases hr with rfl | rfl | rfl
  ·exact⟨by simp only;decide,xfK h1⟩
  ·exact⟨by simp only;decide,xfK h2⟩
  ·exact⟨by simp only;decide,xfK h3⟩
 ·simp only[xkE,xkT,xls] at hr
  rcases hr with rfl | rfl | rfl<;>exact .inl (by simp only;decide)
 ·rcases xjA 0 (-2*u+1*v) with c | c
  ·exact⟨(-2,1,c1),by simp,c⟩
  ·rcases xjA 0 (1*u+-3*v) with d | d
   ·exact⟨(1,-3,c2),by simp,d⟩
   ·exact⟨(2,3,c3),by simp,by simp only;omega⟩
 ·have k1:=hk (-2,1,c1) (by simp)
  have k2:=hk (1,-3,c2) (by simp)
  have k3:=hk (2,3,c3) (by simp)
  simp only[Pol.val] at k1 k2 k3
  have z1:c1*p.2.2≤7*p.2.2:=xjH h1.2 (by omega)
  have z2:c2*p.2.2≤7*p.2.2:=xjH h2.2 (by omega)
  have z3:c3*p.2.2≤7*p.2.2:=xjH h3.2 (by omega)
  omega
theorem xer (h1:0≤c1∧c1≤7)(h2:0≤c2∧c2≤7)(h3:0≤c3∧c3≤7):LF0 [(-3,-2,c1),(3,-1,c2),(1,4,c3)]:=by
 refine⟨by simp,by simp,fun r hr=>?_,fun r hr=>?_,fun u v hn=>?_,fun p hz hk=>?_⟩
 ·simp only[xkE,xkT,xls] at hr
  rcases hr with rfl | rfl | rfl
  ·exact⟨by simp only;decide,xfK h1⟩
  ·exact⟨by simp only;decide,xfK h2⟩
  ·exact⟨by simp only;decide,xfK h3⟩
 ·simp only[xkE,xkT,xls] at hr
  rcases hr with rfl | rfl | rfl<;>exact .inl (by simp only;decide)
 ·rcases xjA 0 (-3*u+-2*v) with c | c
  ·exact⟨(-3,-2,c1),by simp,c⟩
  ·rcases xjA 0 (3*u+-1*v) with d | d
   ·exact⟨(3,-1,c2),by simp,d⟩
   ·exact⟨(1,4,c3),by simp,by simp only;omega⟩
 ·have k1:=hk (-3,-2,c1) (by simp)
  have k2:=hk (3,-1,c2) (by simp)
  have k3:=hk (1,4,c3) (by simp)
  simp only[Pol.val] at k1 k2 k3
  have z1:c1*p.2.2≤7*p.2.2:=xjH h1.2 (by omega)
  have z2:c2*p.2.2≤7*p.2.2:=xjH h2.2 (by omega)
  have z3:c3*p.2.2≤7*p.2.2:=xjH h3.2 (by omega)
  omega
end L2
namespace L2
open PySem PySem.Spec PyProof.Rows
theorem gy:isField (.tup (rows.map trR))=xq rows:=by
 show(match rowsOf (rows.map trR) with | some rows=>xq rows | none=>false)=_
 rw[j7]
end L2
namespace L2
open PySem PySem.Spec PyProof.Rows
def DD (K:PySem.W.Frag)(x:Str)(st:Stmt):Prop:=∃f fd,PySem.W.nsIn K mainGlobals x=some (some (.ref f))∧Fun K x x st f fd
theorem dd {K:PySem.W.Frag}{x:Str}{st:Stmt}{f:Addr}{oc:Value}{od an:Option Addr}{sl:Array (Option Value)}{kV dc pm cd ct:Value}(a:PySem.W.nsIn K mainGlobals x=some (some (.ref f)))
  (l:K.lookup f=some ⟨oc,od,.func (PySem.W.fnOf x x (wO st) (yV st) (xf st) .none kV dc pm an cd ct),sl⟩) (c:PySem.W.codeIn K cd x=true) (k:PySem.W.keepIn K (.ref f)=true):DD K x st:=⟨f,_,a,xdN l c k⟩
theorem zJ {K:PySem.W.Frag}{x qual p1:Str}{st:Stmt}{f:Addr}{fd:FuncData}(F:Fun K x qual st f fd)(h:∀(kV doc pm:Value) (an:Option Addr) (cdv ct u1:Value),bindArgs (PySem.W.fnOf x qual (wO st) (yV st) (xf st) .none kV doc pm an cdv ct) ⟨[u1],[]⟩=pure [(p1,u1)]):Binds K fd [p1] [] :=
 F.binds fun a b c d e g us hl=>match us,hl with | [u1],_=>h a b c d e g u1
theorem yF {K:PySem.W.Frag}{x qual p1 p2:Str}{st:Stmt}{f:Addr}{fd:FuncData}(F:Fun K x qual st f fd)(h:∀(kV doc pm:Value) (an:Option Addr) (cdv ct u1 u2:Value),bindArgs (PySem.W.fnOf x qual (wO st) (yV st) (xf st) .none kV doc pm an cdv ct) ⟨[u1,u2],[]⟩=pure [(p1,u1),(p2,u2)]):Binds K fd [p1,p2] [] :=
 F.binds fun a b c d e g us hl=>match us,hl with | [u1,u2],_=>h a b c d e g u1 u2
theorem jR {K:PySem.W.Frag}{x qual p1 p2 p3:Str}{st:Stmt}{f:Addr}{fd:FuncData}(F:Fun K x qual st f fd)(h:∀(kV doc pm:Value) (an:Option Addr) (cdv ct u1 u2 u3:Value),bindArgs (PySem.W.fnOf x qual (wO st) (yV st) (xf st) .none kV doc pm an cdv ct) ⟨[u1,u2,u3],[]⟩=pure [(p1,u1),(p2,u2),(p3,u3)]):Binds K fd [p1,p2,p3] [] :=
 F.binds fun a b c d e g us hl=>match us,hl with | [u1,u2,u3],_=>h a b c d e g u1 u2 u3
theorem xgw {K:PySem.W.Frag}{x qual p1 p2 p3 p4:Str}{st:Stmt}{f:Addr}{fd:FuncData}(F:Fun K x qual st f fd)(h:∀(kV doc pm:Value) (an:Option Addr) (cdv ct u1 u2 u3 u4:Value),bindArgs (PySem.W.fnOf x qual (wO st) (yV st) (xf st) .none kV doc pm an cdv ct) ⟨[u1,u2,u3,u4],[]⟩=pure [(p1,u1),(p2,u2),(p3,u3),(p4,u4)]):Binds K fd [p1,p2,p3,p4] [] :=
 F.binds fun a b c d e g us hl=>match us,hl with | [u1,u2,u3,u4],_=>h a b c d e g u1 u2 u3 u4
def xbb (w:Int)(f:F2):F2:=Fra.low (w*f.1) f.2
def xg_:TSp:=fun ts KK=>∃f g:F2,ts=[fT f,fT g]∧Fk 900 f∧Fk 900 g∧KK (fT (rY f g))
def xdv:TSp:=fun ts KK=>∃(w:Int) (f:F2),ts=[.int w,fT f]∧Bk 900 w∧Fk 900 f∧KK (fT (xbb w f))
def xdW:TSp:=fun ts KK=>∃(a b:Int) (x:List Tr) (p:P2),ts=[.tup (.int a::.int b::x),pT p]∧Bk 200 a∧Bk 200 b∧Pk 600 p∧KK (fT (qo (a,b,0) p))
def fK (r:Pol.R3)(p:P2):Bool:=decide ((qo r p).1=r.2.2*(qo r p).2)
def pR:TSp:=fun ts KK=>∃(r:Pol.R3) (p:P2),ts=[trR r,pT p]∧B3k 200 r∧Pk 600 p∧KK (.bl (fK r p))
def af:TSp:=fun ts KK=>∃t,ts=[t]∧isField t=true∧KK .non
def tN:TSp:=fun ts KK=>∃rows:List Pol.R3,ts=[.tup (rows.map trR)]∧xq rows=true∧wG rows∧KK (.lst ((wd rows).map yW))
def tV (rows:List Pol.R3)(p:P2):List Nat:=(List.range rows.length).filter fun i=>fK (rows.getD i (0,0,0)) p
def n6 (n:Nat):Tr:=.int n
def sR:TSp:=fun ts KK=>∃(rows:List Pol.R3) (p:P2),ts=[.tup (rows.map trR),pT p]∧rows.length≤1000∧(∀r∈rows,B3k 200 r)∧Pk 600 p∧KK (.tup ((tV rows p).map n6))
def brk (v:Pol.R3):Bool := !decide ((plc v).1.2=1) || !decide ((plc v).2.2=1)
theorem sY (h:xq rows=true):(3≤rows.length∧rows.length≤8)∧(∀r∈rows,(r.1≠0∨r.2.1≠0)∧Pol.bf r)∧Pol.uk rows=true∧∀v∈Pol.pieces rows,rR v=true:=by
 unfold xq at h
 simp only[xjh,xlo,xjV] at h
 exact⟨h.1.1.1,h.1.1.2,h.1.2,h.2⟩
theorem c_ (h:xq rows=true):isField (.tup (rows.map trR))=true:=by rw[gy];exact h
theorem LF.isf (h:LF rows):xq rows=true:=by rw[←gy];exact h.field
theorem pS (h:0<b):frT (mY t b) (ay t b)=fT (lfr t b):=by rw[vm h];rfl
theorem Fk.timW (hw:Bk k w)(h:Fk m f):Fk (k+m) (xbb w f):=nW h.pos (hw.mul h.top) (h.bot.mono (by omega))
theorem xda (hx:0<p.1.2)(hy:0<p.2.2):rY (xbb a p.1) (xbb b p.2)=qo (a,b,0) p:=by
 unfold rY xbb qo
 rw[vm (Pol.pp (Fra.wW hx) (Fra.wW hy)),vm (Pol.pp hx hy)]
 exact Fra.xeU hx hy
theorem xeA (hr:B3k 200 r)(hp:Pk 600 p):Fk 1500 (qo r p):=by
 unfold qo
 exact gA (k:=1500) (by have:=Pol.pp hp.1.pos hp.2.pos;omega) (((hr.1.1.mul hp.1.top |>.mul hp.2.bot).add (hr.1.2.mul hp.2.top |>.mul hp.1.bot)).mono (by decide)) ((hp.1.bot.mul hp.2.bot).mono (by decide))
theorem xbs {α:Type}(f:α→Tr)(l:List α)(d:α):qJ (l.map f)=(List.range l.length).map fun i=>.tup [.int (i:Nat),f (l.getD i d)]:=by
 apply List.ext_getElem?
 intro i
 by_cases h:i<l.length
 ·have e1:i<(qJ (l.map f)).length:=by rw[jP];exact h
  obtain⟨v,hv,e⟩:=rh (xke e1)
  rw[xke e1,e,xkh,List.getElem?_range h]
  simp[xkc,hv]
 ·rw[xkf (by rw[jP];omega),xkf (by simp;omega)]
theorem getD_mem {α:Type}{l:List α}{i:Nat}(d:α)(h:i<l.length):l.getD i d∈l:=by
 rw[xkc,xke h];exact xkl h
theorem xdp (h:wG rows):(wd rows).length≤900:=h.ring.len
end L2
namespace L2
open PySem PySem.Spec PyProof.Rows
def xh6:Option F2→Tr
 | some f=>fT f
 | none=>.non
def ka (a b:Int)(best:Option F2)(p:P2):Option F2:=match best with
 | none=>some (qo (a,b,0) p)
 | some f=>if uF f (qo (a,b,0) p)=true then some (qo (a,b,0) p) else some f
def jT (a b:Int)(ps:List P2):Option F2:=ps.foldl (ka a b) none
def xav:TSp:=fun ts KK=>∃(a b:Int) (x:List Tr) (p:P2),ts=[.tup (.int a::.int b::x),pT p]∧Bk 200 a∧Bk 200 b∧Fk 600 p.1∧Fk 600 p.2∧KK (fT (qo (a,b,0) p))
def sL:TSp:=fun ts KK=>∃(ps:List P2) (a b:Int),ts=[.lst (ps.map pT),.int a,.int b]∧Bk 100 a∧Bk 100 b∧(∀p∈ps,Pk 100 p)∧KK (xh6 (jT a b ps))
theorem cN (a b:Int){ps:List P2}{i:Nat}{p:P2}(h:ps[i]? = some p):jT a b (ps.take (i+1))=ka a b (jT a b (ps.take i)) p:=Pol.vJ (ka a b) none h
theorem xdQ (d:uF f (qo (a,b,0) p)=true):ka a b (some f) p=some (qo (a,b,0) p):=by
 show(if uF f (qo (a,b,0) p)=true then some (qo (a,b,0) p) else some f)=_
 rw[if_pos d]
theorem xgk (d:uF f (qo (a,b,0) p)=false):ka a b (some f) p=some f:=by
 show(if uF f (qo (a,b,0) p)=true then some (qo (a,b,0) p) else some f)=_
 rw[if_neg (by rw[d];exact xji)]
theorem xdE (h:-1000000≤n∧n≤1000000):Bk 100 n:=by
 have:Bk 20 n:=by unfold Bk;omega
 exact this.mono (by decide)
theorem wG.pk2 {rows:List Pol.R3}(h:wG rows){v:Pol.R3}(hv:v∈wd rows):Pk 100 (plc v):=by
 have:=h.corner hv
 have:=xbg this.1.1 this.2
 exact⟨this.1.mono (by decide),this.2.mono (by decide)⟩
theorem wG.pk {rows:List Pol.R3}(h:wG rows){v:Pol.R3}(hv:v∈wd rows):Pk 600 (plc v):=⟨(h.pk2 hv).1.mono (by decide),(h.pk2 hv).2.mono (by decide)⟩
theorem wG.pkm {rows:List Pol.R3}(h:wG rows){p:P2}(hp:p∈(wd rows).map plc):Pk 100 p:=by
 obtain⟨v,hv,rfl⟩:=xkK.mp hp
 exact h.pk2 hv
theorem pY (ha:Bk 100 a)(hb:Bk 100 b)(hp:Pk 100 p):Fk 1000 (qo (a,b,c) p):=by
 unfold qo
 exact gA (k:=1000) (by have:=Pol.pp hp.1.pos hp.2.pos;omega) (((ha.mul hp.1.top |>.mul hp.2.bot).add (hb.mul hp.2.top |>.mul hp.1.bot)).mono (by decide)) ((hp.1.bot.mul hp.2.bot).mono (by decide))
theorem dP (h:ka a b best p=some f):best=some f∨f=qo (a,b,0) p:=by
 unfold ka at h
 cases best with
 | none=>exact .inr (xlj h).symm
 | some g =>
  simp only at h
  split at h
  ·exact .inr (xlj h).symm
  ·exact .inl h
theorem j1 (ps:List P2):∀best,ps.foldl (ka a b) best=some f→best=some f∨∃p∈ps,f=qo (a,b,0) p:=by
 induction ps with
 | nil=>exact fun best h=>.inl h
 | cons p ps ih =>
  intro best h
  rcases ih _ h with q | ⟨p',hp,e⟩
  ·rcases dP q with q | q
   ·exact .inl q
   ·exact .inr ⟨p,xkG,q⟩
  ·exact .inr ⟨p',xkF _ hp,e⟩
theorem nu (ha:Bk 100 a)(hb:Bk 100 b)(hp:∀p∈ps,Pk 100 p):∀f,jT a b ps=some f→Fk 1000 f:=fun f h=>by
 rcases j1 ps none h with q | ⟨p,hm,rfl⟩
 ·cases q
 ·exact pY ha hb (hp p hm)
theorem og (h:0<p.1.2∧0<p.2.2):0<(qo (a,b,c) p).2:=xaO (by have:=Pol.pp h.1 h.2;show p.1.2*p.2.2≠0;omega)
theorem wG.pos {rows:List Pol.R3}(h:wG rows):∀p∈(wd rows).map plc,0<p.1.2∧0<p.2.2:=fun p hp=>⟨(h.pkm hp).1.pos,(h.pkm hp).2.pos⟩
end L2
namespace L2
open PySem PySem.Spec PyProof.Rows
theorem uJ.get (x:uJ P w H h a o):∃ob,h.get? a=some ob:=by
 cases o with
 | lst xs=>obtain⟨_,_,_,_,e⟩:=x;exact⟨_,e⟩
 | tup xs=>obtain⟨_,_,_,_,e,_⟩:=x;exact⟨_,e⟩
 | dK kvs=>obtain⟨_,_,_,_,o,_,_,e,_⟩:=x;exact⟨_,e⟩
 | dT kvs=>obtain⟨_,_,_,_,o,_,_,e,_⟩:=x;exact⟨_,e⟩
 | set S n=>obtain⟨o,_,_,_,e,_⟩:=x;exact⟨_,e⟩
 | ins C dx fs=>obtain⟨_,_,_,e,_⟩:=x;exact⟨_,e⟩
 | own y=>exact x
 | xd fs=>obtain⟨_,⟨_,_,_,e,_⟩,_⟩:=x;exact⟨_,e⟩
 | rng lo hi=>obtain⟨_,_,_,e⟩:=x;exact⟨_,e⟩
 | frz ob u=>obtain⟨e,_⟩:=x;exact⟨_,e⟩
 | tbl ps=>exact⟨_,x⟩
 | tb q=>obtain⟨_,e,_⟩:=x;exact⟨_,e⟩
 | met f y=>exact⟨_,x⟩
 | ext φ=>obtain⟨_,e,_⟩:=x;exact e
structure Fl (P:Program)(w:World)(outer:List Env)(H:Hp)(s:Shared)(ea C:Addr)(H':Hp)(s':Shared):Prop where
 os:s'.os=s.os
 bare:AllBare s'.gens
 un:Un (frs outer) [] H H' s.heap s'.heap
 hok:HOk P w H' s'.heap
 fly:∃(B:Heap) (t:Addr),Heap.FlyingW B outer ea (.ref C) (.ref t) s'.heap∧(∀b o,s.heap.get? b=some o→H b=none→b∉frs outer→B.get? b=some o) ∧
  (∀b o,s.heap.get? b=some o→b∉frs outer→∃o',B.get? b=some o')∧∀b u,H' b=some u→∃o,B.get? b=some o
def CXE (P:Program)(w:World):CXT:=fun outer H s E e s'=>∃ea C H',e=.ref ea∧Fl P w outer H s ea C H' s'∧E (.ref C) none H'
section
variable {P:Program} {w:World} {K:PySem.W.Frag} {mg:Str→Option Value} {base:Heap} {N:List Str} {qual:Str} {scope:Scope} {f:Addr} {cd:Value} {A:Around} {outer:List Env} {s:Shared} {H H':Hp} {E:XK}
theorem HOk.of_fly {h h' B:Heap}(x:HOk P w H' h)(k:B.StaysIn h)(k':B.StaysIn h')(tr:∀b u,H' b=some u→∃o,B.get? b=some o):HOk P w H' h':=fun a o e=>by
 refine(x a o e).stay (fun b u hb q=>?_) (fun _ q=>q) (fun _ _ q=>q) fun _ _ _ q=>q
 have:∃u,H' b=some u:=by
  rcases hb with rfl | hb
  ·exact⟨_,e⟩
  ·exact⟨_,hb⟩
 obtain⟨v,hv⟩:=this
 obtain⟨o',ho⟩:=tr b v hv
 have:=k b o' ho
 rw[q] at this;cases this
 exact k' b _ ho
theorem Inv.old (I:Inv X pins σ H1 s1)(e:X.s₀.heap.get? b=some o):b≠X.env.locals:=xlg (xlb (Heap.lt_size e) I.ok.above)
theorem pU (hf:env.frame=some L)(l:List Env):frs (env::l)=L::frs l:=by unfold frs;rw[xj4,hf]
theorem xgX {X:Cx}(hst:X.stack=X.env::X.outer)(hfr:X.env.frame=some X.env.locals)(hex:X.ex=[])
  (hxe:∀e s',wpAny (model X.prog X.w) X.A (leaving X.env e) (fun _ s''=>CXE X.prog X.w X.outer X.H₀ X.s₀ E e s'') (fun e' s''=>CXE X.prog X.w X.outer X.H₀ X.s₀ E e' s'') s'→X.xe e s'):aC (CXE X.prog X.w) X E:=by
 intro pins σ H1 s1 e s' I h
 obtain⟨ea,C,H2,rfl,⟨os,bare,un,hok,B,t,fl,kB,tB,trB⟩,q⟩:=h
 have hx:∀b,b∉X.ex:=fun b z=>by rw[hex] at z;exact absurd z (by simp)
 have ne:∀b o,X.s₀.heap.get? b=some o→b∉frs X.outer→b∉frs X.stack:=fun b o e nb z=>by
  rcases xkE.mp (I.stkSub b z) with z | z
  ·exact I.old e z
  ·exact nb z
 have inS:∀b,b∈frs X.outer→b∈frs X.stack:=fun b hb=>by rw[hst,pU hfr];exact xkF _ hb
 have fr:X.A.frames=some (X.env::X.outer):=by rw[←hst];exact I.ok.frames
 have fl0:=fl
 rw[hst] at fl
 refine hxe _ _ (wpAny_leaves_onW (L:=X.env.locals) fr hfr fl fun h' fl' up=>⟨ea,C,H2,rfl,⟨os.trans I.os,bare,?_,hok.of_fly fl.1 fl'.1 trB,B,t,fl',fun b o e n nb=>?_,fun b o e nb=>?_,trB⟩,q⟩)
 ·refine⟨fun b o e n nb _=>?_,fun b o e n hb _=>?_,fun b o e n _=>?_,fun b o e _=>?_,fun b xs e=>un.tups b xs (I.base.tups b xs e),fun b o u e=>un.frzs b o u (I.base.frzs b o u e),fun b ps e=>?_⟩
  ·exact fl'.1 b o (kB b o (I.base.keep b o e n nb (hx b)) (I.base.free b o e n (hx b)) (ne b o e nb))
  ·obtain⟨sl,e1⟩:=I.base.slot b o e n hb (hx b)
   obtain⟨sl2,e2⟩:=un.slot b _ e1 (I.base.free b o e n (hx b)) (inS b hb) (by simp)
   obtain⟨_,o',ho',hnf⟩:=I.ok.funs.mem hb
   rw[e] at ho';cases ho'
   obtain⟨sl3,e3⟩:=up b _ e2 hnf
   exact⟨sl3,e3⟩
  ·obtain⟨o',e1⟩:=I.base.there b o e (hx b)
   exact un.free b o' e1 (I.base.free b o e n (hx b)) (by simp)
  ·by_cases nb:b∈frs X.outer
   ·have n:X.H₀ b=none:=I.ok.frf b nb
    obtain⟨_,o3,ho3,hnf⟩:=I.ok.funs.mem nb
    rw[e] at ho3;cases ho3
    obtain⟨sl,e1'⟩:=I.base.slot b o e n nb (hx b)
    obtain⟨sl2,e2'⟩:=un.slot b _ e1' (I.base.free b o e n (hx b)) (inS b nb) (by simp)
    obtain⟨sl3,e3⟩:=up b _ e2' hnf
    exact⟨_,e3⟩
   ·obtain⟨o',e1⟩:=I.base.there b o e (hx b)
    obtain⟨o2,e2⟩:=tB b o' e1 (ne b o e nb)
    exact⟨o2,fl'.1 b o2 e2⟩
  ·obtain⟨m1,e1⟩:=I.base.tbls b ps e
   obtain⟨m2,e2⟩:=un.tbls b _ e1
   exact⟨m1++m2,by rw[e2,Array.append_assoc]⟩
 ·exact kB b o (I.base.keep b o e n nb (hx b)) (I.base.free b o e n (hx b)) (ne b o e nb)
 ·obtain⟨o',e1⟩:=I.base.there b o e (hx b)
  exact tB b o' e1 (ne b o e nb)
theorem xgd {pins:List (Addr×Obj)}{σ:St}{H1:Hp}{s1:Shared}{h1:Heap}{ea C:Addr}{vs:List Value}(I:Inv (fN (CXE P w) P w K mg base N qual scope f cd A outer s H E) pins σ H1 s1)(hm:Heap.MadeExcOf s1.heap h1 ea (.ref C) vs)(q:E (.ref C) none H1) :
  (fN (CXE P w) P w K mg base N qual scope f cd A outer s H E).xe (.ref ea) { s1 with heap:=h1 }:=by
 have hx:∀b,b∉(fN (CXE P w) P w K mg base N qual scope f cd A outer s H E).ex:=fun b z=>absurd (show b∈([]:List Addr) from z) (by simp)
 let fs:=frs (fN (CXE P w) P w K mg base N qual scope f cd A outer s H E).stack
 have ne:∀b o,s.heap.get? b=some o→b∉frs outer→b∉fs:=fun b o e nb z=>by
  rcases xkE.mp (I.stkSub b z) with z | z
  ·exact I.old e z
  ·exact nb z
 have hB:(PySem.W.hideAll s1.heap fs).StaysIn s1.heap:=fun b o e=>PySem.W.of_hideAll _ e
 have inB:∀b o,s1.heap.get? b=some o→b∉fs→(PySem.W.hideAll s1.heap fs).get? b=some o:=fun b o e n=>PySem.W.hideAll_get _ e n
 show wpAny (model P w) _ (leaving _ (.ref ea)) _ _ _
 refine wpAny_leaves_madeW (base:=PySem.W.hideAll s1.heap fs) (h:=s1.heap) (L:=s.heap.objs.size) I.ok.frames rfl hB (PySem.W.funFrames_hide I.stack fun env he b hb=>xkI.mpr ⟨env,he,hb⟩) hm
  fun h' t fl _ _ up=>⟨ea,C,H1,rfl,⟨I.os,I.bare,?_,?_,_,t,fl,fun b o e n nb=>?_,fun b o e nb=>?_,fun b u e=>?_⟩,q⟩
 ·refine⟨fun b o e n nb _=>?_,fun b o e n hb _=>?_,fun b o e n _=>?_,fun b o e _=>?_,I.base.tups,I.base.frzs,I.base.tbls⟩
  ·exact fl.1 b o (inB b o (I.base.keep b o e n nb (hx b)) (ne b o e nb))
  ·obtain⟨sl,e1⟩:=I.base.slot b o e n hb (hx b)
   obtain⟨_,o',ho',hnf⟩:=I.ok.funs.mem hb
   have ho':s.heap.get? b=some o':=ho'
   rw[e] at ho';cases ho'
   obtain⟨sl3,e3⟩:=up b _ (hm.keeps b _ e1) hnf
   exact⟨sl3,e3⟩
  ·exact I.base.free b o e n (hx b)
  ·by_cases nb:b∈frs outer
   ·have n:H b=none:=I.ok.frf b nb
    obtain⟨sl,e1⟩:=I.base.slot b o e n nb (hx b)
    obtain⟨_,o',ho',hnf⟩:=I.ok.funs.mem nb
    have ho':s.heap.get? b=some o':=ho'
    rw[e] at ho';cases ho'
    obtain⟨sl3,e3⟩:=up b _ (hm.keeps b _ e1) hnf
    exact⟨_,e3⟩
   ·obtain⟨o',e1⟩:=I.base.there b o e (hx b)
    exact⟨o',fl.1 b o' (inB b o' e1 (ne b o e nb))⟩
 ·refine I.hok.of_fly hB fl.1 fun b u e=>?_
  obtain⟨o,ho⟩:=(I.hok b u e).get
  exact⟨o,inB b o ho fun z=>by rw[I.stkFree b z] at e;cases e⟩
 ·exact inB b o (I.base.keep b o e n nb (hx b)) (ne b o e nb)
 ·obtain⟨o',e1⟩:=I.base.there b o e (hx b)
  exact⟨o',inB b o' e1 (ne b o e nb)⟩
 ·obtain⟨o,ho⟩:=(I.hok b u e).get
  exact⟨o,inB b o ho fun z=>by rw[I.stkFree b z] at e;cases e⟩
def xd1 (E:XK)(C:Addr)(t:TA):TS:=fun _ σ H=>t σ H fun vs H1=>vs.length≤sizeLine∧E (.ref C) none H1
theorem xcy {x:Str}{C:Addr}{e₀:Expr}{rest:List Expr}{np cpos pos:Pos}{t:TA}{bm:List Value}(O:OwnCls x C bm "ValueError.__new__" mg base)(FB:ExcBaseFacts "ValueError" "ValueError.__new__" "ValueError.__init__" bm)
  (ha:PA (fN (CXE P w) P w K mg base N qual scope f cd A outer s H E) (e₀::rest) t)
  (hg:Gl (fN (CXE P w) P w K mg base N qual scope f cd A outer s H E) x:=by rfl) (hdb:(x == ("__debug__" : Str))=false:=by decide)
  (he:starEach (e₀::rest) (fN (CXE P w) P w K mg base N qual scope f cd A outer s H E).env=(false,eval e₀ (fN (CXE P w) P w K mg base N qual scope f cd A outer s H E).env)::starEach rest (fN (CXE P w) P w K mg base N qual scope f cd A outer s H E).env:=by rfl)
  (hpl:(backTo cpos (starEach rest (fN (CXE P w) P w K mg base N qual scope f cd A outer s H E).env)).any (·.1)=false:=by rfl) :
  PS (fN (CXE P w) P w K mg base N qual scope f cd A outer s H E) (.Raise (some (.Call (.Name x np) (e₀::rest) [] cpos)) none pos) (xd1 E C t):=by
 intro pins s1 σ H1 D I h
 obtain⟨tl,N',nm,q,bs,hdct,sn,sub,ab,col,dd,k0,k1,k2,k3,k5,mN,hC,hN,hni,T⟩:=O.obj
 refine wpAny_Raise_call_subT (C:=C) (nm:=nm) (q:=q) (N:=N') (bs:=bs) (bm:=tl) (hdct:=hdct) (sn:=sn) (sub:=sub) (ab:=ab) (col:=col) (dd:=dd) (k0:=k0) (k1:=k1) (k2:=k2) (k3:=k3) (k5:=k5)
  FB (mN:=mN) (T.hasType FB.hasBase) (I.ok.hd rfl) (by rw[he];show(false || (backTo cpos (starEach rest _)).any (·.1))=false;rw[hpl];rfl) hni (fv I hg O.bound ⟨rfl,?_⟩ hdb)
 have h2:=@ha cpos pins s1 σ H1 _ I h
 rw[he] at h2 ⊢
 refine Calls.evalArgs_plain (wpAny_mono h2 (fun us s2 ⟨vs,H2,I2,r,z,q⟩=>⟨rfl,by rw[←r.length];exact z,I2.bk _ _ hC,hN.keeps I2.bk,T.keeps I2.bk,fun h' e hm=>xgd I2 hm q⟩) fun _ _ y=>y)
structure xd0 (P:Program)(w:World)(K:PySem.W.Frag)(mg:Str→Option Value)(base:Heap)(k:Nat)(x:Str)(ps:List Str)(sp:Sp):Prop where
 ex:∃(f:Addr) (fd:FuncData),aD P w K mg base (CXE P w) k f fd ps sp∧Binds K fd ps []∧PySem.W.keepIn K (.ref f)=true∧mg x=some (.ref f)
theorem xd0.mono (h:xd0 P w K mg base j x ps sp)(hjk:j≤k):xd0 P w K mg base k x ps sp:=by
 obtain⟨f,fd,F,b,kp,m⟩:=h.ex
 exact⟨f,fd,F.mono hjk,b,kp,m⟩
end
def xew (sp:Sp)(E:XK)(t:TA):TE:=fun σ H Q=>t σ H fun vs H1=>sp vs H1 Q E
theorem xfo (h:xd0 X.prog X.w X.K X.mg X.base j x ps sp)(hr:k7 k X.A)(hx:aC (CXE X.prog X.w) X E)(ha:PA X (e::es) t)(hjk:j≤k:=by decide)(hg:Gl X x:=by rfl)
  (hdb:(x == ("__debug__" : Str))=false:=by decide) (he:starEach (e::es) X.env=(false,eval e X.env)::starEach es X.env:=by rfl) (hpl:(backTo pos (starEach es X.env)).any (·.1)=false:=by rfl) :
  PE X (.Call (.Name x p) (e::es) [] pos) (xew sp E t):=by
 obtain⟨f,fd,F,b,kp,m⟩:=(h.mono hjk).ex
 intro pins s σ H Q I q
 refine xbY (E:=E) F hr hg m kp b .nil hx ha hdb he hpl s σ H Q I ?_
 have e:(fun(vs:List V) (H1:Hp)=>sp (vs++[]) H1 Q E)=fun vs H1=>sp vs H1 Q E:=by
  funext vs H1;rw[xjZ]
 show t σ H fun vs H1=>sp (vs++[]) H1 Q E
 rw[e];exact q
theorem j6:PSs X b ot:=fun _ _ _ _ _ _ h=>h.elim
theorem xe2 {P:Program}{w:World}{K:PySem.W.Frag}{mg:Str→Option Value}{base:Heap}{k:Nat}{x qual:Str}{st:Stmt}{f:Addr}{fd:FuncData}{N ps:List Str}{sp:Sp}(F:Fun K x qual st f fd)(S:xw N ps (xf st))(mgx:mg x=some (.ref f))(b:Binds K fd ps [])
  (len:∀vs H Q E,sp vs H Q E→vs.length=ps.length)
  (body:∀(cdv:Value) (A:Around) (outer:List Env) (s:Shared) (H:Hp) (vs:List V) (Q:VK) (E:XK),k7 k (A.deeper (envOfC qual (xf st) s.heap.objs.size f cdv))→sp vs H Q E →
   ∃t,PSs (fN (CXE P w) P w K mg base N qual (xf st) f cdv A outer s H E) (yV st) t∧t { nx:=fun _ H'=>Q .non H',rt:=Q } (start N vs) H):xd0 P w K mg base (k+1) x ps sp:=by
 have kp:=F.kp
 obtain⟨oc,od,kV,doc,pm,an,cdv,ct,osl,rfl,lk,hcd⟩:=F.ex
 exact⟨f,_,xfp lk hcd S len fun A outer s H vs Q E hr hsp=>body cdv A outer s H vs Q E hr hsp,b,kp,mgx⟩
end L2
namespace L2
open PySem PySem.Spec PySem.Calls PyProof.Rows
structure lM (K:PySem.W.Frag)(C:Addr):Prop where
 ga:PySem.W.findIn K (.ref C) "__getattribute__" = some (some (.builtin "BaseException.__getattribute__"))
 gt:PySem.W.findIn K (.ref C) "__getattr__" = some none
 cl:PySem.W.findIn K (.ref C) "__class__" = some (some (.builtin "object.__class__"))
 sp:PySem.W.specialIn K (.builtin "object.__class__") "__get__" = some (some (.builtin "getset_descriptor.__get__"))
 tk:PySem.W.takesIn K (.builtin "object.__class__")=some true
 mo:PySem.W.mroIn K C (.type "object")=some true
 mb:PySem.W.mroIn K C (.type "BaseException")=some true
 hd:PySem.W.hasDictIn K C=true
def xde (a C:Addr)(h:Heap):Prop:=∃o,h.get? a=some o∧o.cls=.ref C
section
variable {prog:Program} {w:World} {A:Around} {E:Value→Shared→Prop} {s:Shared} {K:PySem.W.Frag} {ea C:Addr}
theorem xde.ty (I:xde ea C h):PySem.W.Looks M h (typeOf (.ref ea)) (.ref C):=by
 obtain⟨o,h1,h2⟩:=I
 rw[←h2]
 exact(PySem.W.Looks.ld h1).andThen .now
theorem xe8 (Z:lM K C)(X:K.In h):PySem.W.Looks M h (Builtin.ObjectAttr.find (.ref ea) (.ref C) "__class__") (.bind (.builtin "getset_descriptor.__get__") (.builtin "object.__class__")):=by
 have l1:=PySem.W.looks_findIn (M:=M) X Z.cl
 have l2:PySem.W.Looks M h (Builtin.ObjectAttr.getOf (some (.builtin "object.__class__"))) (some (.builtin "getset_descriptor.__get__")):=PySem.W.looks_specialIn X Z.sp
 have l3:=PySem.W.looks_takesIn (M:=M) X Z.tk
 have l4:PySem.W.Looks M h (Builtin.ObjectAttr.dataDescriptor? (some (.builtin "object.__class__")) (some (.builtin "getset_descriptor.__get__"))) (some (.builtin "getset_descriptor.__get__", .builtin "object.__class__")):=l3.andThen .now
 exact l1.andThen (l2.andThen (l4.andThen (PySem.W.Looks.tag .now)))
theorem xgj (Z:lM K C)(X:K.In s.heap)(I:xde ea C s.heap)(hq:R (.ok (.ret (.ref C))) s) :
  codeAny (model prog w) A (.call (.builtin "getset_descriptor.__get__") ⟨[.builtin "object.__class__", .ref ea,tp],[]⟩) R s:=by
 have l0:=I.ty (M:=model prog w)
 have l1:=PySem.W.looks_mroIn (M:=model prog w) X Z.mo
 obtain⟨hh,gg,dd,tt,oo⟩:=s
 refine codeAny_call_builtin PySem.W.KF.slot_gs.plain PySem.W.KF.entry_gs ?_
 refine PySem.W.KF.slot_gs.check _ _ _ _ _ _ _ _ PySem.W.KF.type_class (PySem.W.KF.args_gs _ _ _) ?_
 unfold Builtin.«getset_descriptor.__get__» Builtin.Getset_descriptor.descrGet
 rw[PySem.W.dga_obj]
 refine wpAny_bind (wpAny_pure ?_)
 unfold Builtin.Getset_descriptor.descrGetter Builtin.Getset_descriptor.descrCheckInstance Builtin.Getset_descriptor.descrNameAndClass isInstance
 simp only[PySem.W.KF.owner_class]
 repeat lk
 refine⟨Code.quiet_builtin _ (by decide +kernel),?_⟩
 refine codeAny_builtin PySem.W.KF.entry_class ?_
 unfold Builtin.«object.__class__» shownTypeOf
 repeat lk
 exact hq
theorem xdl {tk:Tok}{Q:Fin→Shared→Prop}(Z:lM K C)(X:K.In s.heap)(I:xde ea C s.heap)(hq:Q (.done (.ret (.ref C))) s) :
  wpAny (model prog w) A (Builtin.«object.__getattribute__» ⟨[.ref ea,.str "__class__" tk],[]⟩) Q E s:=by
 obtain⟨h,g,d,t,os⟩:=s
 have L0:=I.ty (M:=model prog w)
 have L1:=xe8 (M:=model prog w) (ea:=ea) Z X
 unfold Builtin.«object.__getattribute__»
 refine wpAny_bind (wpAny_pure ?_)
 refine wpAny_bind (wpAny_pure ?_)
 refine wpAny_bind (L0.at ?_)
 refine wpAny_bind (L1.at ?_)
 show wpAny _ _ (holding [Value.builtin "object.__class__"] (call (.builtin "getset_descriptor.__get__") [.builtin "object.__class__", .ref ea,.ref C]) >>= ret) _ _ _
 refine wpAny_bind (wpAny_holding (wpAny_call (xgj Z X I ?_)))
 exact wpAny_pure hq
theorem xc_ (Z:lM K C)(X:K.In s.heap)(I:xde ea C s.heap)(hq:Q () s):wpAny (model prog w) A (checkBuiltinCall "BaseException.__getattribute__" ⟨[.ref ea,nameV],[]⟩) Q E s:=by
 have b1:builtinKind "BaseException.__getattribute__" = some .slot:=by decide +kernel
 have b2:splitId "BaseException.__getattribute__" = some ("BaseException", "__getattribute__"):=by decide +kernel
 have b3:=F.args_bexc_ga (.ref ea) nameV
 have L0:=I.ty (M:=model prog w)
 have L1:PySem.W.Looks (model prog w) s.heap (isInstance (.ref ea) (.type "BaseException")) true:=L0.andThen (PySem.W.looks_mroIn (M:=model prog w) X Z.mb)
 obtain⟨h,g,d,t,os⟩:=s
 simp only[checkBuiltinCall,b1,b2]
 refine wpAny_bind (L1.at ?_)
 repeat (first | exact hq | wp_step)
theorem xex {tk:Tok}{R:Result→Shared→Prop}(Z:lM K C)(X:K.In s.heap)(I:xde ea C s.heap)(hq:R (.ok (.ret (.ref C))) s) :
  codeAny (model prog w) A (.call (.builtin "BaseException.__getattribute__") ⟨[.ref ea,.str "__class__" tk],[]⟩) R s :=
 codeAny_call_builtin F.attr_ValueError.ga.plain F.entry_bexc_ga (xc_ Z X I (xdl Z X I hq))
theorem xc7 (Z:lM K C)(X:K.In s.heap)(I:xde ea C s.heap)(h:Q (some (.ref C)) { s with toks:=s.toks+1 }):wpAny (model prog w) A (getAttr? (.ref ea) "__class__") Q E s:=by
 obtain⟨hh,g,d,t,os⟩:=s
 have L0:=I.ty (M:=model prog w)
 have L1:=PySem.W.looks_findIn (M:=model prog w) X Z.ga
 have L2:=PySem.W.looks_findIn (M:=model prog w) X Z.gt
 unfold getAttr? getAttrBy? getAttrBy
 refine wpAny_bind (wpAny_mkText (wpAny_bind (wpAny_attempt (wpAny_holding ?_))))
 refine wpAny_bind (L0.at (wpAny_bind (L1.at ?_)))
 show wpAny _ _ (getAttrByItsOwn _ _ _ _ _ _) _ _ _
 unfold getAttrByItsOwn
 refine wpAny_bind (L2.at ?_)
 refine wpAny_bind (wpAny_attempt (wpAny_holding ?_))
 show wpAny _ _ (boundAndCalled _ _ _) _ _ _
 unfold boundAndCalled
 rw[F.attr_ValueError.ga.bind (.ref ea)]
 refine wpAny_bind (wpAny_pure (wpAny_call (xex (s:=⟨hh,g,d,t+1,os⟩) Z X I ?_)))
 exact PySem.W.handed_on rfl (wpAny_pure h)
theorem xcC (Z:lM K C):PySem.W.KitX K (.ref ea) (.ref C) (xde ea C):=by
 have there:∃c d cd sl,K.lookup C=some ⟨c,d,.cls cd,sl⟩:=by
  obtain⟨cdD,hcD,_⟩:=PySem.W.any_some Z.hd
  unfold PySem.W.clsIn at hcD
  split at hcD
  ·rename_i ho
   exact⟨_,_,_,_,ho⟩
  ·cases hcD
 obtain⟨c,d,cd,sl,ho⟩:=there
 refine⟨fun _ _ _ I=>I.ty,fun _ _ X _ A' Q' E' s' k q=>?_,fun h tp dd its n sl' X htp=>?_,fun X I k=>xc7 Z X I k⟩
 ·unfold isType loadHead
  exact wpAny_bind (wpAny_loadPart (k _ _ (X _ _ ho)) (wpAny_pure q))
 ·refine Bool.eq_false_iff.mpr fun q=>?_
  have e:C=tp:=Value.ref.inj (beq_iff_eq.mp q)
  subst e
  have z:=(X _ _ ho).symm.trans htp
  cases z
end
end L2
namespace L2
open PySem PySem.Spec PySem.Calls PyProof.Rows
section
variable {P:Program} {w:World}
theorem xgB {st:List Env}{H H':Hp}{s s':Shared}{B h':Heap}(un:Un (frs st) [] H H' s.heap s'.heap)(kB:∀b o,s.heap.get? b=some o→H b=none→b∉frs st→B.get? b=some o)
  (tB:∀b o,s.heap.get? b=some o→b∉frs st→∃o',B.get? b=some o') (hff:s'.heap.FunFrames B st) (hB:B.StaysIn h') (up:s'.heap.UpToSlots h'):Un (frs st) [] H H' s.heap h' where
 keep:=fun b o e n nb _=>hB b o (kB b o e n nb)
 slot:=fun b o e n hb hx=>by
  obtain⟨sl,e1⟩:=un.slot b o e n hb hx
  obtain⟨_,o',ho',hnf⟩:=hff.mem hb
  rw[e1] at ho';cases ho'
  obtain⟨sl2,e2⟩:=up b _ e1 hnf
  exact⟨sl2,e2⟩
 free:=un.free
 there:=fun b o e hx=>by
  by_cases nb:b∈frs st
  ·obtain⟨_,o',ho',hnf⟩:=hff.mem nb
   obtain⟨sl2,e2⟩:=up b _ ho' hnf
   exact⟨_,e2⟩
  ·obtain⟨o2,e2⟩:=tB b o e nb
   exact⟨o2,hB b o2 e2⟩
 tups:=un.tups
 frzs:=un.frzs
 tbls:=un.tbls
variable {X:Cx} {pins:List (Addr×Obj)} {σ:St} {H H':Hp} {s s':Shared} {ea C:Addr}
theorem Inv.pinX (I:Inv X pins σ H s)(h1:s.heap.get? p.1=some p.2)(h2:H p.1=none)(h3:p.1≠X.env.locals)(h4:p.1∉X.fs)(h5:∀v,p.2.data≠.cell v):Inv X (p::pins) σ H s :=
 ⟨I.ok,I.os,I.bare,I.base,I.loc,I.cell,I.free,I.freeC,fun q hq=>by
  rcases xkB.mp hq with z | z
  ·exact I.pin q (xkC _ z)
  ·rcases xkE.mp z with rfl | z
   ·exact⟨h1,h2,h3,h4,h5⟩
   ·exact I.pin q (xkD _ z),I.hok,I.len⟩
abbrev Cx.marked (X:Cx)(e:Value):Cx:={ X with A:=X.A.mark (some e),calm:=false,xe:=fun _ _=>False }
theorem Inv.marked (I:Inv X pins σ H s):Inv (X.marked e) pins σ H s :=
 ⟨⟨I.ok.mod,I.ok.kind,I.ok.glob,I.ok.blt,I.ok.above,I.ok.inj,I.ok.has,I.ok.cab,(fun z=>nomatch z),I.ok.frames,I.ok.stk,I.ok.exf,I.ok.bs,I.ok.bsz,I.ok.noex,I.ok.exfs,I.ok.funs,I.ok.frf⟩,
  I.os,I.bare,I.base,I.loc,I.cell,I.free,I.freeC,I.pin,I.hok,I.len⟩
theorem Inv.unmarked (I:Inv (X.marked e) pins σ H s)(hd:X.calm=true→X.A.handled=none):Inv X pins σ H s :=
 ⟨⟨I.ok.mod,I.ok.kind,I.ok.glob,I.ok.blt,I.ok.above,I.ok.inj,I.ok.has,I.ok.cab,hd,I.ok.frames,I.ok.stk,I.ok.exf,I.ok.bs,I.ok.bsz,I.ok.noex,I.ok.exfs,I.ok.funs,I.ok.frf⟩,
  I.os,I.bare,I.base,I.loc,I.cell,I.free,I.freeC,I.pin,I.hok,I.len⟩
theorem Inv.nsX (I:Inv X pins σ H s)(hs:Heap.SameBut X.env.locals s.heap h')(hn:h'.Ns X.env.locals m')
  (hl:∀(i:Nat) (x:Str) (v:V),X.N[i]? = some x→σ'[i]? = some (some v)→Vis X.env.scope x→∃u,RelV v u∧Look X.env h' m' x u) (len:σ'.length=X.N.length):Inv X pins σ' H { s with heap:=h',toks:=t' }:=by
 refine⟨I.ok,I.os,I.bare,⟨fun b o e n hb hx=>?_,fun b o e n hb hx=>?_,I.base.free,fun b o e hx=>?_,I.base.tups,I.base.frzs,I.base.tbls⟩,⟨m',hn,hl⟩,fun x c e=>?_,I.free,I.freeC,fun p hp=>?_,fun a o e=>?_,len⟩
 ·exact(hs.2 b (I.old e)).trans (I.base.keep b o e n hb hx)
 ·obtain⟨sl,q⟩:=I.base.slot b o e n hb hx
  exact⟨sl,(hs.2 b (I.old e)).trans q⟩
 ·obtain⟨o',q⟩:=I.base.there b o e hx
  exact⟨o',(hs.2 b (I.old e)).trans q⟩
 ·obtain⟨v,o,ho,hd⟩:=I.cell x c e
  exact⟨v,o,(hs.2 c (I.cne x c e)).trans ho,hd⟩
 ·obtain⟨p1,p2,p3,p4⟩:=I.pin p hp
  exact⟨(hs.2 _ p3).trans p1,p2,p3,p4⟩
 ·refine(I.hok a o e).stay (fun b u hb q=>(hs.2 b ?_).trans q) (fun _ q=>q) (fun _ _ q=>q) fun _ _ _ q=>q
  rintro rfl
  rcases hb with rfl | hb
  ·rw[I.free] at e;cases e
  ·rw[I.free] at hb;cases hb
theorem xb9 {cx n z:Str}{i j:Nat}{D:Addr}{np zp np2 ap hp:Pos}{Q:Flow→Shared→Prop}{E:Value→Shared→Prop}(hst:X.stack=X.env::X.outer)(hfr:X.env.frame=some X.env.locals)(hN:X.N.Nodup)(hi:X.N[i]? = some n)(hj:X.N[j]? = some z)
  (hn:X.env.scope.names.lookup n=some .local) (hz:Loc X.env.scope z) (hzf:X.fn z=true) (hg:Gl X cx) (hm:X.mg cx=some (.ref D)) (hx:PySem.W.exmOne X.K (.ref C) (.ref D)=some true)
  (hsw:swapsWith (.Name n np2) (some (.Name z zp)) ap.line X.env=pure false) (hdn:(n == ("__debug__" : Str))=false) (hcn:(n == ("__classdict__" : Str))=false) (hdb:(cx == ("__debug__" : Str))=false)
  (I:Inv X pins σ H s) (F:Fl X.prog X.w X.stack H s ea C H' s')
  (k:∀oe s2,Inv X ((ea,oe)::pins) (((σ.set i (some (.ref ea))).set j (some (.ref ea))).set i none) H' s2→oe.cls=.ref C→Q .next s2) :
  wpAny (model X.prog X.w) X.A (noteFrame (.ref ea) X.env) (fun _ s₂=>wpAny (model X.prog X.w) X.A (setFlight (.ref ea) none) (fun _ s₃ =>
   wpAny (model X.prog X.w) X.A (handleBy (.ref ea) X.env [.ExceptHandler (some (.Name cx np)) (some n) [.Assign [.Name z zp] (.Name n np2) ap] hp]) Q E s₃) E s₂) E s':=by
 obtain⟨os,bare,un,hok,B,t,fl,kB,tB,trB⟩:=F
 have fr:X.A.frames=some (X.env::X.outer):=by rw[←hst];exact I.ok.frames
 have fl0:=fl
 have inv:∀h,Heap.FlyingW B X.stack ea (.ref C) (.ref t) h→s'.heap.UpToSlots h→Inv X pins σ H' { s' with heap:=h }:=fun h f2 up =>
  I.call' (s':={ s' with heap:=h }) (ch:=[]) os (xgB un kB tB fl0.2.2.1 f2.1 up) (hok.of_fly fl0.1 f2.1 trB) bare (fun b z=>absurd z (by simp))
 have isof:∀h,Heap.FlyingW B X.stack ea (.ref C) (.ref t) h→xde ea C h:=fun h f2=>f2.there
 rw[hst] at fl
 refine wpAny_looks_onW fr hfr fl fun h4 held4 up4=>?_
 refine wpAny_landsW held4 fun h5 fl5 up5=>?_
 have up45:=up4.trans up5
 have fl5':Heap.FlyingW B X.stack ea (.ref C) (.ref t) h5:=by rw[hst];exact fl5
 have I5:=inv h5 fl5' up45
 refine wpAny_handleBy_cons (codeAny_handlers_test ?_) (by intro q;cases q)
 refine fv (X:=X.marked (.ref ea)) (s:={ s' with heap:=h5 }) I5.marked hg hm ?_ hdb
 refine PySem.W.Looks.here (s:={ s' with heap:=h5 }) (PySem.W.exm_one (K:=X.K) I5.kIn (isof h5 fl5').ty hx) ?_
 show codeAny _ _ (.handlers _ _ X.env) _ _
 refine codeAny_handlers_suite_as ?_
 refine lands_againW fl5 fun h6 fl6 up6=>?_
 have fl6':Heap.FlyingW B X.stack ea (.ref C) (.ref t) h6:=by rw[hst];exact fl6
 have I6:=(inv h6 fl6' (up45.trans up6)).marked (e:=.ref ea)
 have hea:H' ea=none:=by
  cases q:H' ea with
  | none=>rfl
  | some u =>
   obtain⟨o,ho⟩:=trB ea u q
   rw[fl0.2.1] at ho;cases ho
 obtain⟨oe,vs,hoe,hcl,hda,_⟩:=fl6'.first
 have nL:ea≠X.env.locals:=fun q=>by
  obtain⟨m,⟨o,es,ep,ho,hd',_⟩,_⟩:=I6.loc
  have ho:h6.get? X.env.locals=some o:=ho
  rw[←q,hoe] at ho;cases ho;rw[hda] at hd';cases hd'
 have nF:ea∉X.fs:=fun q=>by
  have q2:ea∈frs X.stack:=by rw[hst,pU hfr];exact xkF _ q
  obtain⟨_,o,ho,hnf⟩:=fl6'.2.2.1.mem q2
  rw[hoe] at ho;cases ho;exact hnf vs hda
 have I6p:Inv (X.marked (.ref ea)) ((ea,oe)::pins) σ H' { s' with heap:=h6 }:=Inv.pinX (p:=(ea,oe)) I6 hoe hea nL nF (fun v q=>by rw[hda] at q;cases q)
 refine jK (X:=X.marked (.ref ea)) (i:=i) (v:=.ref ea) I6p hN hi (.inl hn) rfl (fun s7 I7=>?_) (.inr hn)
 have il:i<σ.length:=by rw[I.len];exact(xkg.mp hi).1
 have ps:PSs (X.marked (.ref ea)) [.Assign [.Name z zp] (.Name n np2) ap] _:=xh (uf (X:=X.marked (.ref ea)) (i:=j) hN hj hz (xem (X:=X.marked (.ref ea)) (i:=i) hi (.inl hn) hdn hcn) hsw (.inl hzf))
 refine wpAny_mono (ps s7 _ H' { nx:=fun σ2 H2=>σ2=(σ.set i (some (.ref ea))).set j (some (.ref ea))∧H2=H',rt:=fun _ _=>False } I7 ⟨.ref ea,by rw[xkk il],rfl,rfl⟩) (fun f s8 h8=>?_) (fun _ _ z=>z.elim)
 cases f with
 | ret u=>obtain⟨_,_,_,_,_,z⟩:=h8;exact z.elim
 | brk=>obtain⟨_,_,_,z⟩:=h8;exact z.elim
 | cont=>obtain⟨_,_,_,z⟩:=h8;exact z.elim
 | next =>
  obtain⟨σ2,H2,I8,rfl,rfl⟩:=h8
  have I8:=I8.unmarked I.ok.hd
  obtain⟨m,hm8,hl8⟩:=id I8.loc
  show wpAny _ _ (do bindName X.env n .none;unbindBehindTheSuite X.env n hp) _ _ s8
  refine wpAny_nameGoes_keeps hn hm8 (by rw[I.ok.kind];rfl) fun h9 v9 hn9 hs9=>?_
  refine k oe _ (I8.nsX hs9 hn9 (fun a x v e1 e2 e3=>?_) (by rw[xku];exact I8.len)) hcl
  have na:a≠i:=fun q=>by
   subst q
   rw[xkk (by rw[xku,xku];exact il)] at e2
   cases e2
  rw[xkj (Ne.symm na)] at e2
  obtain⟨u,r,l⟩:=hl8 a x v e1 e2 e3
  refine⟨u,r,?_⟩
  have nx:x≠n:=fun q=>by subst q;exact na (aG hN e1 hi)
  rcases l with ⟨q1,q2⟩ | ⟨q1,c,q2,o,q3,q4⟩
  ·exact .inl ⟨q1,by show(if x=n then v9 else m x)=some u;rw[if_neg nx];exact q2⟩
  ·exact .inr ⟨q1,c,q2,o,(hs9.2 c (I8.cne x c q2)).trans q3,q4⟩
end
end L2
namespace L2
open PySem PySem.Spec PySem.Calls PyProof.Rows
section
variable {X:Cx} {pins:List (Addr×Obj)} {σ:St} {H H':Hp} {s s':Shared} {ea C:Addr}
abbrev Cx.knows (X:Cx)(p:Addr×Obj):Cx:={ X with pn:=p::X.pn }
theorem Inv.knows (I:Inv X (p::pins) σ H s):Inv (X.knows p) pins σ H s :=
 ⟨⟨I.ok.mod,I.ok.kind,I.ok.glob,I.ok.blt,I.ok.above,I.ok.inj,I.ok.has,I.ok.cab,I.ok.hd,I.ok.frames,I.ok.stk,I.ok.exf,I.ok.bs,I.ok.bsz,I.ok.noex,I.ok.exfs,I.ok.funs,I.ok.frf⟩,
  I.os,I.bare,I.base,I.loc,I.cell,I.free,I.freeC,fun q hq=>I.pin q (by
   rcases xkE.mp (show q∈p::(X.pn++pins) from hq) with z | z
   ·exact xkD _ (by rw[z];exact xkG)
   ·rcases xkB.mp z with z | z
    ·exact xkC _ z
    ·exact xkD _ (xkF _ z)),I.hok,I.len⟩
theorem Inv.unknows (I:Inv (X.knows p) pins σ H s):Inv X pins σ H s :=
 ⟨⟨I.ok.mod,I.ok.kind,I.ok.glob,I.ok.blt,I.ok.above,I.ok.inj,I.ok.has,I.ok.cab,I.ok.hd,I.ok.frames,I.ok.stk,I.ok.exf,I.ok.bs,I.ok.bsz,I.ok.noex,I.ok.exfs,I.ok.funs,I.ok.frf⟩,
  I.os,I.bare,I.base,I.loc,I.cell,I.free,I.freeC,fun q hq=>I.pin q (xkF _ hq),I.hok,I.len⟩
theorem SP.unknows (h:SP (X.knows p) pins D f s):SP X pins D f s:=by
 cases f with
 | next=>obtain⟨a,b,I,q⟩:=h;exact⟨a,b,I.unknows,q⟩
 | brk=>obtain⟨a,b,I,q⟩:=h;exact⟨a,b,I.unknows,q⟩
 | cont=>obtain⟨a,b,I,q⟩:=h;exact⟨a,b,I.unknows,q⟩
 | ret u=>obtain⟨v,a,b,I,r,q⟩:=h;exact⟨v,a,b,I.unknows,r,q⟩
def xhr (ea:Addr)(c:V)(b:Bool)(xs:List V)(H:Hp)(Q:VK):Prop:=xs=[.ref ea,c]∧Q (.bl b) H
theorem p_ (hp:(ea,oe)∈X.pn)(hc:oe.cls=.ref C)(Z:lM X.K C)(e:∀u,RelV c u→PySem.W.kitOne X.K (.ref C) u=some b):ja X (.builtin "isinstance") (xhr ea c b):=by
 intro pins s σ H xs us Q I r h
 obtain⟨rfl,q⟩:=h
 cases r with
 | cons r1 r2 =>
  cases r2 with
  | cons r2 r3 =>
   cases r3
   rename_i u1 u2
   cases (show u1=Value.ref ea from r1)
   exact PySem.W.kia_one (xcC Z) I.kIn ⟨oe,(I.pin _ (xkC _ hp)).1,hc⟩ (e _ r2) (fun z=>nomatch z) fun tk=>⟨.bl b,H,I.tok tk,rfl,q⟩
theorem xff {cx n z y:Str}{i j c:Nat}{D g:Addr}{np zp np2 ap hp yp cp ep tp:Pos}{rest:List Stmt}{trest:Addr→Obj→TS}{LP:Hp→Prop}{KX:Hp→Hp→Prop}(hst:X.stack=X.env::X.outer)(hfr:X.env.frame=some X.env.locals)(hN:X.N.Nodup)
  (hi:X.N[i]? = some n) (hj:X.N[j]? = some z) (hc:X.N[c]? = some y) (hn:X.env.scope.names.lookup n=some .local) (hz:Loc X.env.scope z) (hy:Vis X.env.scope y) (hzf:X.fn z=true) (hg:Gl X cx) (hm:X.mg cx=some (.ref D)) (hx:PySem.W.exmOne X.K (.ref C) (.ref D)=some true)
  (hsw:swapsWith (.Name n np2) (some (.Name z zp)) ap.line X.env=pure false) (hdn:(n == ("__debug__" : Str))=false) (hcn:(n == ("__classdict__" : Str))=false) (hdb:(cx == ("__debug__" : Str))=false)
  (hdy:(y == ("__debug__" : Str))=false) (hcy:(y == ("__classdict__" : Str))=false) (hsy:swapsWith (.Call (.Name y yp) [] [] cp) none ep.line X.env=pure false)
  (hfn:PySem.W.FnAt g X.base) (hcall:∀pins σ H s,Inv X pins σ H s→LP H→codeAny (model X.prog X.w) X.A (.call (.ref g) ⟨[],[]⟩) (CR (CXE X.prog X.w) X.stack X.prog X.w H s (fun _ _=>False) fun k _ H'=>k=.ref C∧KX H H') s)
  (hrest:∀ea oe,oe.cls=.ref C→PSs (X.knows (ea,oe)) rest (trest ea oe)) :
  PSs X (.Try [.Expr (.Call (.Name y yp) [] [] cp) ep] [.ExceptHandler (some (.Name cx np)) (some n) [.Assign [.Name z zp] (.Name n np2) ap] hp] [] [] tp::rest)
   (fun D' σ H=>σ[c]? = some (some (.ref g))∧LP H∧∀ea oe H',KX H H'→trest ea oe D' (((σ.set i (some (.ref ea))).set j (some (.ref ea))).set i none) H'):=by
 intro pins s σ H D' I h
 obtain⟨h1,h2,h3⟩:=h
 refine wpAny_execs_cons (wpAny_Try_except ?_)
 refine wpAny_execs_cons (wpAny_Expr_any ?_ I.quiet hsy)
 refine wpAny_Call_Name_kw ?_
 have X1:X.nox=X.nox:=rfl
 obtain⟨m,hnm,hl⟩:=id I.loc
 obtain⟨u,r,l⟩:=hl c y (.ref g) hc h1 hy
 cases (show u=Value.ref g from r)
 have load:∀ {E:Value→Shared→Prop} {Q:Value→Shared→Prop},Q (.ref g) s→wpAny (model X.prog X.w) X.A (eval (.Name y yp) X.env) Q E s:=fun {E Q} q=>by
  rcases l with ⟨hk,hm'⟩ | ⟨hk,c',hc',hcell⟩
  ·exact wpAny_Name (wpAny_loadName_local I.ok.kind hk hnm hm' q) hdy
  ·rcases hk with hk | hk
   ·exact wpAny_Name (wpAny_loadName_cell I.ok.kind hk hc' hcell q) hdy
   ·exact wpAny_Name (wpAny_loadName_free I.ok.kind hk hc' hcell q hcy) hdy
 refine load ?_
 have fnS:PySem.W.FnAt g s.heap:=by
  obtain⟨oc,od,fd,sl,e⟩:=hfn
  exact⟨oc,od,fd,sl,I.bk _ _ e⟩
 refine PySem.W.callWith_F0 (first:=[]) fnS (wpAny_call (codeAny_mono (hcall pins σ H s I h2) fun r s1 hr=>?_))
 cases r with
 | ok fl =>
  cases fl with
  | ret u=>obtain⟨_,_,_,_,_,_,_,q⟩:=hr;exact q.elim
  | next=>exact hr.elim
  | brk=>exact hr.elim
  | cont=>exact hr.elim
 | error e =>
  obtain⟨ea,C',H',rfl,F,q1,q2⟩:=hr
  cases q1
  refine xb9 hst hfr hN hi hj hn hz hzf hg hm hx hsw hdn hcn hdb I F fun oe s2 I2 hcl=>?_
  exact thn (hrest ea oe hcl s2 _ H' D' I2.knows (h3 ea oe H' q2)) fun f s3 q=>q.unknows
end
end L2
namespace L2
open PySem PySem.Spec PySem.Calls PyProof.Rows
def xbX (P:Program)(w:World)(K:PySem.W.Frag)(mg:Str→Option Value)(base:Heap)(N:List Str)(qual:Str)(scope:Scope)(g:Addr)(cd:Value)(cl:List (Str×Addr))(A:Around)(outer:List Env)(s:Shared)(H:Hp)(E:XK):Cx where
 prog:=P
 w:=w
 K:=K
 mg:=mg
 base:=base
 A:=A.deeper (PySem.W.envX qual scope s.heap.objs.size g cd cl)
 N:=N
 s₀:=s
 H₀:=H
 env:=PySem.W.envX qual scope s.heap.objs.size g cd cl
 outer:=outer
 stack:=PySem.W.envX qual scope s.heap.objs.size g cd cl::outer
 ex:=[]
 calm:=true
 fn:=fun _=>false
 pn:=[]
 xe:=fun e s'=>wpAny (model P w) (A.deeper (PySem.W.envX qual scope s.heap.objs.size g cd cl)) (leaving (PySem.W.envX qual scope s.heap.objs.size g cd cl) e) (fun _ s''=>CXE P w outer H s E e s'') (fun e' s''=>CXE P w outer H s E e' s'') s'
theorem xck {P:Program}{w:World}{K:PySem.W.Frag}{mg:Str→Option Value}{base:Heap}{N:List Str}{qual:Str}{scope:Scope}{g:Addr}{cd:Value}{cl:List (Str×Addr)}{A:Around}{outer:List Env}{s:Shared}{H:Hp}{E:XK} :
  aC (CXE P w) (xbX P w K mg base N qual scope g cd cl A outer s H E) E:=xgX rfl rfl rfl fun _ _ h=>h
structure xgs (base:Heap)(scope:Scope)(cl:List (Str×Addr))(N:List Str)(vs:List V):Prop where
 kind:scope.kind=.function
 co:scope.isCoroutine=false
 gen:scope.isGenerator=false
 nocell:∀x∈scope.names,x.2≠.cell
 has:∀x,scope.names.lookup x=some .free→∃c,cl.lookup x=some c
 inj:∀x y c,cl.lookup x=some c→cl.lookup y=some c→x=y
 cell:∀x c,cl.lookup x=some c→∃v,base.IsCell c v
 val:∀(i:Nat) (x:Str) (v:V),N[i]? = some x→vs[i]? = some v→scope.names.lookup x=some .free∧∃c u,cl.lookup x=some c∧RelV v u∧base.IsCell c (some u)
 len:vs.length=N.length
theorem xfe {P:Program}{w:World}{K:PySem.W.Frag}{mg:Str→Option Value}{base:Heap}{N:List Str}{name qual:Str}{params:Arguments}{body:Expr}{scope:Scope}{g:Addr}{cdv ct pm oc:Value}{od:Option Addr}{sl:Array (Option Value)}{cl:List (Str×Addr)}{k:Nat}{A:Around}{outer:List Env}{s:Shared}{H:Hp}{E:XK}{vs:List V}{te:TE}
  (e0:xcx P w K mg base A outer s H) (hr:k7 (k+1) A) (hobj:base.get? g=some ⟨oc,od,.func (PySem.W.kla_fn name qual params body scope cl pm cdv ct),sl⟩) (hcd:s.heap.CodeRec cdv qual)
  (hpar:bindArgs (PySem.W.kla_fn name qual params body scope cl pm cdv ct) ⟨[],[]⟩=pure []) (L:xgs base scope cl N vs)
  (hb:PE (xbX P w K mg base N qual scope g cdv cl A outer s H E) body te) (hq:te (vs.map some) H fun _ _=>False) :
  codeAny (model P w) A (.call (.ref g) ⟨[],[]⟩) (CR (CXE P w) outer P w H s (fun _ _=>False) E) s:=by
 have bk:∀b o,base.get? b=some o→s.heap.get? b=some o:=fun b o e=>(e0.bs b o e).1
 have lim:s.heap.NoLimit:=e0.mod.nolimit.keeps bk
 refine PySem.W.kla_callFunE hr.depth (bk _ _ hobj) rfl L.co L.gen rfl hcd ?_
 rw[hpar]
 refine wpAny_pure (wpAny_newFunctionEnv L.nocell (fun x hx=>absurd hx (by simp)) (fun h₁ hns hsb=>⟨lim.fresh _ hsb,?_⟩) L.kind)
 show codeAny _ _ (.expr body (PySem.W.envX qual scope s.heap.objs.size g cdv cl)) _ _
 have hk:∀b o,s.heap.get? b=some o→h₁.get? b=some o:=fun b o e=>hsb.extBut b o (xlg (Heap.lt_size e)) (Heap.get?_push_of_some _ e)
 have noA:∀b:Addr,b∉(xbX P w K mg base N qual scope g cdv cl A outer s H E).ex:=fun b z=>absurd (show b∈([]:List Addr) from z) (by simp)
 have cellK:∀c v,base.IsCell c v→h₁.IsCell c v:=fun c v ⟨o,ho,hd⟩=>⟨o,hk _ _ (bk _ _ ho),hd⟩
 have I:Inv (xbX P w K mg base N qual scope g cdv cl A outer s H E) [] (vs.map some) H { s with heap:=h₁,toks:=s.toks+([]:List (Str×Value)).length }:=by
  refine⟨⟨e0.mod,L.kind,rfl,rfl,xk7 _,L.inj,fun y hy=>?_,fun y c z _=>(nomatch z),fun _=>hr.hd,Around.frames_deeper e0.frames,.inr ⟨rfl,rfl⟩,fun b z=>absurd z (noA b),e0.bs,e0.bsz,fun b _ _=>noA b,fun b z=>absurd z (noA b),e0.funs,e0.frf⟩,
   rfl,e0.bare,Un.kept hk,⟨_,hns,fun i y v h1 h2 h3=>?_⟩,fun y c h=>?_,e0.hok.fresh (xk7 _),fun y c h=>?_,fun p hp=>absurd (show p∈([]:List (Addr×Obj)) from hp) (by simp),e0.hok.kept hk,by rw[xkr];exact L.len⟩
  ·rcases hy with hy | hy
   ·exact absurd rfl (L.nocell _ (PySem.mem_of_lookup hy))
   ·exact L.has y hy
  ·have hv:vs[i]? = some v:=by
    rw[xkh] at h2
    cases e:vs[i]? with
    | none=>rw[e] at h2;cases h2
    | some a=>rw[e] at h2;cases h2;rfl
   obtain⟨k1,c,u,k2,k3,k4⟩:=L.val i y v h1 hv
   exact⟨u,k3,.inr ⟨.inr k1,c,k2,cellK c _ k4⟩⟩
  ·obtain⟨v,q⟩:=L.cell y c h
   exact⟨v,cellK c v q⟩
  ·obtain⟨v,o,ho,_⟩:=L.cell y c h
   exact(e0.bs c o ho).2
 refine PySem.W.kla_codeExpr (wpAny_mono (hb _ _ H _ I hq) (fun v s' hv=>?_) fun e s' he=>he)
 obtain⟨_,_,_,_,z⟩:=hv
 exact z.elim
end L2
namespace L2
open PySem PySem.Spec PySem.Calls PyProof.Rows
theorem xeE:∀(n:Nat),l.length≤n→TriplesOk l→TriplesOk m→TriplesOk (l++m):=by
 intro n
 induction n generalizing l with
 | zero =>
  intro hn hl hm
  cases l with
  | nil=>exact hm
  | cons=>simp at hn
 | succ n ih =>
  intro hn hl hm
  unfold TriplesOk at hl
  split at hl
  ·exact hm
  ·rename_i r
   show TriplesOk (_::_::_::(r++m))
   unfold TriplesOk
   exact ih (by simp at hn;omega) hl hm
  ·exact hl.elim
theorem xap:∀(n:Nat) {l:List Value},l.length≤n→TriplesOk l→codeAmong pos (l++m)=some cv→codeAmong pos l=some cv∨codeAmong pos m=some cv:=by
 intro n
 induction n with
 | zero =>
  intro l hn hl h
  cases l with
  | nil=>exact .inr h
  | cons=>simp at hn
 | succ n ih =>
  intro l hn hl h
  unfold TriplesOk at hl
  split at hl
  ·exact .inr h
  ·rename_i a b c d e r
   have h:codeAmong pos (.int a b::.int c d::e::(r++m))=some cv:=h
   unfold codeAmong at h
   split at h
   ·rename_i q
    refine .inl ?_
    unfold codeAmong
    rw[if_pos q];exact h
   ·rename_i q
    rcases ih (by simp at hn;omega) hl h with z | z
    ·refine .inl ?_
     unfold codeAmong
     rw[if_neg q];exact z
    ·exact .inr z
  ·exact hl.elim
def xfm (H:Hp)(cdv:Value)(q:Str):Prop:=∃c oc vs t,cdv=.ref c∧H c=some (.frz oc (.own c))∧oc.data=.fields vs∧vs[1]? = some (.str q t)
theorem xfm.rec (x:xfm H cdv q)(ok:HOk P w H h):h.CodeRec cdv q:=by
 obtain⟨c,oc,vs,t,e1,e2,e3,e4⟩:=x
 exact⟨c,oc,vs,t,e1,(ok c _ e2).1,e3,e4⟩
abbrev oB (qual:Str)(params:Arguments)(body:Expr)(scope:Scope)(clos:List (Str×Addr))(pm cdv ct:Value):Obj:={ cls:=.type "function", data:=.func (PySem.W.kla_fn "<lambda>" qual params body scope clos pm cdv ct) }
section
variable {X:Cx} {pins:List (Addr×Obj)} {σ:St} {H:Hp} {s:Shared} {c P:Addr} {params:Arguments} {body:Expr} {scope:Scope} {pos:Pos} {clos:List (Str×Addr)} {E:Value→Shared→Prop} {Q:Value→Shared→Prop} {q:Str}
theorem xds (I:Inv X pins σ H s)(hq:X.env.qual ++ "<lambda>" = q)(hcode:X.env.code=.ref c)(C:PySem.W.CodeHd X.base c P)(hP:H P=some (.tb q))(hgP:mainGlobals≠P)(hb:X.base.BuiltinsAt X.mg P)(hdef:defaultsOf params X.env=([],[]))(hcl:closureFor scope X.env=pure clos)
  (k:∀g H1 s1 cdv ct pm,Inv X pins σ H1 s1→(∀a o,H a=some o→H1 a=some o)→s1.heap.get? g=some (oB q params body scope clos pm cdv ct)→H1 g=none→s.heap.objs.size≤g→xfm H1 cdv q →
   (∀c o v,s.heap.get? c=some o→o.data=.cell v→H c=none→s1.heap.get? c=some o)→Q (.ref g) s1) :
  wpAny (model X.prog X.w) X.A (eval (.Lambda params body scope pos) X.env) Q E s:=by
 obtain⟨ps,hps,htri,hcodes⟩:=(show uJ X.prog X.w H s.heap P (.tb q) from I.hok P _ hP)
 have hg:s.heap.Ns mainGlobals X.mg:=I.ok.mod.glob.keeps I.bk
 have hbs:s.heap.BuiltinsAt X.mg P:=by
  obtain⟨bm,o,b1,b2,b3,b4,b5,b6⟩:=hb
  exact⟨bm,o,b1,b2,b3,b4,I.bk _ _ b5,b6⟩
 have CS:PySem.W.CodeHd s.heap c P:=C.keeps I.bk
 have LP:X.env.locals≠P:=fun z=>by rw[←z,I.free] at hP;cases hP
 refine PySem.W.kla_eval hdef ?_
 rw[hq]
 cases hf:codeAmong pos ps.toList with
 | none =>
  refine PySem.W.kla_makeFunction hcl I.ok.glob hg hcode CS hps htri hf hgP hbs fun c' ctv h' tk hx hge hlt hrec htb=>?_
  obtain⟨c2,oc,vs,t,e1,e2,e3,e4⟩:=hrec
  cases e1
  have Hc:H c'=none:=I.hok.fresh hge
  have hk2:∀b o,b≠P→s.heap.get? b=some o→(h'.push (oB q params body scope clos ((X.mg "__name__").getD .none) (.ref c') ctv)).get? b=some o:=fun b o n e=>Heap.get?_push_of_some _ (hx b o n e)
  have nP:∀b,H b=none→b≠P:=fun b n z=>by rw[z,hP] at n;cases n
  have ltb:∀b o,s.heap.get? b=some o→b≠c':=fun b o e=>xlg (xlb (Heap.lt_size e) hge)
  have ext:∀a o,H a=some o→upd H c' (.frz oc (.own c')) a=some o:=fun a o e=>by rw[xX (xI e Hc)];exact e
  have Hg:upd H c' (.frz oc (.own c')) h'.objs.size=none:=by
   rw[xX (xlf hlt)]
   exact I.hok.fresh (xk9 hge (xk6 hlt))
  refine k h'.objs.size (upd H c' (.frz oc (.own c'))) _ (.ref c') ctv _ ?_ ext (Heap.get?_push_size _ rfl) Hg (xk9 hge (xk6 hlt)) ⟨c',oc,vs,t,rfl,x9,e3,e4⟩ (fun a o v e _ n=>hk2 a o (nP a n) e)
  refine I.step (g':=s.gens) (d':=s.drawn) (ch:=[]) (fun b z=>absurd z (by simp)) (fun b o _ _ _ e n=>hk2 b o (nP b n) e) (fun b o _ _ _ e n=>⟨o.slots,hk2 b o (nP b n) e⟩) (fun b o _ e n=>by rw[xX (ltb b o e)];exact n)
   (fun b o _ e=>?_) (fun b xs e=>ext _ _ e) (fun b o u e=>ext _ _ e) (fun b p e=>⟨#[],by rw[ext _ _ e];simp⟩) (fun m hm=>?_) (fun b u e=>?_) I.bare
  ·by_cases z:b=P
   ·exact⟨_,by rw[z];exact Heap.get?_push_of_some _ htb⟩
   ·exact⟨o,hk2 b o z e⟩
  ·obtain⟨o,es,ep,ho,r⟩:=hm
   exact⟨o,es,ep,hk2 _ o LP ho,r⟩
  ·by_cases zc:b=c'
   ·subst zc
    rw[x9] at e;cases e
    exact⟨Heap.get?_push_of_some _ e2,_,Heap.get?_push_of_some _ e2⟩
   ·rw[xX zc] at e
    by_cases zP:b=P
    ·subst zP
     rw[hP] at e;cases e
     refine⟨_,Heap.get?_push_of_some _ htb,?_,fun pos' cv e'=>?_⟩
     ·rw[Array.toList_append]
      exact xeE _ (xk7 _) htri (by unfold TriplesOk;unfold TriplesOk;trivial)
     ·rw[Array.toList_append] at e'
      rcases xap _ (xk7 _) htri e' with z | z
      ·obtain⟨c3,o3,v3,t3,y1,y2,y3⟩:=hcodes pos' cv z
       exact⟨c3,o3,v3,t3,y1,ext _ _ y2,y3⟩
      ·have z:codeAmong pos' [rawInt pos.line,rawInt pos.col,.ref c']=some cv:=z
       unfold codeAmong rawInt at z
       dsimp only at z
       split at z
       ·cases z;exact⟨c',oc,vs,t,rfl,x9,e3,e4⟩
       ·unfold codeAmong at z;cases z
    ·refine(I.hok b u e).stay (fun a v ha y=>hk2 a v ?_ y) (fun a y=>ext _ _ y) (fun a xs y=>ext _ _ y) fun a o u y=>ext _ _ y
     rcases ha with z | z
     ·rw[z];exact zP
     ·rintro rfl;rw[hP] at z;cases z
 | some cv =>
  refine PySem.W.kla_makeFunctionHit hcl I.ok.glob hg hcode CS hps htri hf hbs fun ctv h' tk hk hsz=>?_
  have hk2:∀b o,s.heap.get? b=some o→(h'.push (oB q params body scope clos ((X.mg "__name__").getD .none) cv ctv)).get? b=some o:=fun b o e=>Heap.get?_push_of_some _ (hk b o e)
  refine k h'.objs.size H _ cv ctv _ ?_ (fun _ _ e=>e) (Heap.get?_push_size _ rfl) (I.hok.fresh hsz) hsz (hcodes pos cv hf) (fun a o v e _ _=>hk2 a o e)
  exact I.step (g':=s.gens) (d':=s.drawn) (ch:=[]) (fun b z=>absurd z (by simp)) (fun b o _ _ _ e _=>hk2 b o e) (fun b o _ _ _ e _=>⟨o.slots,hk2 b o e⟩) (fun b o _ _ n=>n) (fun b o _ e=>⟨o,hk2 b o e⟩) (fun _ _ e=>e) (fun _ _ _ e=>e)
   (fun b p e=>⟨#[],by rw[e];simp⟩) (fun m hm=>hm.keeps hk2) (I.hok.kept hk2) I.bare
end
end L2
namespace L2
open PySem PySem.Spec PySem.Calls PyProof.Rows
def xbT (h:Heap)(H:Hp)(fs:List Addr):Heap:=PySem.W.hideAll h (trk h H++fs)
theorem dq (e:h.get? b=some o)(n:H b=none)(nf:b∉fs):(xbT h H fs).get? b=some o:=PySem.W.hideAll_get _ e (fun z=>by
 rcases xkB.mp z with z | z
 ·obtain⟨_,z⟩:=xkH.mp z
  rw[n] at z;cases z
 ·exact nf z)
theorem xcl (e:(xbT h H fs).get? b=some o):h.get? b=some o∧H b=none:=by
 have e1:=PySem.W.of_hideAll _ e
 refine⟨e1,?_⟩
 cases q:H b with
 | none=>rfl
 | some u =>
  have:b∈trk h H++fs:=xkC _ (xkH.mpr ⟨xkO.mpr (Heap.lt_size e1),by rw[q];rfl⟩)
  rw[xbT,PySem.W.hideAll_none _ this] at e;cases e
theorem Mod.keeps {K:PySem.W.Frag}{mg:Str→Option Value}{base base':Heap}(m:Mod K mg base)(k:∀b o,base.get? b=some o→base'.get? b=some o):Mod K mg base' :=
 ⟨m.kin.keeps k,m.glob.keeps k,let ⟨mb,h1,h2⟩:=m.blt;⟨mb,h1.keeps k,h2⟩,m.nolimit.keeps k⟩
section
variable {X:Cx} {pins:List (Addr×Obj)} {σ:St} {H:Hp} {s:Shared}
theorem Inv.nstk (I:Inv X pins σ H s)(e:X.base.get? b=some o):b∉frs X.stack:=fun z=>by
 rcases xkE.mp (I.stkSub b z) with z | z
 ·exact I.old (I.ok.bs b o e).1 z
 ·exact I.ok.nofr e z
theorem Inv.restE (I:Inv X pins σ H s):xcx X.prog X.w X.K X.mg (xbT s.heap H (frs X.stack)) X.A X.stack s H :=
 ⟨I.ok.frames,I.ok.mod.keeps fun b o e=>dq (I.bs b o e).1 (I.bs b o e).2 (I.nstk e),fun b o e=>xcl e,Nat.le_of_eq (PySem.W.hideAll_size _ _),PySem.W.funFrames_hide I.stack (fun env he a ha=>xkD _ (xkI.mpr ⟨env,he,ha⟩)),I.stkFree,I.hok,I.bare⟩
def xdR (XN:List Str)(xs ls:Scope)(N:List Str)(tau:List Nat)(cn:List Str):Bool :=
 N.length == tau.length&&((N.zip tau).all fun p=>XN[p.2]? == some p.1&&xs.names.lookup p.1 == some .cell&&ls.names.lookup p.1 == some .free&&cn.contains p.1)&&ls.names.all (fun p=>p.2 != .cell&&(p.2 != .free || cn.contains p.1)) &&
  ls.kind == .function&&!ls.isCoroutine&&!ls.isGenerator
def xgV (cells:List (Str×Addr)):List (Str×Addr)→Prop
 | []=>True
 | p::r=>cells.lookup p.1=some p.2∧xgV cells r
theorem xgV.get:∀ {cl:List (Str×Addr)} {x:Str} {c:Addr},xgV cells cl→cl.lookup x=some c→cells.lookup x=some c
 | [],_,_,_,e=>by cases e
 | (y,d)::r,x,c,h,e=>by
  rw[xkx] at e
  split at e
  ·rename_i q
   cases e
   rw[beq_iff_eq.mp q];exact h.1
  ·exact xgV.get h.2 e
theorem qr {cl:List (Str×Addr)}{x:Str}(h:(cl.map (·.1)).contains x=true):∃c,cl.lookup x=some c:=by
 induction cl with
 | nil=>cases h
 | cons p r ih =>
  obtain⟨y,d⟩:=p
  rw[xkx]
  split
  ·exact⟨d,rfl⟩
  ·rename_i q
   refine ih ?_
   rw[xkz,List.contains_cons] at h
   have q':(x == y)=false:=by simpa using q
   rw[q',Bool.false_or] at h
   exact h
def nv (P:Program)(w:World)(K:PySem.W.Frag)(mg:Str→Option Value)(base:Heap)(k:Nat)(g C:Addr)(H:Hp)(KX:Hp→Prop):Prop :=
 ∀A outer s,k7 k A→xcx P w K mg base A outer s H→codeAny (model P w) A (.call (.ref g) ⟨[],[]⟩) (CR (CXE P w) outer P w H s (fun _ _=>False) fun c _ H'=>c=.ref C∧KX H') s
def xcw (P:Program)(w:World)(K:PySem.W.Frag)(mg:Str→Option Value)(base:Heap)(k:Nat)(C:Addr)(j:Int):Sp:=fun vs H Q _=>∃g KX,vs=[.ref g]∧PySem.W.FnAt g base∧nv P w K mg base k g C H KX ∧
 ∀H' H2 a,KX H'→(∀b o,H' b=some o→H2 b=some o)→H' a=none→H2 a=some (.lst [.int j])→Q (.ref a) H2
def xiL (P:Addr)(q:Str)(tau:List Nat)(te:XK→TE)(C:Addr)(j:Int):TE:=fun σ H Q=>H P=some (.tb q)∧∃vs:List V,vs.length=tau.length∧(∀(i t:Nat) (v:V),tau[i]? = some t→vs[i]? = some v→σ[t]? = some (some v)) ∧
 ∀H1,(∀a o,H a=some o→H1 a=some o)→∃KX:Hp→Prop,(∀E:XK,(∀H',KX H'→E (.ref C) none H')→te E (vs.map some) H1 fun _ _=>False) ∧
  ∀H' H2 a,KX H'→(∀b o,H' b=some o→H2 b=some o)→H' a=none→H2 a=some (.lst [.int j])→Q (.ref a) H2
theorem lU {k kl jx:Nat}{c P C:Addr}{j:Int}{N cn:List Str}{tau:List Nat}{q x:Str}{params:Arguments}{body:Expr}{scope:Scope}{lp np cp:Pos}{clos:List (Str×Addr)}{te:XK→TE}
  (o:∀base,Mod X.K X.mg base→Own X.prog X.w X.K X.mg base jx x ["_law_call"] (xcw X.prog X.w X.K X.mg base kl C j)) (hr:k7 k X.A)
  (hb:∀base g cdv cl A outer s H E,Mod X.K X.mg base→k7 (kl-1) (A.deeper (PySem.W.envX q scope s.heap.objs.size g cdv cl))→PE (xbX X.prog X.w X.K X.mg base N q scope g cdv cl A outer s H E) body (te E))
  (hq:X.env.qual ++ "<lambda>" = q) (hcode:X.env.code=.ref c) (C0:PySem.W.CodeHd X.base c P) (hgP:mainGlobals≠P) (hbl:X.base.BuiltinsAt X.mg P) (hdef:defaultsOf params X.env=([],[])) (hcl:closureFor scope X.env=pure clos)
  (hcn:clos.map (·.1)=cn) (hchk:xdR X.N X.env.scope scope N tau cn=true) (hac:xgV X.env.cells clos) (hfn:∀y,X.fn y=true)
  (hpar:∀pm cdv ct,bindArgs (PySem.W.kla_fn "<lambda>" q params body scope clos pm cdv ct) ⟨[],[]⟩=pure []) (hjk:jx≤k) (hk1:1≤kl) (hg:Gl X x) (hdb:(x == ("__debug__" : Str))=false)
  (he:starEach [.Lambda params body scope lp] X.env=[(false,eval (.Lambda params body scope lp) X.env)]) :
  PE X (.Call (.Name x np) [.Lambda params body scope lp] [] cp) (xiL P q tau te C j):=by
 intro pins s σ H Q I h
 obtain⟨hP,vs,hvl,hvs,hh⟩:=h
 simp only[xdR,xjh,beq_iff_eq,xjV,Bool.not_eq_true',Bool.or_eq_true,bne_iff_ne,ne_eq] at hchk
 obtain⟨⟨⟨⟨⟨c1,c2⟩,c3⟩,c4⟩,c5⟩,c6⟩:=hchk
 obtain⟨fr,fdr,_,_,kpr,mr⟩:=(o X.base I.ok.mod).ex
 refine wpAny_Call_Name_kw (fv I hg mr ?_ hdb)
 refine PySem.W.callWith_K (h₀:=X.base) I.ok.mod.kin kpr ?_ he rfl
 rw[he]
 refine Calls.spliced_cons (xds (q:=q) (clos:=clos) I hq hcode C0 hP hgP hbl hdef hcl fun g H1 s1 cdv ct pm I1 ext hgo hg0 hgs hck hcells=>?_)
 refine Calls.spliced_nil ⟨I1.kIn,?_⟩
 obtain⟨KX,hE,hQ⟩:=hh H1 ext
 let B:=xbT s1.heap H1 (frs X.stack)
 have e0:xcx X.prog X.w X.K X.mg B X.A X.stack s1 H1:=I1.restE
 obtain⟨f,fd,F,b,kp,m⟩:=((o B e0.mod).mono hjk).ex
 have ef:f=fr:=by rw[mr] at m;cases m;rfl
 subst ef
 have gns:g∉frs X.stack:=fun z=>by
  rcases xkE.mp (I.stkSub g z) with z | z
  ·have:=I.lt;rw[←z] at this;exact absurd (xlb this hgs) (xk_ _)
  ·exact I.nofs hgs z
 have gB:B.get? g=some (oB q params body scope clos pm cdv ct):=dq hgo hg0 gns
 have cellB:∀y c',X.env.cells.lookup y=some c'→∀v,s1.heap.IsCell c' v→B.IsCell c' v:=fun y c' e v ⟨o',ho,hd⟩=>by
  refine⟨o',dq ho (I1.freeC y c' e) fun z=>?_,hd⟩
  rcases xkE.mp (I1.stkSub c' z) with z | z
  ·exact I1.cne y c' e z
  ·obtain⟨_,o2,ho2,_⟩:=I1.ok.funs.mem z
   exact absurd (xlb (Heap.lt_size ho2) (I1.ok.cab y c' (hfn y) e)) (xk_ _)
 have L:xgs B scope clos N vs:=by
  refine⟨c4,c5,c6,fun y hy=>(c3 y hy).1,fun y hy=>?_,fun y z c' h1 h2=>I.ok.inj y z c' (hac.get h1) (hac.get h2),fun y c' e=>?_,fun i y v h1 h2=>?_,by rw[hvl,c1]⟩
  ·have:=(c3 _ (PySem.mem_of_lookup hy)).2
   rcases this with z | z
   ·exact absurd rfl z
   ·rw[←hcn] at z;exact qr z
  ·obtain⟨v,q'⟩:=I1.cell y c' (hac.get e)
   exact⟨v,cellB y c' (hac.get e) v q'⟩
  ·have il:i<tau.length:=by rw[←hvl];exact(xkg.mp h2).1
   have ht:tau[i]? = some tau[i]:=xke il
   have hz:(y,tau[i])∈N.zip tau:=by
    refine xkM (i:=i) ?_
    rw[List.getElem?_zip_eq_some]
    exact⟨h1,ht⟩
   obtain⟨⟨⟨k1,k2⟩,k3⟩,k4⟩:=c2 _ hz
   obtain⟨m,_,hl⟩:=I1.loc
   obtain⟨u,r,l⟩:=hl tau[i] y v k1 (hvs i _ v ht h2) (.inr (.inl k2))
   rw[←hcn] at k4
   obtain⟨c',hc'⟩:=qr k4
   refine⟨k3,c',u,hc',r,?_⟩
   rcases l with ⟨z,_⟩ | ⟨_,c2',z1,z2⟩
   ·rw[show X.env.kindOf y=some .cell from k2] at z;cases z
   ·have:=hac.get hc'
    rw[z1] at this;cases this
    exact cellB y _ z1 _ z2
 have lr:nv X.prog X.w X.K X.mg B kl g C H1 KX:=fun A outer s2 hr2 e2=>by
  obtain⟨k0,rfl⟩:∃k0,kl=k0+1:=⟨kl-1,by omega⟩
  exact xfe (E:=fun c _ H'=>c=.ref C∧KX H') e2 hr2 gB (hck.rec e2.hok) (hpar _ _ _) L (hb B g cdv clos A outer s2 H1 _ e2.mod (hr2.deeper _)) (hE _ fun H' q=>⟨rfl,q⟩)
 have sp:xcw X.prog X.w X.K X.mg B kl C j [.ref g] H1 Q E0:=⟨g,KX,rfl,⟨_,_,_,_,gB⟩,lr,hQ⟩
 refine wpAny_call (codeAny_mono (F.run X.A X.stack s1 H1 ⟨[.ref g],[]⟩ [.ref g] [.ref g] Q E0 hr e0 ?_ (.cons rfl .nil) sp) fun r s' hq=>?_)
 ·exact b s1 [.ref g] I1.kIn rfl
 ·cases r with
  | error e=>exact False.elim hq
  | ok fl =>
   cases fl with
   | ret u=>exact I1.after hq
   | next=>exact False.elim hq
   | brk=>exact False.elim hq
   | cont=>exact False.elim hq
end
end L2
namespace L2
open PySem PySem.Spec PyProof.Rows
def spX (n:Nat)(C:Addr)(R:List Tr→Prop):Sp:=fun vs H _ E=>∃(F S:Addr→Prop) (ts:List Tr) (us:List V),vs=us∧(∀a,F a→H a≠none)∧(∀a,S a→F a)∧(∀a,S a→bj a H)∧zi F H ts us∧ts.length=n∧R ts ∧
 ∀H',(∀a o,H a=some o→¬S a→H' a=some o)→(∀a,S a→bj a H')→E (.ref C) none H'
section
variable {K:PySem.W.Frag} {B:FB} {φ:Phi} {σ:St} {τ:TSt} {H H' H'':Hp} {EX:Hp→Prop}
def RXE (K:PySem.W.Frag)(B:FB)(te:TE)(D:TSt→Prop):Prop:=∀ φ σ τ H Q,RS K B φ σ τ H→D τ→te σ H Q
def RXS (K:PySem.W.Frag)(B:FB)(T:TS)(D:TSt→Prop):Prop:=∀ φ σ τ H E,RS K B φ σ τ H→D τ→T E σ H
theorem xd4.on (R:RS K B φ σ τ H)(k:∀a o,H a=some o→¬SA B φ τ a→H' a=some o)(st:∀a,SA B φ τ a→bj a H'):xd4 B H':=(R.hx ⟨k,st⟩).extB
theorem xfg (hE:∀H',xd4 B H'→E (.ref C) none H')(ha:OkA K b n ta da):RXE K B (xew (spX n C R) E ta) (fun τ=>da τ R):=fun φ σ τ H Q R' hd =>
 ha B φ σ τ H _ _ R' hd fun ts vs H1 x1 k1 l1 r1=>⟨AvB b B φ τ,SA B φ τ,ts,vs,rfl,fun a z=>(R'.hx x1).domB z,fun a z=>R'.sB z,x1.st,r1,l1,k1,fun H2 k st=>hE _ (xd4.on (R'.hx x1) k st)⟩
theorem xdn (hE:∀H',xd4 B H'→E (.ref C) none H')(ha:OkA K true n ta da)(hn:n≤100:=by decide):RXS K B (xd1 E C ta) (fun τ=>da τ fun _=>True):=fun φ σ τ H G R hd =>
 ha B φ σ τ H _ _ R hd fun ts vs H1 x1 k1 l1 r1=>⟨by rw[←r1.len,l1];exact xk9 hn (by decide),hE _ (R.hx x1).extB⟩
theorem xgz (h1:OkS K fr T1 D1)(h2:RXS K B T2 D2):RXS K B (xfG T1 T2) (fun τ=>D1 { nx:=D2,rt:=fun _=>False } τ):=fun φ σ τ H E R hd =>
 h1 B φ σ τ H _ _ R hd ⟨fun φ' σ' τ' H' R' k=>h2 φ' σ' τ' H' _ R' k,fun _ _ _ _ _ z=>z.elim,fun _ _ _ _ _ z=>z.elim,fun _ _ _ _ _ z=>z.elim⟩
theorem xgl (h:RXS K B T1 D):RXS K B (xfG T1 T2) D:=fun φ σ τ H E R hd=>h φ σ τ H _ R hd
theorem xhH (hc:OkT K tc dc)(h1:RXS K B T1 D1)(h2:RXS K B T2 D2):RXS K B (xhX tc T1 T2) (fun τ=>dc τ fun b=>if b=true then D1 τ else D2 τ):=fun φ σ τ H E R hd =>
 hc B φ σ τ H _ _ R hd fun b H1 x1 k=>by
  cases b with
  | true=>exact o9 (h1 φ σ τ H1 _ (R.hx x1) (by simpa using k))
  | false=>exact bc (h2 φ σ τ H1 _ (R.hx x1) (by simpa using k))
theorem xcg:RXS K B ot (fun _=>False):=fun _ _ _ _ _ _ h=>h.elim
def dOb (j:Nat)(ea:Addr)(b:Bool):DE:=fun τ KK=>nth τ j=.ob ea∧KK (.bl b)
theorem qL:OkE K true (tCB (xhr ea c b) (vD (sZ j) (vD (tC c) lR))) (dOb j ea b):=fun B φ σ τ H Q KK R hd q=>by
 obtain⟨h1,h2⟩:=hd
 have en:=R.ent j
 rw[h1] at en
 exact⟨.ref ea,en,rfl,q _ _ H (HX.refl R) h2 rfl⟩
def bnd:TV→Bool
 | .fz _=>true
 | .st=>true
 | _=>false
def xi0 (tau:List Nat)(da:DA)(R:List Tr→Prop)(j:Int):DE:=fun τ KK=>(∃ns,nth τ 0=.sc ns)∧(tau.all fun t=>bnd (nth τ t))=true∧da (kC (tau.map some) τ) R∧KK (.lst [.int j])
theorem xe7 (R:RS K B φ σ τ H)(h:bnd (nth τ t)=true):∃v,σ[t]? = some (some v):=by
 have en:=R.ent t
 cases e:nth τ t with
 | fz u=>rw[e] at en;obtain⟨v,h1,_⟩:=en;exact⟨v,h1⟩
 | st=>rw[e] at en;obtain⟨p,h1,_⟩:=en;exact⟨_,h1⟩
 | _=>rw[e] at h;cases h
theorem cI (ht:xfL K=some (P,q))(ha:OkA K b n ta da) :
  OkF K (xiL P q tau (fun E=>xew (spX n C R) E ta) C j) (xi0 tau da R j):=fun B φ σ τ H Q KK R' hd qq=>by
 obtain⟨⟨ns,h0⟩,hb,hda,hk⟩:=hd
 have en:=R'.ent 0
 rw[h0] at en
 obtain⟨_,_,_,_,tb⟩:=en
 have all:∀t∈tau,∃v,σ[t]? = some (some v):=fun t h=>xe7 R' (xjV.mp hb t h)
 refine⟨tb P q ht,tau.map fun t=>((σ[t]?).getD none).getD .non,by rw[xkr],fun i t v e1 e2=>?_,fun H1 ext=>?_⟩
 ·rw[xkh,e1] at e2
  obtain⟨v',e3⟩:=all t (xkM e1)
  simp only[Option.map_some,e3,xli] at e2;cases e2
  exact e3
 have x01:HX B φ τ H H1:=⟨fun a o e _=>ext a o e,fun a s=>by
  obtain⟨m,c,e,z⟩:=R'.sst a s
  exact⟨m,c,ext _ _ e,z⟩⟩
 have R1:=R'.hx x01
 have RI:=R1.inner (tau:=tau.map some)
 have es:k9 (tau.map some) σ=(tau.map fun t=>((σ[t]?).getD none).getD .non).map some:=by
  unfold k9
  rw[xkA,xkA]
  refine List.map_congr_left fun t ht'=>?_
  obtain⟨v,e⟩:=all t ht'
  simp only[Function.comp,e,xli]
 rw[es] at RI
 have hsa:∀a,SA (B.inner φ τ H1) (rF (tau.map some) φ τ) (kC (tau.map some) τ) a→SA B φ τ a:=fun a z=>by
  rcases z with z | ⟨i,z,hj⟩
  ·exact z
  ·have en:=RI.ent i
   rw[hj] at en
   obtain⟨p,e1,e2,e3⟩:=en
   rw[z] at e2;cases e2
   rcases e3 with e3 | e3
   ·exact e3
   ·exact absurd e3 (RI.sst a (.inr ⟨i,z,hj⟩)).ne_none
 refine⟨fun H'=>(∀a o,H1 a=some o→¬SA B φ τ a→H' a=some o)∧∀a,SA B φ τ a→bj a H',fun E hE=>?_,fun H' H2 a hkx e1 e2 e3=>?_⟩
 ·refine xfg (B:=B.inner φ τ H1) (E:=E) (C:=C) (fun H' x=>hE H' ⟨fun a o e n=>x.ext a o e n,fun a s=>x.st a s⟩) ha _ _ _ H1 _ RI hda
 ·have x02:HX B φ τ H H2:=⟨fun a o e n=>e1 a o (hkx.1 a o (ext a o e) n),fun a s=>by
   obtain⟨m,c,e,z⟩:=hkx.2 a s
   exact⟨m,c,e1 _ _ e,z⟩⟩
  refine qq [.int j] a [.int j] H2 x02 hk ?_ e3 ⟨.int j,[],rfl,rfl,rfl⟩
  cases e:H a with
  | none=>rfl
  | some o =>
   by_cases s:SA B φ τ a
   ·exact absurd e2 (hkx.2 a s).ne_none
   ·rw[hkx.1 a o (ext a o e) s] at e2;cases e2
end
section
variable {P:Program} {w:World} {K:PySem.W.Frag} {mg:Str→Option Value} {base:Heap} {k n:Nat} {x qual:Str} {st:Stmt} {f:Addr} {fd:FuncData} {N ps:List Str} {C:Addr} {R:List Tr→Prop}
theorem xaF (F:Fun K x qual st f fd)(S:xw N ps (xf st))(mgx:mg x=some (.ref f))(b:Binds K fd ps [])(hn:ps.length=n)
  (body:∀(cdv:Value) (A:Around) (outer:List Env) (s:Shared) (H:Hp) (E:XK),k7 k (A.deeper (envOfC qual (xf st) s.heap.objs.size f cdv)) →
   ∃T,PSs (fN (CXE P w) P w K mg base N qual (xf st) f cdv A outer s H E) (yV st) T∧∀B:FB,(∀H',xd4 B H'→E (.ref C) none H')→∃D,RXS K B T D∧∀ts,ts.length=n→R ts→D (startT N false ts)) :
  xd0 P w K mg base (k+1) x ps (spX n C R):=by
 have hpl:ps.length≤N.length:=by have:=xlk List.length S.pre;rw[xkw] at this;omega
 refine xe2 F S mgx b (fun vs H Q E h=>?_) (fun cdv A outer s H vs Q E hr h=>?_)
 ·obtain⟨F',S',ts,us,e,_,_,_,r,l,_⟩:=h
  subst e
  rw[←r.len,l,hn]
 ·obtain⟨F',S',ts,us,e,hF,hS,hst,r,l,hR,q⟩:=h
  subst e
  obtain⟨T,ht,h⟩:=body cdv A outer s H E hr
  obtain⟨D,hd,hD⟩:=h ⟨F',S',H,[]⟩ fun H' x=>q H' x.ext x.st
  exact⟨T,ht,hd _ _ _ H _ (ny hF hS hst r (by omega)) (hD ts l hR)⟩
end
section
variable {K:PySem.W.Frag}
theorem tD:bootBuiltins "ValueError" = some (.type "ValueError"):=by decide +kernel
theorem xfO (hd:OkS K true T D)(h:D { nx:=fun _=>False,rt:=fun t=>t=.lst [.int j] } [.un,.ob ea,.un,.un])
  (q:∀H2 a,(∀b o,H b=some o→H2 b=some o)→H a=none→H2 a=some (.lst [.int j])→Q (.ref a) H2):T { nx:=fun _ H'=>Q .non H',rt:=Q } [some g,some (.ref ea),none,none] H:=by
 refine hd ⟨fun _=>False,fun _=>False,H,[]⟩ (fun _=>none) _ _ H _ _ ⟨fun _ z=>z.elim,fun _ z=>z.elim,fun a o e _=>e,fun a z=>?_,fun i j a ts _ z=>(nomatch z),fun i a z=>(nomatch z),rfl,fun i=>?_,fun p z=>absurd z (by simp)⟩ h ⟨fun _ _ _ _ _ z=>z.elim,fun _ _ _ _ _ z=>z.elim,fun _ _ _ _ _ z=>z.elim,fun t v H2 r x e fl=>?_⟩
 ·rcases z with z | ⟨i,z,_⟩
  ·exact z.elim
  ·cases z
 ·match i with
  | 0=>trivial
  | 1=>rfl
  | 2=>trivial
  | 3=>trivial
  | n+4=>trivial
 ·obtain⟨a,ts,ws,rfl,rfl,h1,h2,h3⟩:=fl rfl
  cases e
  obtain⟨v,vs,rfl,e1,e2⟩:=h3
  cases e1;cases e2
  exact q H2 a (fun b o e=>x.ext b o e fun z=>z) h1 h2
end
section
variable {X:Cx} {ea C D:Addr}
theorem zR (hp:(ea,oe)∈X.pn)(hc:oe.cls=.ref C)(Z:lM X.K C)(e:PySem.W.kitOne X.K (.ref C) (.ref D)=some b):ja X (.builtin "isinstance") (xhr ea (.ref D) b) :=
 p_ hp hc Z fun u r=>by cases (show u=Value.ref D from r);exact e
theorem xb7 (hp:(ea,oe)∈X.pn)(hc:oe.cls=.ref C)(Z:lM X.K C)(e:PySem.W.kitOne X.K (.ref C) (.type n)=some b):ja X (.builtin "isinstance") (xhr ea (.ty n) b) :=
 p_ hp hc Z fun u r=>by cases (show u=Value.type n from r);exact e
end
end L2
namespace L2
open PySem PySem.Spec PyProof.Rows
theorem xab {K:PySem.W.Frag}{h:Heap}{mg:Str→Option Value}{x:Str}{C:Addr}{bm:List Value}{newId:String}(X:K.In h)(e:mg x=some (.ref C))(q:PySem.W.excIn K C bm newId=true):OwnCls x C bm newId mg h:=by
 refine⟨e,?_⟩
 unfold PySem.W.excIn at q
 split at q
 case h_2=>cases q
 rename_i dd cd sl ho
 split at q
 case h_2=>cases q
 rename_i C' tl k0 k1 k2 k3 n k5 hm hs
 simp only[xjh,beq_iff_eq,Bool.not_eq_true'] at q
 obtain⟨⟨⟨⟨⟨e1,e2⟩,hdel⟩,ht⟩,hok⟩,hni⟩:=q
 subst e1 e2
 have get:=X _ _ ho
 obtain⟨nm,bs,mro,ns,qn,hd,sn,sub,ab,col,del⟩:=cd
 obtain⟨sl⟩:=sl
 dsimp only at hm hdel hok hni hs
 subst hm hdel hs
 exact⟨tl,ns,nm,qn,bs,hd,sn,sub,ab,col,dd,k0,k1,k2,k3,k5,_,get,.of_isNs (PySem.W.isNs_of_in X hok),PySem.W.nsMap_none_of_in X hok hni,PySem.W.tail_of_in X ht⟩
theorem xaq {K:PySem.W.Frag}{h:Heap}{mg:Str→Option Value}{x:Str}{C:Addr}{bm:List Value}{newId:String}(M:Mod K mg h)(e:mg x=some (.ref C))(q:PySem.W.excIn K C bm newId=true):OwnCls x C bm newId mg h:=xab M.kin e q
abbrev xiO:List Value:=[.type "ValueError", .type "Exception", .type "BaseException", .type "object"]
def dA (K:PySem.W.Frag):Sp:=fun vs H Q _=>∃(a:Addr) (ns:List Int),vs=[.ref a]∧(xgO H∧xfM K H)∧SqL K H a (ns.map V.int)∧ns.length≤63∧∀H',(∀b o,H b=some o→H' b=some o)→Q (.bl true) H'
section
variable {P:Program} {w:World} {K:PySem.W.Frag} {mg:Str→Option Value} {base:Heap} {k:Nat} {x qual:Str} {st:Stmt} {f:Addr} {fd:FuncData} {N ps:List Str}
theorem xaR (F:Fun K x qual st f fd)(hfd:fd.code=.ref c)(S:xw N ps (xf st))(hn:ps.length=1)
  (body:∀(A:Around) (outer:List Env) (s:Shared) (H:Hp) (E:XK),k7 k (A.deeper (envOfC qual (xf st) s.heap.objs.size f (.ref c))) →
   ∃T D,PSs (fN CX0 P w K mg base N qual (xf st) f (.ref c) A outer s H E).nox (yV st) T∧OkS K false T D∧∀ns:List Int,ns.length≤63→D { nx:=fun _=>False,rt:=fun t=>t=.bl true } (.sc ns::List.replicate (N.length-1) .un)) :
  aD P w K mg base CX0 (k+1) f fd ps (dA K):=by
 have hpl:ps.length≤N.length:=by have:=xlk List.length S.pre;rw[xkw] at this;omega
 obtain⟨oc,od,kV,doc,pm,an,cdv,ct,osl,rfl,lk,hcd⟩:=F.ex
 cases (show cdv=.ref c from hfd)
 refine xfp lk hcd S (fun vs H Q E h=>?_) fun A outer s H vs Q E hr h=>?_
 ·obtain⟨a,ns,rfl,_⟩:=h
  exact hn.symm
 ·obtain⟨a,ns,rfl,⟨hO,hT⟩,hS,hl,q⟩:=h
  obtain⟨T,D,ht,hd,h⟩:=body A outer s H E hr
  have so:xdd K H a ns:=by
   refine⟨?_,hT⟩
   rcases hS with (z | ⟨o,z⟩) | z
   ·exfalso
    rcases hO a with (y | ⟨o,xs,y⟩) | ⟨_,y⟩
    ·rw[y] at z;cases z
    ·rw[y] at z;cases z
    ·rw[y] at z;cases z
   ·exact .inl ⟨o,z⟩
   ·exact .inr fun _=>.inr z
  have R:RS K ⟨fun _=>False,fun _=>False,H,[]⟩ (fun _=>none) (start N [.ref a]) (.sc ns::List.replicate (N.length-1) .un) H:=by
   refine⟨fun _ z=>z.elim,fun _ z=>z,fun _ _ e _=>e,fun a s=>?_,fun i j a us _ e=>(by cases e),fun i a e=>(by cases e),?_,fun i=>?_,fun p hp=>absurd hp (by simp)⟩
   ·rcases s with s | ⟨i,s,_⟩
    ·exact s.elim
    ·cases s
   ·rw[dH (by simp;omega)]
    simp;omega
   ·cases i with
    | zero=>exact⟨a,jS rfl,hl,so⟩
    | succ i =>
     show Ent K _ _ H (i+1) _ (nth (List.replicate (N.length-1) .un) i)
     rcases jY (ts:=[]) (n:=N.length-1) (i:=i) rfl with e | ⟨t,h,e⟩
     ·rw[List.map_nil,xkQ] at e
      rw[e];trivial
     ·simp at h
  refine⟨T,ht.nox,hd _ _ _ _ H _ _ R (h ns hl) ⟨fun _ _ _ _ _ z=>z.elim,fun _ _ _ _ _ z=>z.elim,fun _ _ _ _ _ z=>z.elim,fun t v H1 r1 x k fl=>?_⟩⟩
  cases (show t=.bl true from k)
  cases (show v=.bl true from r1)
  exact q H1 fun b o e=>x.ext b o e fun z=>z
end
theorem xax {P:Program}{w:World}{K:PySem.W.Frag}{mg mb:Str→Option Value}{k:Nat}{fa a T:Addr}{q:Str}{fd:FuncData}{x:Str}{s₁:Shared}{vs:List Value}{ns:List Int}
  (KX:K.In s₁.heap) (hns:s₁.heap.Ns mainGlobals mg) (hb:s₁.heap.Ns builtinsNs mb) (hbb:∀x:Str,x ≠ "__name__" → mb x=bootBuiltins x) (hlim:s₁.heap.NoLimit) (hg:s₁.gens = #[])
  (ha:s₁.heap.get? a=some { cls:=.type "list", data:=.seq vs.toArray }) (hi:IntsAre vs ns) (hl:ns.length≤63) (hr:k7 k callerA)
  (hT:xfL K=some (T,q)) (hT0:s₁.heap.get? T=some { cls:=.none,data:=.fields #[] }) (hTK:K.lookup T=none) (hTC:isCodeTable s₁.heap T)
  (F:∀base:Heap,Mod K mg base→aD P w K mg base CX0 k fa fd [x] (dA K)) (hbind:∀(s:Shared) (u:Value),BindsTo s fd ⟨[u],[]⟩ [(x,u)]) :
  codeAny (model P w) callerA (.call (.ref fa) ⟨[.ref a],[]⟩) (fun r s'=>r=.ok (.ret (.bool true))∧OldK s₁.heap s'.heap∧s'.os=s₁.os∧AllBare s'.gens) s₁:=by
 have rv:=fA hi
 have lenV:=hi.length
 have hl2:ns.length≤sizeLine:=xk9 hl (by decide)
 have aT:a≠T:=fun z=>by subst z;rw[ha] at hT0;cases hT0
 have core:∀H:Hp,xgO H→SqL K H a (ns.map V.int)→HOk P w H s₁.heap→(∀b,H b≠none→b=a∨b=T)→H T=some (.tb q)→(H a≠none→K.lookup a=none) →
   codeAny (model P w) callerA (.call (.ref fa) ⟨[.ref a],[]⟩) (fun r s'=>r=.ok (.ret (.bool true))∧OldK s₁.heap s'.heap∧s'.os=s₁.os∧AllBare s'.gens) s₁:=by
  intro H hO hS hok hA hHT hK
  have base_of:∀ {b:Addr} {o:Obj},s₁.heap.get? b=some o→H b=none→(pN s₁.heap H).get? b=some o:=fun e n=>p6 e n
  have noA:∀ {b:Addr} {o:Obj} {es:Array DictEntry} {ep:Nat},s₁.heap.get? b=some o→o.data=.dict es ep→H b=none:=fun {b o es ep} e d=>by
   cases q:H b with
   | none=>rfl
   | some u =>
    rcases hA b (by rw[q];simp) with e' | e'
    ·subst e'
     rw[ha] at e;cases e
     cases (show Data.seq vs.toArray _=Data.dict es ep from d)
    ·subst e'
     rw[hT0] at e;cases e
     cases (show Data.fields #[]=Data.dict es ep from d)
  have nsK:∀ {b:Addr} {m:Str→Option Value},s₁.heap.Ns b m→(pN s₁.heap H).Ns b m:=fun {b m} ⟨o,es,ep,e,d,r⟩=>⟨o,es,ep,base_of e (noA e d),d,r⟩
  have hKb:K.In (pN s₁.heap H):=fun b o e=>base_of (KX b o e) (by
   cases q:H b with
   | none=>rfl
   | some u =>
    rcases hA b (by rw[q];simp) with e' | e'
    ·subst e'
     rw[hK (by rw[q];simp)] at e;cases e
    ·subst e'
     rw[hTK] at e;cases e)
  have hM:Mod K mg (pN s₁.heap H):=⟨hKb,nsK hns,⟨mb,nsK hb,hbb⟩,let ⟨mc,h1,h2⟩:=hlim;⟨mc,nsK h1,h2⟩⟩
  have e0:xcx P w K mg (pN s₁.heap H) callerA [] s₁ H:=⟨rfl,hM,fun b o e=>xaH e,Nat.le_of_eq (m7 _ _),trivial,fun b hb=>absurd (show b∈([]:List Addr) from hb) (by simp),hok,.of_eq hg⟩
  have tab:xfM K H:=fun T' q' e=>by rw[hT] at e;cases e;exact hHT
  have sp:dA K [.ref a] H (fun v H'=>v=.bl true∧∀b o,H b=some o→H' b=some o) (fun _ _ _=>False):=⟨a,ns,rfl,⟨hO,tab⟩,hS,hl,fun H' k=>⟨rfl,k⟩⟩
  refine codeAny_mono ((F _ hM).run callerA [] s₁ H ⟨[.ref a],[]⟩ [.ref a] [.ref a] _ _ hr e0 (hbind s₁ (.ref a)) (.cons rfl .nil) sp) fun r s' h=>?_
  cases r with
  | error e=>exact False.elim h
  | ok fl =>
   cases fl with
   | next=>exact False.elim h
   | brk=>exact False.elim h
   | cont=>exact False.elim h
   | ret u =>
    obtain⟨v,H',os,bare,un,hok',r',qv,qk⟩:=h
    subst qv
    obtain rfl:u=Value.bool true:=r'
    refine⟨rfl,⟨fun b o e=>?_,fun b o e=>un.there b o e (by simp)⟩,os,bare⟩
    cases q:H b with
    | none=>exact .inl (un.keep b o e q (by intro z;exact absurd (show b∈([]:List Addr) from z) (by simp)) (by simp))
    | some u =>
     rcases hO b with (z | ⟨ob,xs,z⟩) | ⟨q',z⟩
     ·rw[q] at z;cases z
     ·have z2:=un.frzs b ob _ z
      obtain⟨e1,_⟩:=hok b _ z
      obtain⟨e2,_⟩:=hok' b _ z2
      rw[e] at e1;cases e1
      exact .inl e2
     ·have ebT:b=T:=by
       rcases hA b (by rw[q];simp) with y | y
       ·subst y
        obtain⟨ps,e1,_⟩:=hok b _ z
        rw[ha] at e1;cases e1
       ·exact y
      subst ebT
      obtain⟨ps,e1,_⟩:=hok' b _ (qk b _ z)
      rw[hT0] at e;cases e
      exact .inr (.inl ⟨hTC,rfl,#[],ps,rfl,by rw[e1];simp⟩)
 have okT:∀H:Hp,uJ P w H s₁.heap T (.tb q):=fun H=>⟨#[],hT0,trivial,fun pos cv e=>by cases e⟩
 cases hk:K.lookup a with
 | some o =>
  have e:=KX a o hk
  rw[ha] at e
  cases e
  refine core (fun b=>if b=T then some (.tb q) else none) (fun b=>?_) (.inr ⟨_,vs.toArray,_,hk,rfl,rfl,rfl,by rw[xkX,lenV];exact hl2,by simpa using rv⟩) (fun b u z=>?_) (fun b z=>?_) (if_pos rfl) fun z=>absurd (if_neg aT) z
  ·by_cases hb:b=T
   ·exact .inr ⟨q,if_pos hb⟩
   ·exact .inl (.inl (if_neg hb))
  ·by_cases hb:b=T
   ·have z':=(if_pos hb).symm.trans z
    cases z'
    subst hb
    exact okT _
   ·have z':=(if_neg hb).symm.trans z
    cases z'
  ·by_cases hb:b=T
   ·exact .inr hb
   ·exact absurd (if_neg hb) z
 | none =>
  have eT:(fun b=>if b=T then some (HO.tb q) else if b=a then some (.frz { cls:=.type "list", data:=.seq vs.toArray } (.lst (ns.map V.int))) else none) T=some (.tb q):=if_pos rfl
  have ea:(fun b=>if b=T then some (HO.tb q) else if b=a then some (.frz { cls:=.type "list", data:=.seq vs.toArray } (.lst (ns.map V.int))) else none) a=some (.frz { cls:=.type "list", data:=.seq vs.toArray } (.lst (ns.map V.int))):=by
   show(if a=T then _ else _)=_
   rw[if_neg aT,if_pos rfl]
  have en:∀b,b≠T→b≠a→(fun b=>if b=T then some (HO.tb q) else if b=a then some (.frz { cls:=.type "list", data:=.seq vs.toArray } (.lst (ns.map V.int))) else none) b=none:=fun b n1 n2=>by
   show(if b=T then _ else _)=_
   rw[if_neg n1,if_neg n2]
  generalize (fun b=>if b=T then some (HO.tb q) else if b=a then some (.frz { cls:=.type "list", data:=.seq vs.toArray } (.lst (ns.map V.int))) else none)=H at eT ea en
  refine core H (fun b=>?_) (.inl (.inr ⟨{ cls:=.type "list", data:=.seq vs.toArray },ea⟩)) (fun b u z=>?_) (fun b z=>?_) eT fun _=>hk
  ·by_cases hb:b=T
   ·subst hb;exact .inr ⟨q,eT⟩
   ·by_cases hb2:b=a
    ·subst hb2;exact .inl (.inr ⟨_,_,ea⟩)
    ·exact .inl (.inl (en b hb hb2))
  ·by_cases hb:b=T
   ·subst hb
    rw[eT] at z;cases z
    exact okT _
   ·by_cases hb2:b=a
    ·subst hb2
     rw[ea] at z;cases z
     exact⟨ha,by rw[xkr];exact hl2,vs,_,rv,ha⟩
    ·rw[en b hb hb2] at z;cases z
  ·by_cases hb:b=T
   ·exact .inr hb
   ·by_cases hb2:b=a
    ·exact .inl hb2
    ·exact absurd (en b hb hb2) z
theorem xco {l:PySem.W.OpenLaw}{k:Nat}{p:Program}{loose:List Str}{XP:(Str→Option Value)→Heap→Prop}{YP:World→Heap→Prop}{d:DefRec}{K:Params→PySem.W.Frag}{x q:Str}{T:Addr}
  (hn:l.most=some 63) (hdf:d.params.defaults=[]) (hr:k7 k callerA)
  (hY:∀(w:World) (h:Heap),YP w h→(K w.params).In h) (hT:∀P,xfL (K P)=some (T,q)) (hT0:∀(w:World) (h:Heap),YP w h→h.get? T=some { cls:=.none,data:=.fields #[] }) (hTK:∀P,(K P).lookup T=none)
  (hTC:∀(w:World) (h:Heap),(K w.params).In h→isCodeTable h T)
  (F:∀(w:World) (mg:Str→Option Value) (fa:Addr) (h:Heap),(K w.params).In h→h.Ns mainGlobals mg→mg d.name=some (.ref fa) →
   ∃fd:FuncData,(∀(s:Shared) (u:Value),BindsTo s fd ⟨[u],[]⟩ [(x,u)]) ∧
    ∀base:Heap,Mod (K w.params) mg base→aD l.prog w (K w.params) mg base CX0 k fa fd [x] (dA (K w.params))) :
  PySem.W.WalkO p loose XP YP l.row.toRowW d [] (fun f vs=>PySem.call f vs):=by
 refine Att.fx hn hdf fun w s₀ s₁ mg mb fa o pm cd doc a vs ns G Y ho hd hcd hmg hobj hints hlen hg=>?_
 have KX:=hY w _ Y
 obtain⟨fd,hb,hF⟩:=F w mg fa _ KX G.T.g hmg
 exact xax KX G.T.g G.T.b G.T.builtins G.T.nolimit hg hobj hints hlen hr (hT _) (hT0 w _ Y) (hTK _) (hTC w _ KX) hF hb
end L2
theorem PySem.W.CodeHd.isTable {h:PySem.Heap}{c P:PySem.Addr}(x:PySem.W.CodeHd h c P):PySem.isCodeTable h P:=let ⟨o,vs,_,_,_,_,_,_,_,h1,h2,h3,h4,_⟩:=x;⟨c,o,vs,h1,h2,h3,h4⟩
namespace L2
open PySem
def drT (a b:Int):Tr:=.tup [.int a,.int b]
def kT:Tr→Bool
 | .tup [.int a,.int b]=>!decide (a=0) || !decide (b=0)
 | _=>false
theorem dz (h:kT t=true):∃x y:Int,t=drT x y:=by
 unfold kT at h
 split at h
 ·exact⟨_,_,rfl⟩
 ·cases h
def xhp (t:Tr):Prop:=∀us,t=.tup us→us.length<sizeLine
def tn (a b c d:Int):Int:=a*d-b*c
def L24 (i:Int):Prop:=-(10 ^ 24)≤i∧i≤10 ^ 24
theorem L24.bd (h:L24 i):Bd i:=xb2 (by unfold L24 at h;omega) (by unfold L24 at h;omega)
def L4 (a b c d:Int):Prop:=(L24 a∧L24 b)∧L24 c∧L24 d
theorem xdA {a b:Int}{m n:Nat}(h1:-(m:Int)≤a∧a≤m)(h2:-(n:Int)≤b∧b≤n):-((m*n:Nat):Int)≤a*b∧a*b≤((m*n:Nat):Int):=by
 have h:=xjP a b
 have h3:a.natAbs≤m:=by omega
 have h4:b.natAbs≤n:=by omega
 have h5:=Nat.mul_le_mul h3 h4
 omega
theorem xhP (h:L4 a b c d):Bd (tn a b c d):=by
 obtain⟨⟨h1,h2⟩,h3,h4⟩:=h
 have x:=xdA (m:=10 ^ 24) (n:=10 ^ 24) h1 h4
 have y:=xdA (m:=10 ^ 24) (n:=10 ^ 24) h2 h3
 unfold tn
 refine xb2 ?_ ?_<;>omega
def xdz:TSp:=fun ts KK=>∃t,ts=[t]∧xhp t∧KK (.bl (kT t))
def nK:TSp:=fun ts KK=>∃a b c d:Int,ts=[drT a b,drT c d]∧L4 a b c d∧0<tn a b c d∧KK (.int (tn a b c d))
def xan (n d:Int):Tr:=frT (mY n d) (ay n d)
def kU (a b c d:Int):Tr→Tr
 | .tup [.int x,.int y]=>if x=0∧y=0 then .non else if tn x y c d<0∨tn a b x y<0 then .non else .tup [xan (tn x y c d) (tn a b c d),xan (tn a b x y) (tn a b c d)]
 | _=>.non
theorem xaX (h:0<d):xan n d=fT (lfr n d):=by rw[vm h];rfl
def xi7:Tr→Prop
 | .tup [.int x,.int y]=>L24 x∧L24 y
 | _=>True
def xd_:TSp:=fun ts KK=>∃(a b c d:Int) (t:Tr),ts=[drT a b,drT c d,t]∧L4 a b c d∧xhp t∧xi7 t∧0<tn a b c d∧KK (kU a b c d t)
theorem xcO (h:us.length≤100000):xhp (.tup us):=fun vs e=>by cases e;exact sqz (by omega)
theorem xcp (x y:Int):xhp (drT x y):=xcO (by simp)
theorem xcu (j:Int):xe_ (.lst [.int j]) (.lst [.int j]):=⟨rfl,rfl,by show min 1 1≤64;decide⟩
end L2
namespace L2
open PySem
end L2
namespace L2
open PySem PySem.Spec PyProof.Rows
section
variable {X:Cx} {pos:Pos}
end
section
variable {K:PySem.W.Frag} {fr:Bool}
end
end L2
namespace L2
open PySem
def lu:Tr→Bool
 | .tup [.int a,.int b]=>decide (1≤b)&&decide (Int.gcd a b=1)
 | _=>false
structure Wt (w:F2):Prop where
 pos:0<w.2
 cop:Int.gcd w.1 w.2=1
 nn:0≤w.1
 sm:Fk 40 w
def Cop (f:F2):Prop:=0<f.2∧Int.gcd f.1 f.2=1
theorem cM (h:0<b):Cop (lfr t b):=by rw[vm h];exact⟨Fra.wW h,Fra.aU h⟩
theorem Sd.low (h:Sd f N D)(c:Cop f):L2.lfr N D=f:=by
 rw[vm h.pd]
 have:=Fra.sV (Fra.aU h.pd) c.2 (Fra.wW h.pd) c.1 (by
  have e:=h.e
  have l:=Fra.uU N D
  generalize (Fra.low N D).1=x at *
  generalize (Fra.low N D).2=y at *
  have hD:=h.pd
  have:(x*f.2)*D=(f.1*y)*D:=by grind
  exact xjp (by omega) this)
 exact Prod.ext this.1 this.2
theorem Sd.plusD (h:Sd f N D)(h':Sd g M D):Sd (rY f g) (N+M) D:=by
 refine Sd.lfr (Pol.pp h.pf h'.pf) h.pd ?_ rfl
 have:=h.e;have:=h'.e
 grind
def gP (k:Pol.R3→Int)(f:F2)(x:Pol.R3×F2):F2:=rY f (n_ x.2 (k x.1,1))
def wsum (k:Pol.R3→Int)(l:List (Pol.R3×F2)):F2:=l.foldl (gP k) (0,1)
theorem rX (k:Pol.R3→Int)(l:List (Pol.R3×F2))(h:∀x∈l,0<x.2.2):Cop (wsum k l):=by
 unfold wsum
 have go:∀(l:List (Pol.R3×F2)) (f:F2),Cop f→(∀x∈l,0<x.2.2)→Cop (l.foldl (gP k) f):=fun l=>by
  induction l with
  | nil=>exact fun f c _=>c
  | cons x l ih =>
   intro f c h
   refine ih _ ?_ fun y hy=>h y (xkF _ hy)
   have hx:=h x xkG
   have:0<(n_ x.2 (k x.1,1)).2:=xaO (by show x.2.2*1≠0;omega)
   exact cM (Pol.pp c.1 this)
 exact go l (0,1) ⟨by decide,by decide⟩ h
theorem xa2 (hw:0<w.2)(hD:0<D)(e:w.2*q=D):Sd (n_ w (r,1)) (q*w.1*r) D:=by
 refine Sd.lfr (by show 0<w.2*1;omega) hD ?_ rfl
 show w.1*r*D=q*w.1*r*(w.2*1)
 rw[←e];grind
theorem Fk.plus2 (h:Fk k f)(h':Fk m g):Fk (k+m+1) (rY f g):=by
 unfold rY
 refine gA (by have:=Pol.pp h.pos h'.pos;omega) ?_ ?_
 ·exact(h.top.mul h'.bot).add ((h'.top.mul h.bot).mono (by omega))
 ·exact(h.bot.mul h'.bot).mono (by omega)
theorem Fk.timI (h:Fk k f)(hr:Bk m r):Fk (k+m) (n_ f (r,1)):=by
 unfold n_
 refine gA (by have:=h.pos;show f.2*1≠0;omega) (h.top.mul hr) ?_
 show Bk (k+m) (f.2*1)
 rw[xjM]
 exact h.bot.mono (by omega)
theorem xaZ (k:Pol.R3→Int):∀(l:List (Pol.R3×F2)),(∀x∈l,Fk 40 x.2∧Bk 10 (k x.1))→Fk (1+51*l.length) (wsum k l):=by
 have go:∀(l:List (Pol.R3×F2)) (f:F2) (n:Nat),Fk n f→(∀x∈l,Fk 40 x.2∧Bk 10 (k x.1))→Fk (n+51*l.length) (l.foldl (gP k) f):=fun l=>by
  induction l with
  | nil=>exact fun f n c _=>c
  | cons x l ih =>
   intro f n c h
   have hx:=h x xkG
   have:=ih (gP k f x) (n+51) (c.plus2 (hx.1.timI hx.2)) fun y hy=>h y (xkF _ hy)
   rw[xkn]
   exact this.mono (by omega)
 exact fun l h=>go l (0,1) 1 ⟨by unfold Bk;decide,by unfold Bk;decide,by decide⟩ h
theorem wsum_snoc (k:Pol.R3→Int)(l:List (Pol.R3×F2))(x:Pol.R3×F2):wsum k (l++[x])=gP k (wsum k l) x:=by unfold wsum;rw[xka];rfl
def k0 (r:Pol.R3):Int:=r.1
def k1 (r:Pol.R3):Int:=r.2.1
def k2 (r:Pol.R3):Int:=r.2.2
def xiw (l:List (Pol.R3×F2)):Tr:=.tup [fT (wsum k0 l),fT (wsum k1 l),fT (wsum k2 l)]
structure WS (rows:List Pol.R3)(ws:List F2):Prop where
 len:rows.length=ws.length
 l100:rows.length≤8
 sm:∀r∈rows,B3k 10 r
 wt:∀w∈ws,Wt w
theorem WS.zip (h:WS rows ws)(hx:x∈rows.zip ws):B3k 10 x.1∧Wt x.2:=by
 obtain⟨a,b⟩:=x
 have:=xkU hx
 exact⟨h.sm a this.1,h.wt b this.2⟩
def mx:TSp:=fun ts KK=>∃(rows:List Pol.R3) (ws:List F2),ts=[.tup (rows.map trR),.tup (ws.map fT)]∧WS rows ws ∧
 ∀a b c D:Int,Sd (wsum k0 (rows.zip ws)) a D→Sd (wsum k1 (rows.zip ws)) b D→Sd (wsum k2 (rows.zip ws)) c D→Bd D→KK (.tup [.lst [.int a,.int b,.int c],.int D])
def xdL:TSp:=fun ts KK=>∃(rows:List Pol.R3) (ws:List F2),ts=[.tup (rows.map trR),.tup (ws.map fT)]∧WS rows ws∧KK (xiw (rows.zip ws))
def nY (a b:F2):Prop:=a.2=1∧b.2=1∧¬(a.1=0∧b.1=0)
def xdT:TSp:=fun ts KK=>∃a b c:F2,ts=[.tup [fT a,fT b,fT c]]∧(0<c.2∧Bd c.2)∧nY a b∧KK (trR (a.1,b.1,c.1.fdiv c.2))
def p7:TSp:=fun ts KK=>∃(rows:List Pol.R3) (ws:List F2),ts=[.tup (rows.map trR),.tup (ws.map fT)]∧WS rows ws∧KK (xiw (rows.zip ws))
theorem rA (f:α→Tr)(g:β→Tr):∀(l:List α) (m:List β),xac (l.map f) (m.map g)=(l.zip m).map fun x=>.tup [f x.1,g x.2]
 | [],_=>rfl
 | _::_,[]=>rfl
 | x::l,y::m=>by show Tr.tup [f x,g y]::xac (l.map f) (m.map g)=_;rw[rA f g l m];rfl
theorem xge (ht:0≤t∧t≤1000000)(hb:1≤b∧b≤1000000):Wt (lfr t b):=by
 have c:=cM (t:=t) (b:=b) (by omega)
 have s:Sd (lfr t b) t b:=by rw[vm (by omega)];exact mq (by omega)
 refine⟨c.1,c.2,?_,gA (by omega) (by unfold Bk;omega) (by unfold Bk;omega)⟩
 refine Int.not_lt.mp fun z=>?_
 have:=s.neg.mp z
 omega
theorem Cop.lfr (c:Cop f):L2.lfr f.1 f.2=f:=Sd.low (xba c.1) c
def rwT (x:Pol.R3×F2):Tr:=.tup [trR x.1,fT x.2]
def sy (x:Pol.R3×F2):Bool := !decide (x.2.1=0)
theorem lW (c:Cop f)(h:Wt x.2)(hz:x.2.1=0):gP k f x=f:=by
 have e:x.2=(0,1):=by
  have g:=h.cop
  rw[hz,Int.gcd_zero_left] at g
  have p:=h.pos
  exact Prod.ext hz (by show x.2.2=1;omega)
 unfold gP
 rw[e]
 have e2:n_ (0,1) (k x.1,1)=(0,1):=by
  unfold n_
  show L2.lfr (0*k x.1) (1*1)=(0,1)
  rw[xjS];decide
 rw[e2]
 unfold rY
 show L2.lfr (f.1*1+0*f.2) (f.2*1)=f
 rw[xjM,xjS,xjk,xjM]
 exact c.lfr
theorem dD (k:Pol.R3→Int)(l:List (Pol.R3×F2))(h:∀x∈l,Wt x.2):wsum k (l.filter sy)=wsum k l:=by
 have go:∀(l:List (Pol.R3×F2)) (f:F2),Cop f→(∀x∈l,Wt x.2)→(l.filter sy).foldl (gP k) f=l.foldl (gP k) f:=fun l=>by
  induction l with
  | nil=>exact fun f c _=>rfl
  | cons x l ih =>
   intro f c h
   have hx:=h x xkG
   have hl:=fun y hy=>h y (xkF x hy)
   have c':Cop (gP k f x):=cM (Pol.pp c.1 (xaO (by have:=hx.pos;show x.2.2*1≠0;omega)))
   by_cases z:x.2.1=0
   ·rw[xj6 (by simp[sy,z]),ih f c hl,xkb,lW c hx z]
   ·rw[xj7 (by simp[sy,z]),xkb,xkb,ih _ c' hl]
 exact go l (0,1) ⟨by decide,by decide⟩ h
theorem xcs (hD:0<D)(hw:0<w):0<D / (Int.gcd D w:Nat)*w∧D ∣ D / (Int.gcd D w:Nat)*w∧w ∣ D / (Int.gcd D w:Nat)*w∧(D / (Int.gcd D w:Nat)*w).natAbs≤(D*w).natAbs:=by
 have g0:(0:Int)<(Int.gcd D w:Nat):=by have:=xju D (show w≠0 by omega);omega
 have dl:=xjr D w
 have dr:=xjs D w
 generalize ((Int.gcd D w:Nat):Int)=g at *
 obtain⟨q,rfl⟩:=dl
 obtain⟨p,rfl⟩:=dr
 rw[Int.mul_ediv_cancel_left q (show g≠0 by omega)]
 have q0:0<q:=Int.pos_of_mul_pos_right hD g0
 refine⟨Pol.pp q0 hw,⟨p,by grind⟩,Int.dvd_mul_left ..,?_⟩
 rw[xjP,xjP (g*q)]
 refine xle _ ?_
 have:1*q≤g*q:=xjH (by omega) (by omega)
 omega
theorem oM (x:α):∀n:Nat,(List.replicate n [x]).flatten=List.replicate n x
 | 0=>rfl
 | n+1=>by rw[xkV,xj_,oM x n];rfl
theorem oK {α:Type}{f:α→Tr}{i n:Nat}{di:DE}{τ:TSt}{KK:TSt→Prop}{l:List α}{w:α}(h:nth τ i=.ow (l.map f))(hn:n<l.length)(hd:∀KK':Tr→Prop,KK' (.int n)→di τ KK')(k:KK (τ.set i (.ow ((l.set n w).map f)))):xhn i di (f w) τ KK:=by
 unfold xhn
 rw[h]
 refine hd _ ?_
 have e:xfZ (l.map f) (f w) (n:Int)=some ((l.set n w).map f):=by
  show(if n<(l.map f).length then some ((l.map f).set n (f w)) else none)=_
  rw[if_pos (by rw[xkr];exact hn),List.map_set]
 show match xfZ (l.map f) (f w) (n:Int) with | some us=>KK (τ.set i (.ow us)) | none=>False
 rw[e]
 exact k
instance (a b:F2):Decidable (nY a b):=by unfold nY;infer_instance
def xaN (l:List (Pol.R3×F2)):Tr:=trR ((wsum k0 l).1,(wsum k1 l).1,(wsum k2 l).1.fdiv (wsum k2 l).2)
def xgt:TSp:=fun ts KK=>∃(rows:List Pol.R3) (ws:List F2),ts=[.tup (rows.map trR),.tup (ws.map fT)]∧WS rows ws∧KK (if nY (wsum k0 (rows.zip ws)) (wsum k1 (rows.zip ws)) then xaN (rows.zip ws) else .non)
theorem WS.bot (H:WS rows ws):0<(wsum k2 (rows.zip ws)).2∧Bd (wsum k2 (rows.zip ws)).2:=by
 have f:=xaZ k2 (rows.zip ws) fun x hx=>⟨(H.zip hx).2.sm,(H.zip hx).1.2⟩
 have:(rows.zip ws).length≤8:=by rw[List.length_zip];have:=H.l100;omega
 exact⟨f.pos,(f.bot.mono (show 1+51*(rows.zip ws).length≤500 by omega)).bd⟩
def wsT (ws:List F2):Tr:=.tup (ws.map fT)
def GW (n:Nat)(ws:List F2):Prop:=ws.length=n∧∀w∈ws,Wt w
end L2
namespace Trn
abbrev D2:=Int×Int
def cr (p q:D2):Int:=p.1*q.2-p.2*q.1
def sc (m:Int)(p:D2):D2:=(m*p.1,m*p.2)
def ad (p q:D2):D2:=(p.1+q.1,p.2+q.2)
def sb (p q:D2):D2:=(p.1-q.1,p.2-q.2)
theorem dW (p:D2):cr p p=0:=by unfold cr;grind
theorem r9 (p q:D2):cr q p = - cr p q:=by unfold cr;grind
def InC (u v x:D2):Prop:=0≤cr u x∧0≤cr x v
end Trn
namespace Trn
def Bx (n:Int)(p:D2):Prop:=(-n≤p.1∧p.1≤n)∧-n≤p.2∧p.2≤n
theorem pH (f l x:D2):x.1*cr f l=cr x l*f.1+cr f x*l.1∧x.2*cr f l=cr x l*f.2+cr f x*l.2:=by
 unfold cr;constructor<;>grind
end Trn
namespace Trn
def gd (p:D2):Int:=(Int.gcd p.1 p.2:Nat)
theorem mz (h:p≠(0,0)):0<gd p:=by
 unfold gd
 have:0<Int.gcd p.1 p.2:=Int.gcd_pos_iff.mpr (by
  by_cases c:p.1=0
  ·exact .inr fun z=>h (Prod.ext c z)
  ·exact .inl c)
 omega
def inS (u v x:D2):Bool:=decide (((0≤cr x v∧cr x v≤cr u v)∧0≤cr u x∧cr u x≤cr u v)∧x≠(0,0))
end Trn
namespace L2
open PySem Trn
def drD (p:D2):Tr:=drT p.1 p.2
theorem xhU (hn:n≤1000000)(hu:Bx n u)(hv:Bx n v):L4 u.1 u.2 v.1 v.2:=by
 unfold Bx at hu hv;unfold L4 L24;omega
theorem xhE (hn:n≤1000000)(hu:Bx n u):Bd u.1∧Bd u.2:=⟨gY (by unfold Bx at hu;omega),gY (by unfold Bx at hu;omega)⟩
theorem _root_.Trn.Bx.mono (h:Bx n u)(hm:n≤m):Bx m u:=by unfold Bx at *;omega
end L2
namespace L2
open PySem Trn
def u6 (rows:List Pol.R3)(i:Nat):Pol.R3:=rows.getD i (0,0,0)
def xH (rows:List Pol.R3)(i:Nat):D2:=((u6 rows i).1,(u6 rows i).2.1)
theorem tL (h:i<rows.length):rows[i]? = some (u6 rows i):=by
 unfold u6
 rw[xkc,xke h];rfl
theorem tG (h:i<rows.length):u6 rows i∈rows:=xkM (tL h)
def zm (rows:List Pol.R3)(n:Nat)(acc:Option Nat)(o:Nat):Option Nat :=
 if 0<cr (xH rows n) (xH rows o) then(match acc with | none=>some o | some m=>if 0<cr (xH rows o) (xH rows m) then some o else some m) else acc
def bE (rows:List Pol.R3)(nums:List Nat)(n:Nat):Option Nat:=nums.foldl (zm rows n) none
theorem aR:∀(nums:List Nat) (acc:Option Nat),(∀m,acc=some m→0<cr (xH rows n) (xH rows m)) →
  (∀m,nums.foldl (zm rows n) acc=some m→0<cr (xH rows n) (xH rows m)∧(m∈nums∨acc=some m))∧((acc≠none∨∃o∈nums,0<cr (xH rows n) (xH rows o))→nums.foldl (zm rows n) acc≠none)
 | [],acc,h=>⟨fun m e=>⟨h m e,.inr e⟩,fun z=>z.elim id fun⟨o,ho,_⟩=>absurd ho (by simp)⟩
 | o::nums,acc,h=>by
  have h':∀m,zm rows n acc o=some m→0<cr (xH rows n) (xH rows m)∧(m=o∨acc=some m):=fun m e=>by
   unfold zm at e
   split at e
   ·rename_i c
    cases acc with
    | none=>cases e;exact⟨c,.inl rfl⟩
    | some k =>
     dsimp only at e
     split at e
     ·cases e;exact⟨c,.inl rfl⟩
     ·cases e;exact⟨h _ rfl,.inr rfl⟩
   ·exact⟨h m e,.inr e⟩
  obtain⟨g1,g2⟩:=aR nums (zm rows n acc o) fun m e=>(h' m e).1
  refine⟨fun m e=>?_,fun z=>g2 ?_⟩
  ·obtain⟨p,q⟩:=g1 m e
   refine⟨p,?_⟩
   rcases q with q | q
   ·exact .inl (xkF _ q)
   ·rcases(h' m q).2 with r | r
    ·exact .inl (by rw[r];exact xkG)
    ·exact .inr r
  ·have keep:acc≠none→zm rows n acc o≠none:=fun a=>by
    unfold zm
    split
    ·cases acc with
     | none=>exact absurd rfl a
     | some k=>dsimp only;split<;>exact fun z=>nomatch z
    ·exact a
   rcases z with z | ⟨o',ho,c⟩
   ·exact .inl (keep z)
   ·rcases xkE.mp ho with rfl | ho
    ·left
     unfold zm
     rw[if_pos c]
     cases acc with
     | none=>exact fun z=>nomatch z
     | some k=>dsimp only;split<;>exact fun z=>nomatch z
    ·exact .inr ⟨o',ho,c⟩
def vb (rows:List Pol.R3)(nums:List Nat):List (Nat×Nat):=nums.filterMap fun n=>(bE rows nums n).map fun m=>(n,m)
theorem ao (h:ij∈vb rows nums):ij.1∈nums∧ij.2∈nums∧0<cr (xH rows ij.1) (xH rows ij.2):=by
 obtain⟨n,hn,e⟩:=xkI.mp h
 cases q:bE rows nums n with
 | none=>rw[q] at e;cases e
 | some m =>
  rw[q] at e;cases e
  obtain⟨p,r⟩:=(aR (rows:=rows) (n:=n) nums none (fun m e=>nomatch e)).1 m q
  exact⟨hn,r.resolve_right (fun z=>nomatch z),p⟩
def xdJ (n i j:Nat)(p q:Int):List Int:=((List.replicate n (0:Int)).set i p).set j q
def wtw (n i j:Nat)(p q T:Int):List F2:=(xdJ n i j p q).map fun m=>lfr m T
def lin (k:Pol.R3→Int)(rows:List Pol.R3)(ns:List Int):Int:=((rows.zip ns).map fun x=>x.2*k x.1).sum
theorem oZ (k:Pol.R3→Int):∀(rows:List Pol.R3) (n:Nat),lin k rows (List.replicate n 0)=0
 | [],n=>by simp[lin]
 | r::rows,0=>by simp[lin]
 | r::rows,n+1=>by
  have:=oZ k rows n
  unfold lin at *
  simp only[xkV,xk4,xkz,List.sum_cons]
  omega
theorem pe (k:Pol.R3→Int):∀(rows:List Pol.R3) (ns:List Int) (i:Nat) (p:Int),i<ns.length→i<rows.length→lin k rows (ns.set i p)=lin k rows ns+(p-ns.getD i 0)*k (u6 rows i)
 | [],_,_,_,_,h=>by simp at h
 | _::_,[],_,_,h,_=>by simp at h
 | r::rows,m::ns,0,p,_,_=>by
  simp only[lin,List.set_cons_zero,xk4,xkz,List.sum_cons,u6,List.getD_cons_zero]
  rw[Int.sub_mul];omega
 | r::rows,m::ns,i+1,p,h1,h2=>by
  have:=pe k rows ns i p (by simpa using h1) (by simpa using h2)
  simp only[lin,List.set_cons_succ,xk4,xkz,List.sum_cons,u6,List.getD_cons_succ] at *
  omega
theorem xfi (k:Pol.R3→Int)(p q:Int)(hi:i<rows.length)(hj:j<rows.length)(ne:i≠j):lin k rows (xdJ rows.length i j p q)=p*k (u6 rows i)+q*k (u6 rows j):=by
 unfold xdJ
 rw[pe k rows _ j q (by simp;omega) hj,pe k rows _ i p (by simp;omega) hi,oZ]
 have e1:(List.replicate rows.length (0:Int)).getD i 0=0:=by rw[xkc,xki,if_pos hi];rfl
 have e2:((List.replicate rows.length (0:Int)).set i p).getD j 0=0:=by
  rw[xkc,xkj ne,xki,if_pos hj];rfl
 rw[e1,e2,Int.sub_zero,Int.sub_zero]
 omega
theorem xgD (hT:0<T):Sd (lfr m T) m T:=by rw[vm hT];exact mq hT
theorem xfF (h:Sd w n D):Sd (n_ w (r,1)) (n*r) D:=by
 refine Sd.lfr (by have:=h.pf;show 0<w.2*1;omega) h.pd ?_ rfl
 have:=h.e
 show w.1*r*D=n*r*(w.2*1)
 grind
theorem xfD (k:Pol.R3→Int)(hT:0<T)(rows:List Pol.R3)(ns:List Int):Sd (wsum k (rows.zip (ns.map fun m=>lfr m T))) (lin k rows ns) T:=by
 have go:∀(rows:List Pol.R3) (ns:List Int) (f:F2) (N:Int),Sd f N T→Sd ((rows.zip (ns.map fun m=>lfr m T)).foldl (gP k) f) (N+lin k rows ns) T:=fun rows=>by
  induction rows with
  | nil=>intro ns f N h;simpa [lin] using h
  | cons r rows ih =>
   intro ns f N h
   cases ns with
   | nil=>simpa [lin] using h
   | cons m ns =>
    have:=ih ns (gP k f (r,lfr m T)) (N+m*k r) (h.plusD (xfF (xgD hT)))
    rw[xkz,xk4,xkb]
    have e:N+lin k (r::rows) (m::ns)=N+m*k r+lin k rows ns:=by
     simp only[lin,xk4,xkz,List.sum_cons];omega
    rw[e];exact this
 have:=go rows ns (0,1) 0 ⟨by decide,hT,by show(0:Int)*T=0*1;omega⟩
 rw[Int.zero_add] at this
 exact this
theorem Sd.floor (h:Sd f N D):f.1 / f.2=N / D:=by
 have e:=h.e
 have a:f.1 / f.2=(f.1*D) / (f.2*D):=(Int.mul_ediv_mul_of_pos_left f.1 f.2 h.pd).symm
 rw[a,e,xjC f.2 D]
 exact Int.mul_ediv_mul_of_pos_left N D h.pf
theorem xaJ (n:Int):Cop (n,1):=⟨by show(0:Int)<1;decide,by show Int.gcd n 1=1;simp⟩
end L2
namespace L2
open PySem PySem.Spec PyProof.Rows
open Builtin.SmallTypes (nextOf)
section
variable {prog:Program} {w:World} {A:Around} {E:Value→Shared→Prop} {s:Shared} {z ti to i1 i2 i3 a1 a2 a3:Addr} {vs us ws:List Value} {t1 t2 t3:Nat→Heap→Prop} {s1 s2 s3:Heap→Prop}
end
end L2
namespace L2
open PySem PySem.Spec PyProof.Rows
section
variable {prog:Program} {w:World} {A:Around} {E:Value→Shared→Prop} {s:Shared}
end
section
variable {P:Program} {w:World} {K:PySem.W.Frag} {z ti to i1 i2 i3 a1 a2 a3:Addr} {b c' e':Bool}
end
section
variable {X:Cx}
end
section
variable {K:PySem.W.Frag}
end
end L2
namespace L2
open PySem PySem.Spec PyProof.Rows
open Builtin.SmallTypes (nextOf)
section
variable {prog:Program} {w:World} {A:Around} {E:Value→Shared→Prop} {s:Shared} {z ti to i1 i2 a1 a2:Addr} {vs us:List Value} {t1 t2:Nat→Heap→Prop} {s1 s2:Heap→Prop}
end
section
variable {P:Program} {w:World} {K:PySem.W.Frag} {z ti to i1 i2 a1 a2:Addr} {b c':Bool}
end
section
variable {X:Cx}
end
end L2
namespace L2
open PySem Trn
theorem bG (nz:x≠(0,0))(c:InC u v x):kU u.1 u.2 v.1 v.2 (drD x)=.tup [xan (cr x v) (cr u v),xan (cr u x) (cr u v)]:=by
 have e1:kU u.1 u.2 v.1 v.2 (drD x)=if x.1=0∧x.2=0 then .non else if tn x.1 x.2 v.1 v.2<0∨tn u.1 u.2 x.1 x.2<0 then .non else .tup [xan (tn x.1 x.2 v.1 v.2) (tn u.1 u.2 v.1 v.2),xan (tn u.1 u.2 x.1 x.2) (tn u.1 u.2 v.1 v.2)]:=rfl
 rw[e1,if_neg (fun z=>nz (Prod.ext z.1 z.2)),if_neg]
 ·rfl
 ·have a:tn x.1 x.2 v.1 v.2=cr x v:=rfl
  have b:tn u.1 u.2 x.1 x.2=cr u x:=rfl
  rw[a,b]
  have:=c.1;have:=c.2
  omega
theorem xfT (hn:n≤1000000)(hu:Bx n u):L24 u.1∧L24 u.2:=by unfold Bx at hu;unfold L24;omega
end L2
namespace L2
open PySem PySem.Spec PySem.Calls PyProof.Rows
section
variable {X:Cx} {pins:List (Addr×Obj)} {σ:St} {H H':Hp} {s s':Shared} {ea C:Addr}
end
end L2
namespace L2
open PySem PySem.Spec PyProof.Rows
section
variable {X:Cx} {a b:Expr} {rest:List Expr} {ta tb:TE} {pos:Pos}
def xie (K:PySem.W.Frag)(ta:TE):TT:=fun σ H Q=>ta σ H fun x H'=>∃k,xhj K x H' k∧Q k H'
theorem xd3 (K:PySem.W.Frag)(ha:PE X a ta)(he:∀whole,isTrue a X.env whole=(do let v ←whole;standAt a.pos;holding [v] (truthy v)):=by exact fun _=>rfl)(e:X.K=K:=by rfl):PT X a (xie K ta):=by
 subst e
 exact xcZ ha he
end
def trT:Tr→Option Bool
 | .non=>some false
 | .bl b=>some b
 | .int i=>some (i != 0)
 | .tup ts=>some (!ts.isEmpty)
 | .lst ts=>some (!ts.isEmpty)
 | .emp=>some false
 | .str _=>none
section
variable {K:PySem.W.Frag} {fr:Bool}
theorem ai (h:zi F H ts ws):(!ts.isEmpty) = !ws.isEmpty:=by
 have:=h.len
 cases ts<;>cases ws<;>simp_all
theorem xeL (r:Rep F H t v)(h:trT t=some k):xhj K v H k:=by
 cases t with
 | non=>cases (show v=.non from r);cases h;rfl
 | bl b=>cases (show v=.bl b from r);cases h;rfl
 | int i=>cases (show v=.int i from r);cases h;rfl
 | str x=>cases h
 | emp=>obtain⟨p,e,_,hp⟩:=r;subst e;cases h;exact .inr (.inr ⟨[],hp,rfl⟩)
 | tup ts=>obtain⟨p,ws,e,_,hp,rl⟩:=r;subst e;cases h;exact .inr (.inl ⟨ws,SqT.of hp,ai rl⟩)
 | lst ts=>obtain⟨p,ws,e,_,hp,rl⟩:=r;subst e;cases h;exact .inl ⟨ws,SqL.of hp,ai rl⟩
def xi5 (d:DE):DT:=fun τ KK=>d τ fun x=>match trT x with | some k=>KK k | none=>False
theorem xaV (h:OkE K b te d):OkT K (xie K te) (xi5 d):=fun B φ σ τ H Q KK R hd q =>
 h B φ σ τ H _ _ R hd fun t v H1 x1 k1 r1=>by
  split at k1
  ·rename_i k e
   exact⟨k,xeL r1 e,q _ H1 x1 k1⟩
  ·exact k1.elim
end
section
variable {P:Program} {w:World} {K:PySem.W.Frag} {mg:Str→Option Value} {base:Heap} {k n:Nat} {x qual:Str} {st:Stmt} {f:Addr} {fd:FuncData} {N ps:List Str} {fr:Bool} {sp:TSp}
end
end L2
namespace L2
open PySem
theorem sY.ws {rows:List Pol.R3}{ws:List F2}(hf:xq rows=true)(h:GW rows.length ws):WS rows ws:=⟨h.1.symm,(sY hf).1.2,fun r hr=>uh ((sY hf).2.1 r hr).2,h.2⟩
def xdZ:TSp:=fun ts KK=>∃t,ts=[t]∧KK (.bl (lu t))
end L2
namespace Pol
def sw (p:R3):R3:=(p.2.1,p.1,p.2.2)
end Pol
namespace L2
open PySem PySem.Spec PyProof.Rows
structure PSd (p:P2)(v:Pol.R3):Prop where
 x:Sd p.1 v.1 v.2.2
 y:Sd p.2 v.2.1 v.2.2
theorem xeQ (h:0<v.2.2):PSd (plc v) v:=⟨sdx h,sdy h⟩
theorem PSd.val (h:PSd p v)(r:Pol.R3):Sd (qo r p) (r.1*v.1+r.2.1*v.2.1) v.2.2:=by
 refine Sd.lfr (Pol.pp h.x.pf h.y.pf) h.x.pd ?_ rfl
 have:=h.x.e;have:=h.y.e
 grind
theorem mw {f g h:F2}(pf:0<f.2)(pg:0<g.2)(ph:0<h.2)(h1:f.1*g.2≤g.1*f.2)(h2:g.1*h.2≤h.1*g.2):f.1*h.2≤h.1*f.2:=by
 have e1:(f.1*g.2)*h.2≤(g.1*f.2)*h.2:=xjH h1 (by omega)
 have e2:(g.1*h.2)*f.2≤(h.1*g.2)*f.2:=xjH h2 (by omega)
 have e3:(f.1*h.2)*g.2≤(h.1*f.2)*g.2:=by
  have:(f.1*g.2)*h.2=(f.1*h.2)*g.2:=by grind
  have:(g.1*f.2)*h.2=(g.1*h.2)*f.2:=by grind
  have:(h.1*g.2)*f.2=(h.1*f.2)*g.2:=by grind
  omega
 exact xjx e3 pg
theorem nq:∃h,ka a b best p=some h∧(qo (a,b,0) p).1*h.2≤h.1*(qo (a,b,0) p).2∧∀g,best=some g→g.1*h.2≤h.1*g.2:=by
 cases best with
 | none=>exact⟨_,rfl,xjy _,fun g z=>nomatch z⟩
 | some f =>
  cases d:uF f (qo (a,b,0) p) with
  | true =>
   refine⟨_,xdQ d,xjy _,fun g z=>?_⟩
   cases z
   have:=xlr d
   omega
  | false =>
   refine⟨_,xgk d,?_,fun g z=>?_⟩
   ·have:=xlq d
    omega
   ·cases z;exact xjy _
theorem xbF {a b:Int}(ps:List P2)(hp:∀p∈ps,0<p.1.2∧0<p.2.2):∀(best:Option F2) (f:F2),(∀g,best=some g→0<g.2)→ps.foldl (ka a b) best=some f→(∀g,best=some g→g.1*f.2≤f.1*g.2)∧∀p∈ps,(qo (a,b,0) p).1*f.2≤f.1*(qo (a,b,0) p).2:=by
 induction ps with
 | nil =>
  intro best f hb h
  refine⟨fun g hg=>?_,fun p hp=>by simp at hp⟩
  have h:best=some f:=h
  rw[h] at hg;cases hg;exact xjy _
 | cons p ps ih =>
  intro best f hb h
  obtain⟨s,hs,h1,h2⟩:=nq (a:=a) (b:=b) (best:=best) (p:=p)
  rw[xkb,hs] at h
  have pp:=og (a:=a) (b:=b) (c:=0) (hp p xkG)
  have sp:0<s.2:=by
   rcases dP hs with q | q
   ·exact hb s q
   ·rw[q];exact pp
  have fp:0<f.2:=by
   rcases j1 ps (some s) h with q | ⟨p',hm,e⟩
   ·cases q;exact sp
   ·rw[e];exact og (hp p' (xkF _ hm))
  obtain⟨k1,k2⟩:=ih (fun q hq=>hp q (xkF _ hq)) (some s) f (fun g hg=>by cases hg;exact sp) h
  have k1:=k1 s rfl
  refine⟨fun g hg=>mw (hb g hg) sp fp (h2 g hg) k1,fun q hq=>?_⟩
  rcases xkE.mp hq with e | hq
  ·rw[e];exact mw pp sp fp h1 k1
  ·exact k2 q hq
theorem lB (h:0<v.2.2):fK r (plc v)=true↔Pol.val r v=0:=by
 unfold fK
 rw[xlo]
 have s:=(xeQ h).val r
 have e:=s.eq (xba (f:=(r.2.2,1)) (by show(0:Int)<1;decide))
 simp only[xjM] at e
 rw[e]
 unfold Pol.val
 omega
section
variable {rows:List Pol.R3} (FR:wG rows) {r v:Pol.R3} (hr:r∈rows) (hv:v∈wd rows) (ht:fK r (plc v)=true)
include FR hr
include hv ht
end
end L2
namespace L2
open PySem Trn
abbrev SX:=(Nat×Nat)×D2
def kR (rows:List Pol.R3)(x:SX):List F2:=wtw rows.length x.1.1 x.1.2 (cr x.2 (xH rows x.1.2)) (cr (xH rows x.1.1) x.2) (cr (xH rows x.1.1) (xH rows x.1.2))
def xcf (rows:List Pol.R3)(x:SX):Pol.R3:=((wsum k0 (rows.zip (kR rows x))).1,(wsum k1 (rows.zip (kR rows x))).1,(wsum k2 (rows.zip (kR rows x))).1.fdiv (wsum k2 (rows.zip (kR rows x))).2)
def xe6 (rows:List Pol.R3)(x:SX):Tr:=.tup [wsT (kR rows x),trR (xcf rows x)]
structure uq (rows:List Pol.R3)(x:SX):Prop where
 i1:x.1.1<rows.length
 i2:x.1.2<rows.length
 pos:0<cr (xH rows x.1.1) (xH rows x.1.2)
 inc:InC (xH rows x.1.1) (xH rows x.1.2) x.2
 nz:x.2≠(0,0)
 bx:Bx 1000 x.2
theorem ku (hf:xq rows=true)(h:i<rows.length):Bx 30 (xH rows i):=by
 obtain⟨⟨a,b⟩,_⟩:=((sY hf).2.1 _ (tG h)).2
 exact⟨a,b⟩
theorem uq.ne (G:uq rows x):x.1.1≠x.1.2:=fun e=>by
 have:=G.pos
 rw[e,dW] at this
 omega
theorem xdb (h:m∈xdJ n i j p q):m=0∨m=p∨m=q:=by
 unfold xdJ at h
 rcases List.mem_or_eq_of_mem_set h with h | h
 ·rcases List.mem_or_eq_of_mem_set h with h | h
  ·exact .inl (List.mem_replicate.mp h).2
  ·exact .inr (.inl h)
 ·exact .inr (.inr h)
theorem rK (hu:Bx 30 u)(hv:Bx 1000 v):-60000≤cr u v∧cr u v≤60000:=by
 have go:∀ {a b:Int},(-30≤a∧a≤30)→(-1000≤b∧b≤1000)→-30000≤a*b∧a*b≤30000:=fun {a b} ha hb=>by
  have h1:(a*b).natAbs≤30*1000:=by
   rw[xjP]
   exact Nat.mul_le_mul (by omega) (by omega)
  omega
 have:=go hu.1 hv.2
 have:=go hu.2 hv.1
 unfold cr
 omega
theorem uq.sm (hf:xq rows=true)(G:uq rows x):(cr x.2 (xH rows x.1.2)≤60000∧cr (xH rows x.1.1) x.2≤60000)∧cr (xH rows x.1.1) (xH rows x.1.2)≤60000:=by
 have a:=rK (ku hf G.i2) G.bx
 have b:=rK (ku hf G.i1) G.bx
 have c:=rK (ku hf G.i1) ((ku hf G.i2).mono (by decide))
 rw[r9] at a
 omega
theorem uq.gw (hf:xq rows=true)(G:uq rows x):GW rows.length (kR rows x):=by
 refine⟨by simp[kR,wtw,xdJ],fun w hw=>?_⟩
 obtain⟨m,hm,rfl⟩:=xkK.mp hw
 have S:=G.sm hf
 have p:=G.pos
 have i:=G.inc
 refine xge ?_ (by omega)
 unfold InC at i
 rcases xdb hm with rfl | rfl | rfl<;>omega
theorem uq.lin (G:uq rows x)(k:Pol.R3→Int):Sd (wsum k (rows.zip (kR rows x))) (cr x.2 (xH rows x.1.2)*k (u6 rows x.1.1)+cr (xH rows x.1.1) x.2*k (u6 rows x.1.2)) (cr (xH rows x.1.1) (xH rows x.1.2)):=by
 have:=xfD k G.pos rows (xdJ rows.length x.1.1 x.1.2 (cr x.2 (xH rows x.1.2)) (cr (xH rows x.1.1) x.2))
 rw[xfi k _ _ G.i1 G.i2 G.ne] at this
 exact this
theorem oC (h:Sd f (n*T) T)(c:Cop f):f=(n,1):=by
 have a:=h.low c
 have b:=(⟨Int.zero_lt_one,h.pd,by show n*T=n*T*1;omega⟩:Sd (n,1) (n*T) T).low (xaJ n)
 rw[←a,b]
theorem uq.pos2 (hf:xq rows=true)(G:uq rows x):∀y∈rows.zip (kR rows x),0<y.2.2:=fun y hy=>((G.gw hf).2 _ (xkU hy).2).pos
theorem uq.a (hf:xq rows=true)(G:uq rows x):wsum k0 (rows.zip (kR rows x))=(x.2.1,1):=by
 refine oC (T:=cr (xH rows x.1.1) (xH rows x.1.2)) ?_ (rX _ _ (G.pos2 hf))
 have:=G.lin k0
 have e:=(pH (xH rows x.1.1) (xH rows x.1.2) x.2).1
 rw[e];exact this
theorem uq.b {rows:List Pol.R3}{x:SX}(hf:xq rows=true)(G:uq rows x):wsum k1 (rows.zip (kR rows x))=(x.2.2,1):=by
 refine oC (T:=cr (xH rows x.1.1) (xH rows x.1.2)) ?_ (rX _ _ (G.pos2 hf))
 have:=G.lin k1
 have e:=(pH (xH rows x.1.1) (xH rows x.1.2) x.2).2
 rw[e];exact this
theorem uq.cut (hf:xq rows=true)(G:uq rows x):nY (wsum k0 (rows.zip (kR rows x))) (wsum k1 (rows.zip (kR rows x))):=by
 rw[G.a hf,G.b hf]
 exact⟨rfl,rfl,fun z=>G.nz (Prod.ext z.1 z.2)⟩
theorem gZ (hz:0<v.2.2):i∈tV rows (plc v)↔i<rows.length∧Pol.val (u6 rows i) v=0:=by
 unfold tV
 rw[xkH,xkO]
 exact and_congr_right fun _=>lB hz
theorem cB (h:i∈tV rows p):i<rows.length:=xkO.mp (xkH.mp h).1
theorem sF {rows:List Pol.R3}{i:Nat}(h:i<rows.length):atT (rows.map trR) (i:Int)=some (trR (u6 rows i)):=by rw[dR,xkh,tL h];rfl
theorem sY.bd {rows:List Pol.R3}(hf:xq rows=true){i:Nat}(h:i<rows.length):Bd (u6 rows i).1∧Bd (u6 rows i).2.1:=xhE (n:=30) (by decide) (ku hf h)
theorem oS:(tV rows p).length≤rows.length:=by
 have:=xkq (fun i=>fK (rows.getD i (0,0,0)) p) (List.range rows.length)
 rw[List.length_range] at this
 exact this
theorem l_:(vb rows nums).length≤nums.length:=List.length_filterMap_le _ _
theorem bz {rows:List Pol.R3}{nums:List Nat}{i n:Nat}(h:nums[i]? = some n)(F:Nat→Option (Nat×Nat)):(nums.take (i+1)).filterMap F=(nums.take i).filterMap F++(F n).toList:=by
 rw[xk3,h,List.filterMap_append]
 cases e:F n<;>simp[e]
theorem sY.b200 {rows:List Pol.R3}(hf:xq rows=true):∀r∈rows,B3k 200 r:=fun r hr=>(uh ((sY hf).2.1 r hr).2).mono (by decide)
theorem xcn (h:0<T):lfr 0 T=(0,1):=(⟨Int.zero_lt_one,h,by show(0:Int)*T=0*1;omega⟩:Sd (0,1) 0 T).low (xaJ 0)
theorem xdS (h:0<T):wtw n i j p q T=((List.replicate n ((0:Int),(1:Int))).set i (lfr p T)).set j (lfr q T):=by
 unfold wtw xdJ
 rw[List.map_set,List.map_set,List.map_replicate,xcn h]
theorem xbV (h:d t τ fun τ'=>r us τ' KK):cj d r (t::us) τ KK:=h
theorem Wt.isFr (h:Wt w):lu (fT w)=true:=by
 show(decide (1≤w.2)&&decide (Int.gcd w.1 w.2=1))=true
 rw[xln (show 1≤w.2 by have:=h.pos;omega),xln h.cop];rfl
def jr (ij:Nat×Nat):Tr:=.tup [n6 ij.1,n6 ij.2]
def optN:Option Nat→Tr
 | none=>.non
 | some m=>n6 m
def nU:TSp:=fun ts KK=>∃(rows:List Pol.R3) (nums:List Nat) (n:Nat),ts=[.tup (rows.map trR),.tup (nums.map n6),n6 n]∧xq rows=true∧(∀m∈nums,m<rows.length)∧n<rows.length∧KK (optN (bE rows nums n))
def fF:TSp:=fun ts KK=>∃(rows:List Pol.R3) (nums:List Nat),ts=[.tup (rows.map trR),.tup (nums.map n6)]∧xq rows=true∧(∀m∈nums,m<rows.length)∧nums.length≤1000∧KK (.lst ((vb rows nums).map jr))
def ou:TSp:=fun ts KK=>∃(rows:List Pol.R3) (p:P2),ts=[.tup (rows.map trR),pT p]∧xq rows=true∧Pk 600 p∧KK (.lst ((vb rows (tV rows p)).map jr))
def xej:TSp:=fun ts KK=>∃(a b:Int) (x:List Tr),ts=[.tup (.int a::.int b::x)]∧KK (drT a b)
def oD:TSp:=fun ts KK=>∃(rows:List Pol.R3) (ws:List F2),ts=[.tup (rows.map trR),wsT ws]∧WS rows ws∧nY (wsum k0 (rows.zip ws)) (wsum k1 (rows.zip ws))∧KK (.tup [wsT ws,xaN (rows.zip ws)])
end L2
namespace Pol
theorem nS:∀l:List R3,l≠[]→(∀r∈l,0<turn r d)→∃i∈l,∀r∈l,turn i r≤0
 | [],h,_=>absurd rfl h
 | x::l,_,h=>by
  by_cases e:l=[]
  ·subst e
   exact⟨x,xkG,fun r hr=>by rw[xkP.mp hr];simp only[turn];grind⟩
  obtain⟨i,hi,hm⟩:=nS l e fun r hr=>h r (xkF _ hr)
  have self:turn x x≤0:=by simp only[turn];grind
  by_cases c:turn i x≤0
  ·exact⟨i,xkF _ hi,fun r hr=>(xkE.mp hr).elim (fun z=>by rw[z];exact c) (hm r)⟩
  ·refine⟨x,xkG,fun r hr=>(xkE.mp hr).elim (fun z=>by rw[z];exact self) fun hr=>?_⟩
   have p:=plk i x r d
   have hx:=h x xkG
   have hi':=h i (xkF _ hi)
   have hr':=h r (xkF _ hr)
   have a:0≤turn i x*turn r d:=pz (by omega) (by omega)
   have b:0≤-turn i r*turn x d:=pz (by have:=hm r hr;omega) (by omega)
   rw[Int.neg_mul] at b
   exact xd2 hi' (by omega)
theorem lJ (gr:GR rows)(d0:d.1≠0∨d.2.1≠0)(hd:∀r∈rows,turn r d≠0)(r0:∀r∈rows,r.1≠0∨r.2.1≠0):∃i∈rows,∃j∈rows,0<turn i j∧0<turn i d∧0<turn d j:=by
 obtain⟨x,hx,px⟩:=gr d.2.1 (-d.1) (by omega)
 have ex:0<turn x d:=by simp only[turn];rw[xjJ] at px;omega
 obtain⟨i,hi,hm⟩:=nS (d:=d) (rows.filter fun r=>decide (0<turn r d)) (fun z=>by have:x∈rows.filter fun r=>decide (0<turn r d):=xkH.mpr ⟨hx,xln ex⟩;rw[z] at this;simp at this) fun r hr=>xlr (xkH.mp hr).2
 obtain⟨hi,pi⟩:=xkH.mp hi
 have pi:=xlr pi
 obtain⟨j,hj,pj⟩:=gr (-i.2.1) i.1 (by have:=r0 i hi;omega)
 have ej:0<turn i j:=by simp only[turn];rw[xjJ,xjC j.1,xjC j.2.1] at pj;omega
 refine⟨i,hi,j,hj,ej,pi,?_⟩
 have n:=hd j hj
 have a:=xfI d j
 rcases xjA 0 (turn j d) with c | c
 ·have:=hm j (xkH.mpr ⟨hj,xln c⟩)
  omega
 ·omega
theorem xdB (N T:α→Int):∀l:List α,l≠[]→(∀x∈l,0<T x)→∃m∈l,∀x∈l,N m*T x≤N x*T m
 | [],h,_=>absurd rfl h
 | x::l,_,h=>by
  by_cases e:l=[]
  ·subst e
   exact⟨x,xkG,fun r hr=>by rw[xkP.mp hr];exact xjy _⟩
  obtain⟨m,hm,hl⟩:=xdB N T l e fun r hr=>h r (xkF _ hr)
  by_cases c:N m*T x≤N x*T m
  ·exact⟨m,xkF _ hm,fun r hr=>(xkE.mp hr).elim (fun z=>by rw[z];exact c) (hl r)⟩
  ·refine⟨x,xkG,fun r hr=>(xkE.mp hr).elim (fun z=>by rw[z];exact xjy _) fun hr=>?_⟩
   have tx:=h x xkG
   have tm:=h m (xkF _ hm)
   have tr:=h r (xkF _ hr)
   have a:=hl r hr
   have b:N x*T m*T r≤N m*T x*T r:=xjH (by omega) (by omega)
   have c':N m*T r*T x≤N r*T m*T x:=xjH a (by omega)
   refine xjx (a:=T m) ?_ tm
   have e1:N x*T m*T r=N x*T r*T m:=by grind
   have e2:N m*T x*T r=N m*T r*T x:=by grind
   have e3:N r*T m*T x=N r*T x*T m:=by grind
   omega
def dN (d i j:R3):Int:=turn d j*i.2.2+turn i d*j.2.2
theorem dI (h:0<turn i j):yh i j=(i.2.2*j.2.1-i.2.1*j.2.2,i.1*j.2.2-i.2.2*j.1,turn i j):=by
 unfold yh
 rw[if_neg (by omega)]
theorem xiW (h:0<turn i j):dN d i j*turn k j-dN d k j*turn i j=turn d j*val k (yh i j):=by
 rw[dI h]
 simp only[dN,turn,val]
 grind
theorem xje (h:0<turn i j):dN d i j*turn i k-dN d i k*turn i j=turn i d*val k (yh i j):=by
 rw[dI h]
 simp only[dN,turn,val]
 grind
theorem xe0 (h:0<turn i j):turn i j*val k w=turn k j*val i w+turn i k*val j w+w.2.2*val k (yh i j):=by
 rw[dI h]
 simp only[turn,val]
 grind
theorem c7 (gr:GR rows)(d0:d.1≠0∨d.2.1≠0)(hd:∀r∈rows,turn r d≠0)(r0:∀r∈rows,r.1≠0∨r.2.1≠0)(hw:0<w.2.2)(kw:∀r∈rows,val r w≤0):∃i∈rows,∃j∈rows,(0<turn i j∧0<turn i d∧0<turn d j)∧∀r∈rows,val r (yh i j)≤0:=by
 obtain⟨i,hi,j,hj,hp⟩:=lJ gr d0 hd r0
 let P:=(rows.flatMap fun i=>rows.map fun j=>(i,j)).filter fun p=>decide (0<turn p.1 p.2∧0<turn p.1 d∧0<turn d p.2)
 have mP:∀p:R3×R3,p∈P↔(p.1∈rows∧p.2∈rows)∧(0<turn p.1 p.2∧0<turn p.1 d∧0<turn d p.2):=fun p=>by
  show p∈List.filter _ _↔_
  rw[xkH,xlo,List.mem_flatMap]
  refine and_congr_left fun _=>⟨fun⟨a,ha,hm⟩=>?_,fun⟨a,b⟩=>⟨p.1,a,xkK.mpr ⟨p.2,b,rfl⟩⟩⟩
  obtain⟨b,hb,rfl⟩:=xkK.mp hm
  exact⟨ha,hb⟩
 obtain⟨m,hm,hmin⟩:=xdB (fun p:R3×R3=>dN d p.1 p.2) (fun p=>turn p.1 p.2) P (fun z=>by have:=(mP (i,j)).mpr ⟨⟨hi,hj⟩,hp⟩;rw[z] at this;simp at this) fun x hx=>((mP x).mp hx).2.1
 obtain⟨⟨mi,mj⟩,t1,t2,t3⟩:=(mP m).mp hm
 obtain⟨i,j⟩:=m
 refine⟨i,mi,j,mj,⟨t1,t2,t3⟩,fun k hk=>?_⟩
 simp only at *
 refine xjj fun no=>?_
 have no:0<val k (yh i j):=by omega
 have id:turn k d*turn i j=turn k j*turn i d-turn i k*turn d j:=by simp only[turn];grind
 have nd:=hd k hk
 have ad:=xfI d k
 have byJ:0<turn k j→0<turn k d→False:=fun a b=>by
  have:=hmin (k,j) ((mP _).mpr ⟨⟨hk,mj⟩,a,b,t3⟩)
  have e:=xiW (d:=d) (k:=k) t1
  have:=pp t3 no
  simp only at *
  omega
 have byI:0<turn i k→turn k d<0→False:=fun a b=>by
  have:=hmin (i,k) ((mP _).mpr ⟨⟨mi,hk⟩,a,t2,show 0<turn d k by omega⟩)
  have e:=xje (d:=d) (k:=k) t1
  have:=pp t2 no
  simp only at *
  omega
 by_cases t:0<turn k j
 ·rcases xjA 0 (turn k d) with c | c
  ·exact byJ t c
  ·by_cases s:0<turn i k
   ·exact byI s (by omega)
   ·have a:=pp t t2
    have b:0≤-turn i k*turn d j:=pz (by omega) (by omega)
    rw[Int.neg_mul] at b
    have:turn k d*turn i j≤0:=by
     have:=pz (a:=-turn k d) (b:=turn i j) (by omega) (by omega)
     rw[Int.neg_mul] at this
     omega
    omega
 ·by_cases s:0<turn i k
  ·refine byI s ?_
   rcases xjA (turn k d) 0 with c | c
   ·exact c
   ·have a:=pp s t3
    have b:0≤-turn k j*turn i d:=pz (by omega) (by omega)
    rw[Int.neg_mul] at b
    have:=pz (a:=turn k d) (b:=turn i j) (by omega) (by omega)
    omega
  ·have e:=xe0 (k:=k) (w:=w) t1
   have a:0≤turn k j*val i w:=nn (by omega) (kw i mi)
   have b:0≤turn i k*val j w:=nn (by omega) (kw j mj)
   have c:=pp hw no
   have:=kw k hk
   have:turn i j*val k w≤0:=by
    have:=pz (a:=turn i j) (b:=-val k w) (by omega) (by omega)
    rw[xjJ] at this
    omega
   omega
theorem xed (f:R3→Int):∀l:List R3,∃M:Int,0<M∧∀r∈l,f r<M∧-M<f r
 | []=>⟨1,by decide,fun r h=>by simp at h⟩
 | x::l=>by
  obtain⟨M,h0,h⟩:=xed f l
  refine⟨M+(f x).natAbs,by omega,fun r hr=>?_⟩
  rcases xkE.mp hr with rfl | hr
  ·omega
  ·have:=h r hr;omega
theorem lN (gr:GR rows)(d0:d.1≠0∨d.2.1≠0)(r0:∀r∈rows,r.1≠0∨r.2.1≠0)(hw:0<w.2.2)(kw:∀r∈rows,val r w≤0):∃i∈rows,∃j∈rows,(0<turn i j∧0≤turn i d∧0≤turn d j)∧∀r∈rows,val r (yh i j)≤0:=by
 obtain⟨M,h0,hM⟩:=xed (fun r=>dot r d) rows
 have tr:∀r:R3,turn r (M*d.1-d.2.1,M*d.2.1+d.1,0)=M*turn r d+dot r d:=fun r=>by simp only[turn,dot];grind
 have step:∀r∈rows,(0<M*turn r d+dot r d→0≤turn r d)∧(M*turn r d+dot r d<0→turn r d≤0):=fun r hr=>by
  have b:=hM r hr
  refine⟨fun z=>?_,fun z=>?_⟩
  ·rcases xjA (turn r d) 0 with c | c
   ·have:M*turn r d≤M*(-1):=xjG (by omega) (by omega)
    omega
   ·exact c
  ·rcases xjA 0 (turn r d) with c | c
   ·have:M*1≤M*turn r d:=xjG (by omega) (by omega)
    omega
   ·exact c
 have nz:∀r∈rows,turn r (M*d.1-d.2.1,M*d.2.1+d.1,0)≠0:=fun r hr z=>by
  rw[tr] at z
  have b:=hM r hr
  have t0:turn r d=0:=by
   rcases xjB (turn r d) 0 with c | c | c
   ·have:M*turn r d≤M*(-1):=xjG (by omega) (by omega)
    omega
   ·exact c
   ·have:M*1≤M*turn r d:=xjG (by omega) (by omega)
    omega
  rw[t0,xjO,Int.zero_add] at z
  have e:dot r r*dot d d=dot r d*dot r d+turn r d*turn r d:=by simp only[turn,dot];grind
  rw[z,t0] at e
  have:=pp (mS (r0 r hr)) (mS d0)
  omega
 have d1:(M*d.1-d.2.1≠0∨M*d.2.1+d.1≠0):=by
  refine xjj fun no=>?_
  have e1:M*d.1=d.2.1:=by omega
  have e2:M*d.2.1 = -d.1:=by omega
  have:=mS d0
  have z:dot d d=0:=by
   have:dot d d=d.1*d.1+(M*d.1)*(M*d.1):=by unfold dot;rw[e1]
   have q:M*(M*d.1) = -d.1:=by rw[e1];exact e2
   have:(M*M+1)*d.1=0:=by grind
   rcases xjF.mp this with y | y
   ·have:=sq0 M;omega
   ·unfold dot;rw[←e1,y];simp
  omega
 obtain⟨i,hi,j,hj,⟨t1,t2,t3⟩,k⟩:=c7 (d:=(M*d.1-d.2.1,M*d.2.1+d.1,0)) gr d1 nz r0 hw kw
 refine⟨i,hi,j,hj,⟨t1,(step i hi).1 (by rw[←tr];exact t2),?_⟩,k⟩
 have a:=xfI j (M*d.1-d.2.1,M*d.2.1+d.1,0)
 rw[a,tr] at t3
 have:=(step j hj).2 (by omega)
 have:=xfI j d
 omega
end Pol
namespace L2
open PySem PySem.Spec PyProof.Rows
abbrev two (elt t1 i1:Expr)(f1:List Expr)(t2 i2:Expr)(f2:List Expr)(sc:Scope)(pos:Pos):Expr:=.ListComp elt [⟨t1,i1,f1,0⟩,⟨t2,i2,f2,0⟩] sc pos
theorem rJ (elt t1 i1:Expr)(f1:List Expr)(t2 i2:Expr)(f2:List Expr)(sc:Scope)(pos:Pos)(it acc:Value)(env:Env) :
  compTurn (two elt t1 i1 f1 t2 i2 f2 sc pos) 0 it acc env=(do
   standAt i1.pos
   match ←pyNext it with
   | none=>pure (.done .next)
   | some v =>
    letOwnedTupleGo t1 it v
    assign t1 env v
    let mut ok:=true
    for c in f1 do
     if ok then ok ←isTrue c env (eval c env)
    if ok then
     let x ←eval i2 env
     standAt i2.pos
     let x ←foldedSetIterable i2 env x
     let _ ←runOwn (.compStart (two elt t1 i1 f1 t2 i2 f2 sc pos) 1 (←holding [x] (pyIter x)) acc env) env
    again (.compLoop (two elt t1 i1 f1 t2 i2 f2 sc pos) 0 it acc env)):=by rfl
theorem rM (elt t1 i1:Expr)(f1:List Expr)(t2 i2:Expr)(f2:List Expr)(sc:Scope)(pos:Pos)(it acc:Value)(env:Env) :
  compTurn (two elt t1 i1 f1 t2 i2 f2 sc pos) 1 it acc env=(do
   standAt i2.pos
   match ←pyNext it with
   | none=>pure (.done .next)
   | some v =>
    letOwnedTupleGo t2 it v
    assign t2 env v
    let mut ok:=true
    for c in f2 do
     if ok then ok ←isTrue c env (eval c env)
    if ok then
     (do let _ ←call (.builtin "list.append") [acc,←eval elt env])
    again (.compLoop (two elt t1 i1 f1 t2 i2 f2 sc pos) 1 it acc env)):=by rfl
section
variable {prog:Program} {w:World} {A:Around} {R:Result→Shared→Prop} {s:Shared} {elt t1 i1 t2 i2:Expr} {f1 f2:List Expr} {sc:Scope} {pos:Pos} {it acc:Value} {env:Env}
theorem xb6 (I:Nat→Shared→Prop)
  (turn:∀n s,I n s→wpAny (model prog w) A (pyNext it) (fun r s₁=>match r with
   | none=>R (.ok .next) s₁
   | some v=>wpAny (model prog w) A (letOwnedTupleGo t2 it v) (fun _ s₀=>wpAny (model prog w) A (assign t2 env v) (fun _ s₂ =>
     wpAny (model prog w) A (forIn f2 true fun c r=>if r=true then do let ok ←isTrue c env (eval c env);pure (ForInStep.yield ok) else pure (ForInStep.yield r)) (fun ok s₃ =>
      if ok=true then wpAny (model prog w) A (eval elt env) (fun x s₄ =>
       wpAny (model prog w) A (call (.builtin "list.append") [acc,x]) (fun _ s₅=>∃m,m<n∧I m s₅) (fun _ _=>False) s₄) (fun _ _=>False) s₃
      else ∃m,m<n∧I m s₃) (fun _ _=>False) s₂) (fun _ _=>False) s₀) (fun _ _=>False) s₁) (fun _ _=>False) s)
  (n:Nat) (h:I n s) :
  codeAny (model prog w) A (.compLoop (two elt t1 i1 f1 t2 i2 f2 sc pos) 1 it acc env) R s:=by
 refine codeAny_loop rfl I (fun n s hI=>?_) n h
 show wpAny _ A ((compTurn (two elt t1 i1 f1 t2 i2 f2 sc pos) 1 it acc env).onRaise (fun x=>do noteFrame x env;theTreesLotGoes x)) _ _ s
 refine wpAny_noted ?_
 rw[rM]
 refine wpAny_bind (wpAny_standAt (wpAny_bind (wpAny_mono (turn n s hI) (fun r s₁ h₁=>?_) fun _ _ h'=>h'.elim)))
 cases r with
 | none=>exact wpAny_pure h₁
 | some v =>
  refine wpAny_bind (wpAny_mono h₁ (fun _ s₀ h₀=>?_) fun _ _ h'=>h'.elim)
  refine wpAny_bind (wpAny_mono h₀ (fun _ s₂ h₂=>wpAny_bind (wpAny_mono h₂ (fun ok s₃ h₃=>?_) fun _ _ h'=>h'.elim)) fun _ _ h'=>h'.elim)
  cases ok with
  | false=>exact wpAny_pure ⟨rfl,h₃⟩
  | true =>
   exact wpAny_bind (wpAny_bind (wpAny_mono h₃ (fun x s₄ h₄=>wpAny_bind (wpAny_mono h₄ (fun _ s₅ h₅=>wpAny_pure (wpAny_pure ⟨rfl,h₅⟩)) fun _ _ h'=>h'.elim)) fun _ _ h'=>h'.elim))
theorem xbM (hs:∀x,foldedSetIterable i2 env x=pure x)(I:Nat→Shared→Prop)
  (turn:∀n s,I n s→wpAny (model prog w) A (pyNext it) (fun r s₁=>match r with
   | none=>R (.ok .next) s₁
   | some v=>wpAny (model prog w) A (letOwnedTupleGo t1 it v) (fun _ s₀=>wpAny (model prog w) A (assign t1 env v) (fun _ s₂ =>
     wpAny (model prog w) A (forIn f1 true fun c r=>if r=true then do let ok ←isTrue c env (eval c env);pure (ForInStep.yield ok) else pure (ForInStep.yield r)) (fun ok s₃ =>
      if ok=true then wpAny (model prog w) A (eval i2 env) (fun x s₄=>wpAny (model prog w) A (pyIter x) (fun it2 s₅ =>
       codeAny (model prog w) A (.compStart (two elt t1 i1 f1 t2 i2 f2 sc pos) 1 it2 acc env) (fun r s'=>match r with | .ok _=>∃m,m<n∧I m s' | .error _=>False) s₅) (fun _ _=>False) s₄) (fun _ _=>False) s₃
      else ∃m,m<n∧I m s₃) (fun _ _=>False) s₂) (fun _ _=>False) s₀) (fun _ _=>False) s₁) (fun _ _=>False) s)
  (n:Nat) (h:I n s) :
  codeAny (model prog w) A (.compLoop (two elt t1 i1 f1 t2 i2 f2 sc pos) 0 it acc env) R s:=by
 refine codeAny_loop rfl I (fun n s hI=>?_) n h
 show wpAny _ A ((compTurn (two elt t1 i1 f1 t2 i2 f2 sc pos) 0 it acc env).onRaise (fun x=>do noteFrame x env;theTreesLotGoes x)) _ _ s
 refine wpAny_noted ?_
 rw[rJ]
 refine wpAny_bind (wpAny_standAt (wpAny_bind (wpAny_mono (turn n s hI) (fun r s₁ h₁=>?_) fun _ _ h'=>h'.elim)))
 cases r with
 | none=>exact wpAny_pure h₁
 | some v =>
  refine wpAny_bind (wpAny_mono h₁ (fun _ s₀ h₀=>?_) fun _ _ h'=>h'.elim)
  refine wpAny_bind (wpAny_mono h₀ (fun _ s₂ h₂=>wpAny_bind (wpAny_mono h₂ (fun ok s₃ h₃=>?_) fun _ _ h'=>h'.elim)) fun _ _ h'=>h'.elim)
  cases ok with
  | false=>exact wpAny_pure ⟨rfl,h₃⟩
  | true =>
   refine wpAny_bind (wpAny_mono h₃ (fun x s₄ h₄=>wpAny_bind (wpAny_standAt (wpAny_bind (wpAny_of_eq (hs x) (wpAny_bind (wpAny_holding (wpAny_mono h₄ (fun it2 s₅ h₅=>?_) fun _ _ h'=>h'.elim))))))) fun _ _ h'=>h'.elim)
   refine wpAny_bind (wpAny_runOwn (codeAny_mono h₅ fun r s' hr=>?_))
   cases r with
   | ok f=>exact wpAny_pure ⟨rfl,hr⟩
   | error e=>exact hr.elim
theorem lA (h0:codeAny (model prog w) A (.compLoop (two elt t1 i1 f1 t2 i2 f2 sc pos) 1 it acc env) R s)
  (h:wpAny (model prog w) A (pyIter it) (fun it' s'=>codeAny (model prog w) A (.compLoop (two elt t1 i1 f1 t2 i2 f2 sc pos) 1 it' acc env) R s')
   (notedBy (model prog w) A env fun x s'=>R (.error x) s') s) :
  codeAny (model prog w) A (.compStart (two elt t1 i1 f1 t2 i2 f2 sc pos) 1 it acc env) R s:=by
 refine codeAny_of_tree ?_
 show wpAny _ _ ((compStart (two elt t1 i1 f1 t2 i2 f2 sc pos) 1 it acc env).onRaise (fun x=>do noteFrame x env;standAt theWindowsPlace)) _ _ s
 refine wpAny_notedAt ?_
 unfold compStart
 show wpAny _ _ (ask >>= _) _ _ s
 refine wpAny_bind (wpAny_askSetting (wpAny_ite ?_))
 split
 ·first
   | exact wpAny_bind (wpAny_pure (wpAny_pure (And.intro rfl h0)))
   | exact wpAny_pure (And.intro rfl h0)
 ·first
   | exact wpAny_bind (wpAny_rule (wpAny_bind (wpAny_standAt (wpAny_bind (wpAny_mono h (fun it' s' h'=>wpAny_pure (And.intro rfl h')) fun _ _ x=>x)))))
   | (refine wpAny_bind (wpAny_rule ?_);show wpAny _ _ (standAt i2.pos >>= _) _ _ s;exact wpAny_bind (wpAny_standAt (wpAny_bind (wpAny_mono h (fun it' s' h'=>wpAny_pure (And.intro rfl h')) fun _ _ x=>x))))
end
abbrev lo (its:List Value)(n:Nat):Obj:={ cls:=.type "list", data:=.seq its.toArray n }
theorem xe1 (I:Inv Y ((D,lo its n)::pl) σ H s)(h1:D∈Y.ex∨Y.s₀.heap.objs.size≤D)(h2:∀p∈Y.pn++pl,p.1≠D)(hz:its.length≤sizeLine)
  {Q:Shared→Prop} (q:∀s' n',Inv Y ((D,lo (its++[y]) n')::pl) σ H s'→(∀b o,b≠D→s.heap.get? b=some o→s'.heap.get? b=some o)→Q s'):wpAny (model Y.prog Y.w) Y.A (call (.builtin "list.append") [.ref D,y]) (fun _ s'=>Q s') E s:=by
 obtain⟨pD,nD,dL,dF,dC⟩:=I.pin (D,lo its n) (by simp)
 refine call_meets F.slot_list_append ⟨_,pD,rfl⟩ F.entry_list_append (F.args_list_append_2 _ _) (PySem.list_append D its.toArray n y (by rw[xkX];exact hz)) ⟨pD,?_⟩
 have q0:=PySem.IsL.update pD (fun x=>x.push y)
 obtain⟨n',q'⟩:∃n',(s.heap.update D (Obj.mapSeq fun x=>x.push y)).get? D=some (lo (its++[y]) n'):=⟨_,by
  rw[show(lo (its++[y]) _)=({ cls:=.type "list", data:=.seq (its.toArray.push y) _ }:Obj) by simp[lo];rfl];exact q0⟩
 have kp:∀b o,b≠D→s.heap.get? b=some o→(s.heap.update D (Obj.mapSeq fun x=>x.push y)).get? b=some o:=fun b o hb e=>(Heap.get?_update_other s.heap _ (Ne.symm hb)).trans e
 have I10:Inv Y pl σ H s:=I.pins_of fun p hp=>I.pin p (by simp only[xkB,xkE];exact .inr (.inr hp))
 have I11:Inv Y pl σ H { s with heap:=s.heap.update D (Obj.mapSeq fun x=>x.push y),toks:=s.toks } :=
  I10.turned (it:=D) (t':=s.toks) kp nD dL h1 (fun x c e z=>by
   obtain⟨v,o,ho,hd⟩:=I10.cell x c e
   rw[z,pD] at ho
   cases ho
   cases hd) h2
 refine q _ n' (I11.pins_of fun p hp=>?_) kp
 rcases xkE.mp hp with rfl | hp
 ·exact⟨q',nD,dL,dF,fun v=>by simp⟩
 ·exact I11.pin p (xkD _ hp)
def tIn (wi:TI)(tid:List (Option Nat))(g:TG)(tc:TT)(te:TE)(Z:List V→Hp→Prop)(ys:List V)(σ:St)(H:Hp):Prop:=wi σ H fun J H1 =>
 ∃W:Nat→Nat→List V→Hp→Prop,(∃m,W 0 m ys H1)∧∀i m ys' H',W i m ys' H' →
  (J.stop i H'∧Z ys' H') ∨
  (J.go i H'∧ys'.length<sizeLine∧∀x H2,J.yld i H' x H2→g x (k9 tid σ) H2 fun σ3 H3=>tc σ3 H3 fun b H4=>if b=true then te σ3 H4 fun y H5=>∃m',m' < m∧W (i+1) m' (ys'++[y]) H5 else ∃m',m' < m∧W (i+1) m' ys' H4)
def xdC (tau tid:List (Option Nat)):Bool:=decide (tid.length=tau.length)&&((List.range tid.length).all fun j=>match tid.getD j none with | some j'=>decide (j'=j) | none=>true)&&((List.range tau.length).all fun j=>match tau.getD j none with | some _=>decide (tid.getD j none=some j) | none=>true)
structure lE (tau tid:List (Option Nat)):Prop where
 len:tid.length=tau.length
 id:∀j j':Nat,tid[j]? = some (some j')→j'=j
 out:∀j j':Nat,tau[j]? = some (some j')→tid[j]? = some (some j)
theorem xg0 (h:xdC tau tid=true):lE tau tid:=by
 unfold xdC at h
 simp only[xjh,xlo,xjV,xkO] at h
 obtain⟨⟨a,b⟩,c⟩:=h
 refine⟨a,fun j j' e=>?_,fun j j' e=>?_⟩
 ·have:=b j (xkg.mp e).1
  rw[xkc,e] at this
  exact xlr this
 ·have l:=(xkg.mp e).1
  have:=c j l
  rw[xkc,e] at this
  have:=xlr this
  rw[xkc,xke (by omega)] at this
  rw[xke (by omega)]
  exact xlk some this
theorem lE.agree (h:lE tau tid)(l:σ.length=tau.length):Agree tau σ (k9 tid σ):=fun i j e=>by
 have a:=h.out i j e
 unfold k9
 rw[xkh,a]
 have:=(xkg.mp e).1
 rw[Option.map_some,xke (show i<σ.length by omega)]
 simp only[xke (show i<σ.length by omega),xli]
theorem Agree.trans (h:Agree tau a b)(h':Agree tau b c):Agree tau a c:=fun i j e=>(h' i j e).trans (h i j e)
theorem lh (hid:lE tau tid)(hl:Y.N.length=tau.length)(hc:Y.calm=true)(hx:Y.xe=fun _ _=>False)(hi:PI Y t2 i2 wi)(hg:PG Y t2 g)(ht:PIf Y f2 tc)(he:PE Y elt te)(hga:GA tid g)
  {its:List Value} {n:Nat} {ys:List V} {σ:St} {H:Hp} {s:Shared} (I:Inv Y ((D,lo its n)::pl) σ H s) (rv:zh ys its) (hz:ys.length≤sizeLine) (h1:D∈Y.ex∨Y.s₀.heap.objs.size≤D) (h2:∀p∈Y.pn++pl,p.1≠D) {Z:List V→Hp→Prop} (h:tIn wi tid g tc te Z ys σ H) {R:Shared→Prop}
  (fin:∀ σ' H' s' ys' its' n',Inv Y ((D,lo its' n')::pl) σ' H' s'→zh ys' its'→ys'.length≤sizeLine→Agree tau σ σ'→Z ys' H'→R s') :
  wpAny (model Y.prog Y.w) Y.A (eval i2 Y.env) (fun x s₄=>wpAny (model Y.prog Y.w) Y.A (pyIter x) (fun it2 s₅ =>
   codeAny (model Y.prog Y.w) Y.A (.compStart (two elt t1 i1 f1 t2 i2 f2 sc pos) 1 it2 (.ref D) Y.env) (fun r s'=>match r with | .ok _=>R s' | .error _=>False) s₅) (fun _ _=>False) s₄) (fun _ _=>False) s:=by
 have il:(k9 tid σ).length=σ.length:=by unfold k9;rw[xkr,hid.len,I.len,hl]
 have go:=@hi ((D,lo its n)::pl) s σ H _ I h
 rw[hx] at go
 refine thn go fun v s1 h1'=>thn h1' fun itv s2 h2'=>?_
 obtain⟨it,fp,tn,J,H2,e,I2,T,st2,fo,W,⟨m0,w0⟩,turn⟩:=h2'
 subst e
 have fD:∀b∈fp,b≠D:=fun b hb=>Ne.symm ((fo b hb).2.2.2.2.2 (D,lo its n) (by simp))
 have stat:∀ {H':Hp} {its':List Value} {n':Nat},(∀b∈fp,H' b=none)→∀b∈fp,cY Y ((D,lo its' n')::pl) H' b:=fun {H' its' n'} hn b hb=>by
  obtain⟨_,a1,a2,a3,a4,a5⟩:=fo b hb
  refine⟨hn b hb,a1,a2,a3,a4,fun p hp=>?_⟩
  rcases xkB.mp hp with hp | hp
  ·exact a5 p (xkC _ hp)
  ·rcases xkE.mp hp with rfl | hp
   ·exact Ne.symm (fD b hb)
   ·exact a5 p (xkD _ (xkF _ hp))
 have loop:codeAny (model Y.prog Y.w) Y.A (.compLoop (two elt t1 i1 f1 t2 i2 f2 sc pos) 1 (.ref it) (.ref D) Y.env) (fun r s'=>match r with | .ok _=>R s' | .error _=>False) s2:=by
  refine xb6 (fun m s'=>∃i ys' H' its' n',Inv Y ((D,lo its' n')::pl) (k9 tid σ) H' s'∧zh ys' its'∧ys'.length≤sizeLine∧tn i s'.heap∧(∀b∈fp,H' b=none)∧W i m ys' H') ?_ m0
   ⟨0,ys,H2,its,n,I2.weak il fun j v e=>?_,rv,hz,st2,fun b hb=>(fo b hb).1,w0⟩
  rotate_left
  ·obtain⟨j',t1,e'⟩:=jN e
   rw[hid.id j j' t1] at e';exact e'
  rintro m s3 ⟨i,ys3,H3,its3,n3,I3,rv3,hz3,st3,fr3,w3⟩
  rcases turn i m ys3 H3 w3 with ⟨stop,z⟩ | ⟨go,hlt,step⟩
  ·refine wpAny_mono (T.done Y rfl rfl rfl hc i _ s3 _ H3 (fun _ _=>False) I3 (stat fr3) st3 stop) (fun r s4 ⟨hr,I4⟩=>?_) fun _ _ f=>f.elim
   subst hr
   exact fin _ _ _ _ _ _ I4 rv3 hz3 (hid.agree (I.len.trans hl)) z
  ·refine wpAny_mono (T.item Y rfl rfl rfl hc i _ s3 _ H3 (fun _ _=>False) I3 (stat fr3) st3 go) (fun r s4 ⟨u,hr,h4⟩=>?_) fun _ _ f=>f.elim
   subst hr
   refine wpAny_mono h4 (fun _ s5 ⟨x,H5,I5,r5,y5,st5,fr5⟩=>?_) fun _ _ f=>f.elim
   have I5':=I5.pinned (stat fr5) (T.obj _ _ st5)
   have g5:=hg _ s5 _ H5 x u _ I5' r5 (hga _ _ _ _ (step x H5 y5))
   rw[hx] at g5
   refine wpAny_mono g5 (fun _ s6 ⟨σ6,H6,I6,q6,ag⟩=>?_) fun _ _ f=>f.elim
   have t6:=ht _ s6 σ6 H6 _ I6 q6
   rw[hx] at t6
   refine wpAny_mono t6 (fun b s7 ⟨H7,I7,q7⟩=>?_) fun _ _ f=>f.elim
   have back:∀ {H8:Hp} {s8:Shared} {its8:List Value} {n8:Nat},Inv Y ((D,lo its8 n8)::(pl++qT fp s5.heap)) σ6 H8 s8→Inv Y ((D,lo its8 n8)::pl) (k9 tid σ) H8 s8∧tn (i+1) s8.heap∧∀b∈fp,H8 b=none:=fun {H8 s8 its8 n8} I8=>by
    have I8':Inv Y (((D,lo its8 n8)::pl)++qT fp s5.heap) σ6 H8 s8:=I8
    refine⟨I8'.unpinned.weak (il.trans (I.len.trans I8.len.symm)) fun j v e=>by obtain⟨j',t1,_⟩:=jN e;rw[ag j j' t1];exact e,T.keep _ _ _ st5 fun b hb o e=>(I8'.pin (b,o) (xkD _ (xkD _ (zZ hb e)))).1,fun b hb=>?_⟩
    obtain⟨o,e,d⟩:=T.obj _ _ st5 b hb
    exact(I8'.pin (b,o) (xkD _ (xkD _ (zZ hb e)))).2.1
   cases b with
   | false =>
    obtain⟨m',hm,w7⟩:=q7
    obtain⟨I8,st8,fr8⟩:=back I7
    rw[if_neg xji]
    exact⟨m',hm,i+1,ys3,H7,its3,n3,I8,rv3,hz3,st8,fr8,w7⟩
   | true =>
    rw[if_pos rfl]
    have e7:=@he _ s7 σ6 H7 _ I7 q7
    rw[hx] at e7
    refine wpAny_mono e7 (fun y s8 ⟨yv,H8,I8,r8,m',hm,w8⟩=>?_) fun _ _ f=>f.elim
    refine xe1 (pl:=pl++qT fp s5.heap) I8 h1 (fun p hp=>?_) (by rw[←rv3.length];exact hz3) fun s9 n9 I9 _=>?_
    ·rw[←xjY] at hp
     rcases xkB.mp hp with hp | hp
     ·exact h2 p hp
     ·exact fD _ (fJ hp).1
    ·obtain⟨I10,st10,fr10⟩:=back I9
     exact⟨m',hm,i+1,ys3++[yv],H8,its3++[y],n9,I10,rv3.append (.cons r8 .nil),by rw[xkm,xkv];exact hlt,st10,fr10,w8⟩
 exact lA loop (T.self _ 0 _ _ _ st2 loop)
def xdD (wi:TI)(tau:List (Option Nat))(g:TG)(tc:TT)(wi2:TI)(tid:List (Option Nat))(g2:TG)(tc2:TT)(te:TE):TE:=fun σ H Q=>wi σ H fun J H1 =>
 ∃W:Nat→Nat→List V→Hp→Prop,(∃m,W 0 m [] H1)∧∀i m ys H,W i m ys H →
  (J.stop i H∧∀p,H p=none→Q (.ref p) (upd H p (.lst ys))) ∨
  (J.go i H∧∀x H',J.yld i H x H'→g x (k9 tau σ) H' fun σ2 H2=>tc σ2 H2 fun b H3=>if b=true then tIn wi2 tid g2 tc2 te (fun ys' H4=>∃m',m' < m∧W (i+1) m' ys' H4) ys σ2 H3 else ∃m',m' < m∧W (i+1) m' ys H3)
section
variable {X:Cx} {sc:Scope} {N:List Str} {tau tid:List (Option Nat)} {pins:List (Addr×Obj)} {σ:St} {H:Hp} {s:Shared}
theorem cV {elt tg iter tg2 iter2:Expr}{ifs ifs2:List Expr}{g g2:TG}{tc tc2:TT}{wi2:TI}{te:TE}{pos:Pos}(k:vG X sc N tau)(hc:X.calm=true)(I:Inv X pins σ H s){it:Addr}{fp:List Addr}{tn:Nat→Heap→Prop}{J:It}
  (T:Turn X.prog X.w X.K tg J fp it tn) (st0:tn 0 s.heap) (hf:∀b∈fp,cY X pins H b) (hga:GA tau g) (hid:lE tau tid) (hga2:GA tid g2)
  (hg:∀C s H ex,PG (yd X sc N C s H ex) tg g) (ht:∀C s H ex,PIf (yd X sc N C s H ex) ifs tc) (hi2:∀C s H ex,PI (yd X sc N C s H ex) tg2 iter2 wi2) (hg2:∀C s H ex,PG (yd X sc N C s H ex) tg2 g2) (ht2:∀C s H ex,PIf (yd X sc N C s H ex) ifs2 tc2) (he:∀C s H ex,PE (yd X sc N C s H ex) elt te)
  (hs2:∀C x,foldedSetIterable iter2 (compEnvC sc (g9 X.env sc.names []) C X.env) x=pure x)
  {W:Nat→Nat→List V→Hp→Prop} {Z:List V→Hp→Prop} (w0:∃m,W 0 m [] H) (turn:∀i m ys H,W i m ys H →
   (J.stop i H∧Z ys H) ∨
   (J.go i H∧∀x H',J.yld i H x H'→g x (k9 tau σ) H' fun σ2 H2=>tc σ2 H2 fun b H3=>if b=true then tIn wi2 tid g2 tc2 te (fun ys' H4=>∃m',m' < m∧W (i+1) m' ys' H4) ys σ2 H3 else ∃m',m' < m∧W (i+1) m' ys H3))
  {E:Value→Shared→Prop} {RR:Value→Addr→Result→Shared→Prop}
  (fin:∀ σ' H' s' ys its n,Inv (yd X sc N (s.heap.objs.size+1) s H fp) [(s.heap.objs.size,{ cls:=.type "list", data:=.seq its.toArray n })] σ' H' s'→zh ys its→ys.length≤sizeLine→Z ys H'→RR (.ref s.heap.objs.size) (s.heap.objs.size+1) (.ok .next) s') :
  wpAny (model X.prog X.w) X.A (newList []) (fun acc s₃=>wpAny (model X.prog X.w) X.A (newFunctionEnv sc X.env.globals (g9 X.env sc.names []) [] X.env.qual none .none (some X.env)) (fun cenv s₄ =>
   codeAny (model X.prog X.w) X.A (.compStart (two elt tg iter ifs tg2 iter2 ifs2 sc pos) 0 (.ref it) acc { cenv with scope:=relabel sc X.env }) (RR acc cenv.locals) s₄) E s₃) E s:=by
 have hob:∀b∈fp,∃o,s.heap.get? b=some o:=fun b hb=>let ⟨o,e,_⟩:=T.obj _ _ st0 b hb;⟨o,e⟩
 refine wpAny_newObj_type (wpAny_newFunctionEnv k.nocell (by intro y hy;simp at hy) (fun h₁ hns₁ hsb₁=>?_) k.kind)
 dsimp only at hns₁ hsb₁ ⊢
 generalize hH2:s.heap.push { cls:=.type "list", dict:=none,data:=.seq ([]:List Value).toArray }=H2 at hns₁ hsb₁ ⊢
 have hC:H2.objs.size=s.heap.objs.size+1:=by rw[←hH2,Heap.size_push]
 have old:∀b o,s.heap.get? b=some o→h₁.get? b=some o:=fun b o e=>hsb₁.extBut b o (by rw[hC];exact xlg (xlc (Heap.lt_size e))) (Heap.get?_push_of_some _ (hH2▸Heap.get?_push_of_some _ e))
 have hacc:h₁.get? s.heap.objs.size=some { cls:=.type "list", data:=.seq #[] 0 }:=hsb₁.extBut _ _ (by rw[hC];exact xlg (xld _)) (Heap.get?_push_of_some _ (hH2▸Heap.get?_push_size _ rfl))
 rw[hC] at hns₁ ⊢
 have I1:Inv (yd X sc N (s.heap.objs.size+1) s H fp) [(s.heap.objs.size,{ cls:=.type "list", data:=.seq #[] 0 })] (k9 tau σ) H { s with heap:=h₁,toks:=s.toks+([]:List (Str×Value)).length } :=
  oW k I hf hob old hns₁ hacc
 have st1:tn 0 h₁:=T.keep _ _ _ st0 fun b _ o e=>old b o e
 have ltD:∀b∈fp,b≠s.heap.objs.size:=fun b hb=>by
  obtain⟨o,e⟩:=hob b hb
  exact xlg (Heap.lt_size e)
 have ltC:∀b∈fp,b≠s.heap.objs.size+1:=fun b hb=>by
  obtain⟨o,e⟩:=hob b hb
  exact xlg (xlc (Heap.lt_size e))
 have stat:∀ {H':Hp} {its:List Value} {n:Nat},(∀b∈fp,H' b=none)→∀b∈fp,cY (yd X sc N (s.heap.objs.size+1) s H fp) [(s.heap.objs.size,lo its n)] H' b:=fun {H' its n} hn b hb=>by
  have cx:=pK (N:=N) k I hf hob
  refine⟨hn b hb,ltC b hb,cx.exfs b hb,.inl hb,(cx.exf b hb).2,fun p hp=>?_⟩
  have e:p=(s.heap.objs.size,lo its n):=by simpa [yd] using hp
  subst e
  exact Ne.symm (ltD b hb)
 obtain⟨m0,w0⟩:=w0
 have loop:codeAny (model X.prog X.w) X.A (.compLoop (two elt tg iter ifs tg2 iter2 ifs2 sc pos) 0 (.ref it) (.ref s.heap.objs.size) (compEnvC sc (g9 X.env sc.names []) (s.heap.objs.size+1) X.env)) (RR (.ref s.heap.objs.size) (s.heap.objs.size+1)) { s with heap:=h₁,toks:=s.toks+([]:List (Str×Value)).length }:=by
  refine xbM (hs2 _) (fun m s'=>∃i ys H' its n,Inv (yd X sc N (s.heap.objs.size+1) s H fp) [(s.heap.objs.size,lo its n)] (k9 tau σ) H' s'∧zh ys its∧ys.length≤sizeLine∧tn i s'.heap∧(∀b∈fp,H' b=none)∧W i m ys H') ?_ m0
   ⟨0,[],H,[],0,I1,.nil,xlh _,st1,fun b hb=>(hf b hb).1,w0⟩
  rintro m s3 ⟨i,ys,H3,its,n,I3,rv,hz,st3,fr3,w3⟩
  rcases turn i m ys H3 w3 with ⟨stop,z⟩ | ⟨go,step⟩
  ·refine wpAny_mono (T.done (yd X sc N (s.heap.objs.size+1) s H fp) rfl rfl rfl hc i _ s3 _ H3 (fun _ _=>False) I3 (stat fr3) st3 stop) (fun r s4 ⟨hr,I4⟩=>?_) fun _ _ f=>f.elim
   subst hr
   exact fin _ _ _ _ _ _ I4 rv hz z
  ·refine wpAny_mono (T.item (yd X sc N (s.heap.objs.size+1) s H fp) rfl rfl rfl hc i _ s3 _ H3 (fun _ _=>False) I3 (stat fr3) st3 go) (fun r s4 ⟨u,hr,h4⟩=>?_) fun _ _ f=>f.elim
   subst hr
   refine wpAny_mono h4 (fun _ s5 ⟨x,H5,I5,r5,y5,st5,fr5⟩=>?_) fun _ _ f=>f.elim
   have I5':=I5.pinned (stat fr5) (T.obj _ _ st5)
   refine wpAny_mono (hg _ _ _ _ _ s5 _ H5 x u _ I5' r5 (hga _ _ _ _ (step x H5 y5))) (fun _ s6 ⟨σ6,H6,I6,q6,ag⟩=>?_) fun _ _ f=>f.elim
   refine wpAny_mono (ht _ _ _ _ _ s6 σ6 H6 _ I6 q6) (fun b s7 ⟨H7,I7,q7⟩=>?_) fun _ _ f=>f.elim
   have back:∀ {σ8:St} {H8:Hp} {s8:Shared} {its8:List Value} {n8:Nat},Agree tau (k9 tau σ) σ8→Inv (yd X sc N (s.heap.objs.size+1) s H fp) ([(s.heap.objs.size,lo its8 n8)]++qT fp s5.heap) σ8 H8 s8 →
     Inv (yd X sc N (s.heap.objs.size+1) s H fp) [(s.heap.objs.size,lo its8 n8)] (k9 tau σ) H8 s8∧tn (i+1) s8.heap∧∀b∈fp,H8 b=none:=fun {σ8 H8 s8 its8 n8} ag I8=>by
    refine⟨I8.unpinned.weak (I1.len.trans I8.len.symm) fun j v e=>?_,T.keep _ _ _ st5 fun b hb o e=>(I8.pin (b,o) (xkD _ (xkD _ (zZ hb e)))).1,fun b hb=>?_⟩
    ·obtain⟨j',t1,_⟩:=jN e
     rw[ag j j' t1];exact e
    ·obtain⟨o,e,d⟩:=T.obj _ _ st5 b hb
     exact(I8.pin (b,o) (xkD _ (xkD _ (zZ hb e)))).2.1
   cases b with
   | false =>
    obtain⟨m',hm,w7⟩:=q7
    obtain⟨I8,st8,fr8⟩:=back ag I7
    rw[if_neg xji]
    exact⟨m',hm,i+1,ys,H7,its,n,I8,rv,hz,st8,fr8,w7⟩
   | true =>
    rw[if_pos rfl]
    refine lh (Y:=yd X sc N (s.heap.objs.size+1) s H fp) (D:=s.heap.objs.size) (pl:=qT fp s5.heap) hid k.len.symm hc rfl (hi2 _ _ _ _) (hg2 _ _ _ _) (ht2 _ _ _ _) (he _ _ _ _) hga2 I7 rv hz (.inr (xk7 _)) (fun p hp=>?_) q7 fun σ8 H8 s8 ys8 its8 n8 I8 rv8 hz8 ag8 z=>?_
    ·have hp:p∈qT fp s5.heap:=by simpa [yd] using hp
     exact ltD _ (fJ hp).1
    ·obtain⟨m',hm,w8⟩:=z
     obtain⟨I9,st9,fr9⟩:=back (ag.trans ag8) I8
     exact⟨m',hm,i+1,ys8,H8,its8,n8,I9,rv8,hz8,st9,fr9,w8⟩
 exact codeAny_compStart_list loop (T.self _ 0 _ _ _ st1 loop)
theorem cZ (hN:X.N.Nodup)(hi':X.N[i]? = some x)(hx:Loc X.env.scope x)(k:vG X sc N tau)(hc:X.calm=true)(hga:GA tau g)(hid:lE tau tid)(hga2:GA tid g2)(hi:PI X tg iter wi)
  (hg:∀C s H ex,PG (yd X sc N C s H ex) tg g) (ht:∀C s H ex,PIf (yd X sc N C s H ex) ifs tc) (hi2:∀C s H ex,PI (yd X sc N C s H ex) tg2 iter2 wi2) (hg2:∀C s H ex,PG (yd X sc N C s H ex) tg2 g2) (ht2:∀C s H ex,PIf (yd X sc N C s H ex) ifs2 tc2) (he:∀C s H ex,PE (yd X sc N C s H ex) elt te)
  (hsw:swapsWith (two elt tg iter ifs tg2 iter2 ifs2 sc pos) (some (.Name x py)) spos.line X.env=pure true:=by rfl)
  (hs:∀x,foldedSetIterable iter X.env x=pure x:=by intro _;rfl) (hs2:∀C x,foldedSetIterable iter2 (compEnvC sc (g9 X.env sc.names []) C X.env) x=pure x:=by intro _ _;rfl) (hf:X.fn x=true∨X.env.scope.names.lookup x=some .local:=by first | exact .inl rfl | exact .inr rfl | assumption) :
  PS X (.Assign [.Name x py] (two elt tg iter ifs tg2 iter2 ifs2 sc pos) spos) (xc2 (xdD wi tau g tc wi2 tid g2 tc2 te) (gJ i)):=by
 intro pins s σ H D I h
 rw[exec_Assign_Name_used _ _ _ _ hsw]
 refine wpAny_bind (wpAny_standAt (wpAny_bind ?_))
 show wpAny _ X.A (do let _ ←comprehension (two elt tg iter ifs tg2 iter2 ifs2 sc pos) sc X.env _ (newList []) false (eval iter X.env) (some (assign (.Name x py) X.env))) _ _ s
 refine wpAny_bind (wpAny_mono (wpAny_comprehension_free (use:=some (assign (.Name x py) X.env)) (Q:=fun _ s'=>SP X pins D .next s') rfl hs (bK (k.cells I.ok)) k.kind k.loc ?_) (fun _ s' q=>wpAny_pure (wpAny_pure q)) fun _ _ e=>e)
 refine thn (@hi pins s σ H _ I h) fun v s1 h1=>thn h1 fun itv s2 h2=>?_
 obtain⟨it,fp,tn,J,H2,e,I2,T,st2,f2,W,w0,turn⟩:=h2
 subst e
 refine cV (RR:=fun acc C=>compPost (model X.prog X.w) X.A X.xe (some (assign (.Name x py) X.env)) (fun _ s'=>SP X pins D .next s') acc C) (W:=W) (Z:=fun ys H'=>∀p,H' p=none→D.nx (σ.set i (some (.ref p))) (upd H' p (.lst ys))) k hc I2 T st2 f2 hga hid hga2 hg ht hi2 hg2 ht2 he hs2 w0 turn ?_
 intro σ' H' s' ys its n J' rv hz z
 obtain⟨I',hD,hC⟩:=tJ k I2 f2 J' rv hz
 obtain⟨m,hn,_⟩:=J'.loc
 have hn:s'.heap.Ns (s2.heap.objs.size+1) m:=hn
 refine wpAny_assign_Name (dY (v:=.ref s2.heap.objs.size) I' hN hi' hx rfl (fun s'' I'' ⟨a,sb,ha⟩=>?_) hf)
 refine⟨m,hn.sameBut sb ?_,fun h' hs'=>⟨_,_,fR I2 I'' hC hs',z _ hD⟩⟩
 rcases ha with ha | ha
 ·rw[ha];exact xlf (xlc I2.lt)
 ·obtain⟨v,o,ho,_⟩:=I2.cell x a ha
  exact xlf (xlc (Heap.lt_size ho))
end
end L2
namespace L2
open PySem PySem.Spec PyProof.Rows
def xbN (dg:DG)(dc:DT)(di:DI)(tid:List (Option Nat))(dg2:DG)(dc2:DT)(de:DE)(τi:TSt)(KK:List Tr→Prop):List Tr→List Tr→Prop
 | [],acc=>KK acc
 | x::xs,acc=>dg x τi fun τ2=>dc τ2 fun b=>if b=true then di τ2 fun ys=>acc.length+ys.length<sizeLine∧be dg2 dc2 de (kC tid τ2) (fun acc'=>xbN dg dc di tid dg2 dc2 de τi KK xs acc') ys acc else xbN dg dc di tid dg2 dc2 de τi KK xs acc
def xg5 (tau:List (Option Nat))(di:DI)(dg:DG)(dc:DT)(di2:DI)(tid:List (Option Nat))(dg2:DG)(dc2:DT)(de:DE):DE:=fun τ KK=>di τ fun xs=>xbN dg dc di2 tid dg2 dc2 de (kC tau τ) (fun ys=>KK (.lst ys)) xs []
section
variable {K:PySem.W.Frag} {B:FB} {φ:Phi} {σ:St} {τ:TSt} {H H' H'':Hp} {fr:Bool}
theorem oY (z:rF tau φ τ i=some a):Av B φ a:=by
 unfold rF at z
 split at z
 ·split at z
  ·exact .inr ⟨_,z⟩
  ·cases z
 ·cases z
theorem oO (R3:RS K (B.inner φ τ H2) φ3 σ3 τ3 H2):∀a,SA (B.inner φ τ H2) φ3 τ3 a→SA B φ τ a:=fun a z=>by
 rcases z with z | ⟨j,z,hj⟩
 ·exact z
 ·have en:=R3.ent j
  rw[hj] at en
  obtain⟨p,e1,e2,e3⟩:=en
  rw[z] at e2;cases e2
  rcases e3 with e3 | e3
  ·exact e3
  ·exact absurd e3 (R3.sst a (.inr ⟨j,z,hj⟩)).ne_none
theorem gW (hsa:∀a,SA (B.inner φ τ H2) φ3 τ3 a→SA B φ τ a)(h:HX (B.inner φ τ H2) φ3 τ3 H3 H4):HX B φ τ H3 H4:=⟨fun a o e n=>h.keep a o e fun z=>n (hsa a z),fun a z=>h.st a (.inl z)⟩
theorem ox {ts:List Tr}{i:Nat}{t:Tr}(hlt:i<ts.length)(ht:ts[i]? = some t):ts.drop i=t::ts.drop (i+1):=by
 rw[xj1 hlt]
 rw[xke hlt] at ht
 cases ht;rfl
theorem xhV {wi:TI}{tid:List (Option Nat)}{g:TG}{tc:TT}{te:TE}{di:DI}{dg:DG}{dc:DT}{de:DE}{b:Bool}(hi:OkI K true wi di)(hg:OkN K g dg)(hc:OkT K tc dc)(he:OkE K b te de){F:Addr→Prop}(R:RS K B φ σ τ H)(hF:∀a,F a→B.F0 a)(hS:∀a,SA B φ τ a→F a){Z:List V→Hp→Prop}{KZ:List Tr→Prop}{acc:List Tr}{ys:List V}(ra:zi F H acc ys)(hd:di τ fun xs=>acc.length+xs.length<sizeLine∧be dg dc de (kC tid τ) KZ xs acc)
  (fin:∀acc' ys' H',HX B φ τ H H'→zi F H' acc' ys'→KZ acc'→Z ys' H'):tIn wi tid g tc te Z ys σ H :=
 hi.c B φ σ τ H _ _ R hd fun J ts Src H1 x1 k1 it s1=>by
  refine⟨fun i m ys' H'=>m=ts.length-i∧i≤ts.length∧ys'.length≤acc.length+i∧HX B φ τ H H'∧Src H'∧∃acc',zi F H' acc' ys'∧be dg dc de (kC tid τ) KZ (ts.drop i) acc',⟨_,rfl,xlh _,by rw[←ra.len];omega,x1,s1,acc,x1.repL hS ra,k1.2⟩,?_⟩
  rintro i m ys' H' ⟨rfl,hle,hys,x,s,acc',ra',f⟩
  have R':=R.hx x
  by_cases hlt:i<ts.length
  ·refine .inr ⟨it.go i H' s hlt,by have:=k1.1;omega,fun v H2 y=>?_⟩
   obtain⟨gr,t,ht,rt⟩:=it.yld i H' v H2 s (fun a z=>R'.dom z) hlt y
   have hx:=gr.hx R'
   have R2:=R'.hx hx
   rw[ox hlt ht] at f
   refine hg (B.inner φ τ H2) _ _ _ H2 (Av B φ) t v _ _ R2.inner (fun a z=>z.elim id fun⟨j,z⟩=>oY z) rt f fun φ3 σ3 τ3 R3 ha k3=>?_
   have hsa:=oO R3
   refine hc _ φ3 σ3 τ3 H2 _ _ R3 k3 fun c H3 x3 k4=>?_
   have x23:=gW hsa x3
   have s3:=it.stab _ _ (it.stab _ _ s fun a o e n=>hx.keep a o e n) fun a o e n=>x23.keep a o e n
   cases c with
   | false =>
    refine bc ⟨_,by omega,rfl,hlt,by omega,(x.trans hx).trans x23,s3,acc',(hx.trans x23).repL hS ra',?_⟩
    simpa using k4
   | true =>
    refine o9 (he _ φ3 σ3 τ3 H3 _ _ (R3.hx x3) k4 fun u w H4 x4 k5 r5=>?_)
    have x34:=gW hsa x4
    refine⟨_,by omega,rfl,hlt,by rw[xkm,xkv];omega,((x.trans hx).trans x23).trans x34,it.stab _ _ s3 fun a o e n=>x34.keep a o e n,acc'++[u],(((hx.trans x23).trans x34).repL hS ra').app (show zi _ _ [u] [w] from⟨w,[],rfl,?_,rfl⟩),k5⟩
    refine yz (fun a o e n=>⟨e,fun z=>n ?_⟩) _ _ r5
    cases b with
    | true=>exact .inl (.inl (hF a z))
    | false=>exact .inl (.inl (hF a z))
  ·have ei:i=ts.length:=by omega
   subst ei
   rw[xj2] at f
   exact .inl ⟨it.stop H' s,fin acc' ys' H' x ra' f⟩
theorem xa9 {wi wi2:TI}{tau tid:List (Option Nat)}{g g2:TG}{tc tc2:TT}{te:TE}{di di2:DI}{dg dg2:DG}{dc dc2:DT}{de:DE}{b:Bool}(hi:xgK K wi di)(hg:OkN K g dg)(hc:OkT K tc dc)(hi2:OkI K true wi2 di2)(hg2:OkN K g2 dg2)(hc2:OkT K tc2 dc2)(he:OkE K b te de) :
  OkF K (xdD wi tau g tc wi2 tid g2 tc2 te) (xg5 tau di dg dc di2 tid dg2 dc2 de):=fun B φ σ τ H Q KK R hd q =>
 hi B φ σ τ H _ _ R hd fun J ts Src H1 x1 k1 it s1=>by
  refine⟨fun i m ys H'=>m=ts.length-i∧i≤ts.length∧HX B φ τ H H'∧Src H'∧∃acc,zi (Av B φ) H' acc ys∧xbN dg dc di2 tid dg2 dc2 de (kC tau τ) (fun ys=>KK (.lst ys)) (ts.drop i) acc,⟨_,rfl,xlh _,x1,s1,[],rfl,k1⟩,?_⟩
  rintro i m ys H' ⟨rfl,hle,x,s,acc,ra,f⟩
  have R':=R.hx x
  by_cases hlt:i<ts.length
  ·refine .inr ⟨it.go i H' s hlt,fun v H2 y=>?_⟩
   obtain⟨gr,t,ht,rt⟩:=it.yld i H' v H2 s (fun a z=>R'.dom z) hlt y
   have hx:=gr.hx R'
   have R2:=R'.hx hx
   rw[ox hlt ht] at f
   refine hg (B.inner φ τ H2) _ _ _ H2 (Av B φ) t v _ _ R2.inner (fun a z=>z.elim id fun⟨j,z⟩=>oY z) rt f fun φ3 σ3 τ3 R3 ha k3=>?_
   have hsa:=oO R3
   refine hc _ φ3 σ3 τ3 H2 _ _ R3 k3 fun c H3 x3 k4=>?_
   have x23:=gW hsa x3
   have s3:=it.stab _ _ (it.stab _ _ s fun a o e n=>hx.keep a o e n) fun a o e n=>x23.keep a o e n
   cases c with
   | false =>
    refine bc ⟨_,by omega,rfl,hlt,(x.trans hx).trans x23,s3,acc,(hx.trans x23).repL (fun a z=>R.sAv z) ra,?_⟩
    simpa using k4
   | true =>
    refine o9 (xhV hi2 hg2 hc2 he (R3.hx x3) (F:=Av B φ) (fun a z=>z) (fun a z=>R.sAv (hsa a z)) ((hx.trans x23).repL (fun a z=>R.sAv z) ra) k4 fun acc' ys' H4 x4 ra4 k5=>?_)
    have x34:=gW hsa x4
    exact⟨_,by omega,rfl,hlt,((x.trans hx).trans x23).trans x34,it.stab _ _ s3 fun a o e n=>x34.keep a o e n,acc',ra4,k5⟩
  ·have ei:i=ts.length:=by omega
   subst ei
   rw[xj2] at f
   refine .inl ⟨it.stop H' s,fun p hp=>q acc p ys _ (x.trans (HX.new R' hp _)) f (x.none hp) x9 (vS hp ra)⟩
end
theorem nJ {dg dg2:DG}{dc dc2:DT}{di:DI}{tid:List (Option Nat)}{de:DE}{τi:TSt}{KK:List Tr→Prop}(G:Nat→List Tr→Prop):∀(xs:List Tr) (i:Nat) (acc:List Tr),(∀j x acc,xs[j]? = some x→G (i+j) acc→∀N:List Tr→Prop,(∀acc',G (i+j+1) acc'→N acc')→dg x τi fun τ2=>dc τ2 fun b=>if b=true then di τ2 fun ys=>acc.length+ys.length<sizeLine∧be dg2 dc2 de (kC tid τ2) N ys acc else N acc)→G i acc→(∀acc,G (i+xs.length) acc→KK acc)→xbN dg dc di tid dg2 dc2 de τi KK xs acc
 | [],i,acc,_,g,k=>k acc g
 | x::xs,i,acc,h,g,k=>h 0 x acc rfl g _ fun acc' g'=>nJ G xs (i+1) acc' (fun j y a e g N hN=>h (j+1) y a (by simpa using e) (by rw[show i+(j+1)=i+1+j by omega];exact g) N fun a' g'=>hN a' (by rw[show i+1+j+1=i+(j+1)+1 by omega];exact g')) g' fun a g=>k a (by rw[xkn,show i+(xs.length+1)=i+1+xs.length by omega];exact g)
theorem mK {dg:DG}{de:DE}{τi:TSt}{KK:List Tr→Prop}(g:Tr→Tr):∀(xs acc:List Tr),(∀x∈xs,∀N:Tr→Prop,N (g x)→dg x τi fun τ2=>de τ2 N)→KK (acc++xs.map g)→be dg lQ de τi KK xs acc
 | [],acc,_,k=>by rw[List.map_nil,xjZ] at k;exact k
 | x::xs,acc,h,k=>h x xkG (fun y=>be dg lQ de τi KK xs (acc++[y])) (mK g xs (acc++[g x]) (fun y hy=>h y (xkF _ hy)) (by rw[xjY];exact k))
end L2
namespace L2
open PySem Trn
theorem xd7 (n o m p:D2):cr n m*cr o p=cr n o*cr m p+cr n p*cr o m:=by unfold cr;grind
theorem xa4:∀(nums:List Nat) (acc:Option Nat) (P:Nat→Prop),(∀m,acc=some m→0<cr (xH rows n) (xH rows m)∧∀o,P o→0<cr (xH rows n) (xH rows o)→0≤cr (xH rows m) (xH rows o))→(acc=none→∀o,P o→¬0<cr (xH rows n) (xH rows o)) →
  ∀m,nums.foldl (zm rows n) acc=some m→∀o,(P o∨o∈nums)→0<cr (xH rows n) (xH rows o)→0≤cr (xH rows m) (xH rows o)
 | [],acc,P,h,h0,m,e,o,ho,c=>(h m e).2 o (ho.resolve_right (by simp)) c
 | x::nums,acc,P,h,h0,m,e,o,ho,c=>by
  refine xa4 nums (zm rows n acc x) (fun o=>P o∨o=x) (fun m e=>?_) (fun e o ho c=>?_) m e o (ho.elim (fun z=>.inl (.inl z)) fun z=>(xkE.mp z).elim (fun z=>.inl (.inr z)) .inr) c
  ·unfold zm at e
   split at e
   ·rename_i cx
    cases acc with
    | none =>
     cases e
     exact⟨cx,fun o ho c=>ho.elim (fun z=>absurd c (h0 rfl o z)) fun z=>by rw[z,dW];exact xjy _⟩
    | some k =>
     obtain⟨k1,k2⟩:=h k rfl
     dsimp only at e
     split at e
     ·rename_i cm
      cases e
      refine⟨cx,fun o ho c=>ho.elim (fun z=>?_) fun z=>by rw[z,dW];exact xjy _⟩
      have id:=xd7 (xH rows n) (xH rows x) (xH rows k) (xH rows o)
      have a:=Pol.pz (xjv cx) (k2 o z c)
      have b:=Pol.pz (xjv c) (xjv cm)
      rcases xjA (cr (xH rows x) (xH rows o)) 0 with y | y
      ·have:=Pol.pp k1 (show 0 < -cr (xH rows x) (xH rows o) by omega)
       rw[xjJ] at this
       omega
      ·exact y
     ·rename_i cm
      cases e
      refine⟨k1,fun o ho c=>ho.elim (fun z=>k2 o z c) fun z=>?_⟩
      rw[z,r9];omega
   ·rename_i cx
    obtain⟨k1,k2⟩:=h m e
    exact⟨k1,fun o ho c=>ho.elim (fun z=>k2 o z c) fun z=>by rw[z] at c;exact absurd c cx⟩
  ·unfold zm at e
   split at e
   ·cases acc with
    | none=>cases e
    | some k=>dsimp only at e;split at e<;>cases e
   ·rename_i cx
    rcases ho with z | z
    ·exact h0 e o z c
    ·rw[z] at c;exact cx c
theorem xbK (e:bE rows nums n=some m)(ho:o∈nums)(c:0<cr (xH rows n) (xH rows o)):0≤cr (xH rows m) (xH rows o) :=
 xa4 nums none (fun _=>False) (fun _ z=>nomatch z) (fun _ _ z=>z.elim) m e o (.inr ho) c
theorem filter_lt {α:Type}{p q:α→Bool}(imp:∀o,p o=true→q o=true){n:α}:∀ {l:List α},n∈l→q n=true→p n=false→(l.filter p).length<(l.filter q).length
 | x::l,h,hq,hp=>by
  have le:∀l:List α,(l.filter p).length≤(l.filter q).length:=fun l=>by
   induction l with
   | nil=>simp
   | cons y l ih =>
    simp only[xj5]
    by_cases e:p y=true
    ·rw[if_pos e,if_pos (imp y e),xkn,xkn];omega
    ·rw[if_neg e];split
     ·rw[xkn];omega
     ·exact ih
  simp only[xj5]
  rcases xkE.mp h with e | h
  ·subst e
   rw[hp,hq]
   have:=le l
   simp;omega
  ·have:=filter_lt imp h hq hp
   by_cases e:p x=true
   ·rw[if_pos e,if_pos (imp x e),xkn,xkn];omega
   ·rw[if_neg e];split
    ·rw[xkn];omega
    ·exact this
theorem adj {rows:List Pol.R3}{nums:List Nat}{d:D2}:∀(k:Nat) (a m:Nat),a∈nums→m∈nums→0<cr (xH rows a) (xH rows m)→InC (xH rows a) (xH rows m) d→(nums.filter fun o=>decide (0<cr (xH rows a) (xH rows o)∧0≤cr (xH rows o) (xH rows m))).length≤k→∃ij∈vb rows nums,InC (xH rows ij.1) (xH rows ij.2) d:=fun k=>by
 induction k with
 | zero =>
  intro a m ha hm c _ l
  have:m∈nums.filter fun o=>decide (0<cr (xH rows a) (xH rows o)∧0≤cr (xH rows o) (xH rows m)):=xkH.mpr ⟨hm,xln ⟨c,by rw[dW];exact xjy _⟩⟩
  have:=List.length_pos_of_mem this
  omega
 | succ k ih =>
  intro a m ha hm c hd l
  have ex:=(aR (rows:=rows) (n:=a) nums none (fun m e=>nomatch e)).2 (.inr ⟨m,hm,c⟩)
  cases q:bE rows nums a with
  | none=>exact absurd q ex
  | some n =>
   obtain⟨p,r⟩:=(aR (rows:=rows) (n:=a) nums none (fun m e=>nomatch e)).1 n q
   have hn:n∈nums:=r.resolve_right (fun z=>nomatch z)
   have nm:=xbK q hm c
   have sd:(a,n)∈vb rows nums:=xkI.mpr ⟨a,ha,by rw[q];rfl⟩
   by_cases z:0≤cr d (xH rows n)
   ·exact⟨_,sd,hd.1,z⟩
   ·have dn:0<cr (xH rows n) d:=by rw[r9];omega
    have nm':0<cr (xH rows n) (xH rows m):=by
     have id:=xd7 (xH rows a) d (xH rows n) (xH rows m)
     rw[r9 (xH rows n) d] at id
     have t1:=Pol.pz hd.1 nm
     have t2:=Pol.pp c dn
     have h2:=hd.2
     rcases xjA 0 (cr (xH rows n) (xH rows m)) with y | y
     ·exact y
     ·have y0:cr (xH rows n) (xH rows m)=0:=by omega
      rw[y0,xjO,Int.zero_add,xjJ] at id
      have:=Pol.pz (xjv p) h2
      omega
    refine ih n m hn hm nm' ⟨by omega,hd.2⟩ ?_
    have sub:((nums.filter fun o=>decide (0<cr (xH rows n) (xH rows o)∧0≤cr (xH rows o) (xH rows m))).length)<(nums.filter fun o=>decide (0<cr (xH rows a) (xH rows o)∧0≤cr (xH rows o) (xH rows m))).length:=by
     have imp:∀o,(0<cr (xH rows n) (xH rows o)∧0≤cr (xH rows o) (xH rows m))→(0<cr (xH rows a) (xH rows o)∧0≤cr (xH rows o) (xH rows m)):=fun o ⟨o1,o2⟩=>by
      refine⟨?_,o2⟩
      have id:cr (xH rows a) (xH rows o)*cr (xH rows n) (xH rows m)=cr (xH rows o) (xH rows m)*cr (xH rows a) (xH rows n)+cr (xH rows n) (xH rows o)*cr (xH rows a) (xH rows m):=by unfold cr;grind
      have t1:=Pol.pz o2 (xjv p)
      have t2:=Pol.pp o1 c
      rcases xjA 0 (cr (xH rows a) (xH rows o)) with y | y
      ·exact y
      ·have:=Pol.pz (a:=-cr (xH rows a) (xH rows o)) (b:=cr (xH rows n) (xH rows m)) (by omega) (by omega)
       rw[Int.neg_mul] at this
       omega
     exact filter_lt (fun o h=>xln (imp o (xlr h))) hn (xln ⟨p,xjv nm'⟩) (xlm fun z=>by have:=z.1;rw[dW] at this;omega)
    omega
theorem oQ (hp:0<p.2.2)(s:Pol.sA v p)(h:Pol.val r p=0):Pol.val r v=0:=by
 have e:Pol.val r v*p.2.2=Pol.val r p*v.2.2:=by
  have:=s.1;have:=s.2
  simp only[Pol.val];grind
 rw[h,xjS] at e
 exact(xjF.mp e).resolve_right (by omega)
theorem xgy (h:r∈rows):∃i,i<rows.length∧u6 rows i=r:=by
 obtain⟨i,hi,rfl⟩:=xkJ.mp h
 refine⟨i,hi,?_⟩
 have:=tL hi
 rw[xke hi] at this
 exact(xlj this).symm
theorem xhc (hf:xq rows=true)(FR:wG rows)(hw:w∈wd rows)(nz:d≠(0,0)):∃v∈wd rows,∃ij∈vb rows (tV rows (plc v)),InC (xH rows ij.1) (xH rows ij.2) d:=by
 obtain⟨_,dir,gr,_⟩:=sY hf
 have r0:∀r∈rows,r.1≠0∨r.2.1≠0:=fun r hr=>(dir r hr).1
 obtain⟨⟨hz,_,C⟩,_⟩:=FR.corner hw
 obtain⟨i,hi,j,hj,⟨t1,t2,t3⟩,k⟩:=Pol.lN (d:=(d.1,d.2,0)) (Pol.xcj r0 gr) (by
  refine xjj fun no=>nz ?_
  exact Prod.ext (by simp only at no;show d.1=0;omega) (by simp only at no;show d.2=0;omega)) r0 hz C.kept
 obtain⟨z,e1,e2⟩:=Pol.uA (show Pol.turn i j≠0 by omega)
 obtain⟨v,hv,sm⟩:=FR.fine.found z ⟨k,i,hi,j,hj,e1,e2,by omega⟩
 have hv:v∈wd rows:=vK.mpr hv
 obtain⟨⟨vz,_,_⟩,_⟩:=FR.corner hv
 obtain⟨a,ha,ea⟩:=xgy hi
 obtain⟨b,hb,eb⟩:=xgy hj
 have ma:a∈tV rows (plc v):=(gZ vz).mpr ⟨ha,by rw[ea];exact oQ z sm e1⟩
 have mb:b∈tV rows (plc v):=(gZ vz).mpr ⟨hb,by rw[eb];exact oQ z sm e2⟩
 refine⟨v,hv,?_⟩
 refine adj _ a b ma mb ?_ ⟨?_,?_⟩ (xk7 _)
 ·unfold xH;rw[ea,eb];exact t1
 ·unfold xH;rw[ea];exact t2
 ·unfold xH;rw[eb];exact t3
theorem uq.dual {rows:List Pol.R3}{x:SX}(u:Pol.R3):cr (xH rows x.1.1) (xH rows x.1.2)*(x.2.1*u.1+x.2.2*u.2.1)-(cr x.2 (xH rows x.1.2)*k2 (u6 rows x.1.1)+cr (xH rows x.1.1) x.2*k2 (u6 rows x.1.2))*u.2.2=cr x.2 (xH rows x.1.2)*Pol.val (u6 rows x.1.1) u+cr (xH rows x.1.1) x.2*Pol.val (u6 rows x.1.2) u:=by
 have e1:=pH (xH rows x.1.1) (xH rows x.1.2) x.2
 have ea:=e1.1;have eb:=e1.2
 generalize cr x.2 (xH rows x.1.2)=p at *
 generalize cr (xH rows x.1.1) x.2=q at *
 generalize cr (xH rows x.1.1) (xH rows x.1.2)=T at *
 have d1:(xH rows x.1.1)=((u6 rows x.1.1).1,(u6 rows x.1.1).2.1):=rfl
 have d2:(xH rows x.1.2)=((u6 rows x.1.2).1,(u6 rows x.1.2).2.1):=rfl
 rw[d1,d2] at ea eb
 simp only[Pol.val,k2] at *
 grind
theorem cU (h:ps≠[]):∃f,jT a b ps=some f:=by
 have key:∀(ps:List P2) (f:F2),∃g,ps.foldl (ka a b) (some f)=some g:=fun ps=>by
  induction ps with
  | nil=>exact fun f=>⟨f,rfl⟩
  | cons p ps ih =>
   intro f
   obtain⟨g,hg,_⟩:=nq (a:=a) (b:=b) (best:=some f) (p:=p)
   rw[xkb,hg]
   exact ih g
 cases ps with
 | nil=>exact absurd rfl h
 | cons p ps=>exact key ps _
theorem xeT (hf:xq rows=true)(G:uq rows x):xcf rows x=(x.2.1,x.2.2,(cr x.2 (xH rows x.1.2)*k2 (u6 rows x.1.1)+cr (xH rows x.1.1) x.2*k2 (u6 rows x.1.2)) / cr (xH rows x.1.1) (xH rows x.1.2)):=by
 have S:=G.lin k2
 unfold xcf
 rw[G.a hf,G.b hf,xjq _ (by have:=S.pf;omega),S.floor]
theorem cK (hf:xq rows=true)(FR:wG rows)(hv:v∈wd rows)(hx:x.1∈vb rows (tV rows (plc v)))(G:uq rows x)(e:jT x.2.1 x.2.2 ((wd rows).map plc)=some f):xcf rows x=(x.2.1,x.2.2,f.1.fdiv f.2):=by
 obtain⟨⟨vz,_,_⟩,_⟩:=FR.corner hv
 obtain⟨m1,m2,_⟩:=ao hx
 have D:=fun u=>uq.dual (rows:=rows) (x:=x) u
 have inc:=G.inc
 have pT:=G.pos
 rw[xeT hf G]
 rcases j1 _ none e with z | ⟨p,hp,ef⟩
 ·cases z
 obtain⟨u,hu,rfl⟩:=xkK.mp hp
 obtain⟨⟨uz,_,Cu⟩,_⟩:=FR.corner hu
 have Su:Sd f (x.2.1*u.1+x.2.2*u.2.1) u.2.2:=by rw[ef];exact cL (x.2.1,x.2.2,0) uz
 have Sv:Sd (qo (x.2.1,x.2.2,0) (plc v)) (x.2.1*v.1+x.2.2*v.2.1) v.2.2:=cL (x.2.1,x.2.2,0) vz
 have ge:=(xbF _ FR.pos none f (fun g z=>nomatch z) e).2 (plc v) (xkL hv)
 have lt:=Su.lt Sv
 have Dv:=D v
 have Du:=D u
 rw[((gZ vz).mp m1).2,((gZ vz).mp m2).2,xjO,xjO] at Dv
 have n1:0≤cr x.2 (xH rows x.1.2) * -Pol.val (u6 rows x.1.1) u:=Pol.pz inc.2 (by have:=Cu.kept _ (tG G.i1);omega)
 have n2:0≤cr (xH rows x.1.1) x.2 * -Pol.val (u6 rows x.1.2) u:=Pol.pz inc.1 (by have:=Cu.kept _ (tG G.i2);omega)
 rw[xjJ] at n1 n2
 have S:Sd f (cr x.2 (xH rows x.1.2)*k2 (u6 rows x.1.1)+cr (xH rows x.1.1) x.2*k2 (u6 rows x.1.2)) (cr (xH rows x.1.1) (xH rows x.1.2)):=by
  generalize cr x.2 (xH rows x.1.2)*k2 (u6 rows x.1.1)+cr (xH rows x.1.1) x.2*k2 (u6 rows x.1.2)=N at *
  generalize cr (xH rows x.1.1) (xH rows x.1.2)=T at *
  generalize x.2.1*u.1+x.2.2*u.2.1=U at *
  generalize x.2.1*v.1+x.2.2*v.2.1=V at *
  refine⟨Su.pf,pT,?_⟩
  have ge':V*u.2.2≤U*v.2.2:=by
   have:¬(U*v.2.2<V*u.2.2):=fun z=>by have:=lt.mpr z;omega
   omega
  have a1:T*(V*u.2.2)≤T*(U*v.2.2):=xjG ge' (by omega)
  have a2:T*U≤N*u.2.2:=by omega
  have a3:T*U*v.2.2≤N*u.2.2*v.2.2:=xjH a2 (by omega)
  have a4:T*V=N*v.2.2:=by omega
  have a5:T*V*u.2.2=N*v.2.2*u.2.2:=by rw[a4]
  have a6:T*U*v.2.2=N*u.2.2*v.2.2:=by
   have:T*(V*u.2.2)=T*V*u.2.2:=by grind
   have:T*(U*v.2.2)=T*U*v.2.2:=by grind
   have:N*v.2.2*u.2.2=N*u.2.2*v.2.2:=by grind
   omega
  have a7:T*U=N*u.2.2:=xjp (by omega) a6
  have eu:=Su.e
  refine xjp (a:=u.2.2) (by omega) ?_
  have:f.1*T*u.2.2=T*U*f.2:=by grind
  rw[this,a7]
  grind
 rw[xjq _ (by have:=S.pf;omega),S.floor]
theorem qf (p:α→Bool):∀(l:List α) (i:Nat) (a:α),((l.set i a).filter p).length≤(l.filter p).length+1
 | [],_,_=>by simp
 | x::l,0,a=>by
  simp only[List.set_cons_zero,xj5]
  split<;>split<;>simp<;>omega
 | x::l,i+1,a=>by
  have:=qf p l i a
  simp only[List.set_cons_succ,xj5]
  split<;>simp<;>omega
theorem xcY (G:uq rows x):((kR rows x).filter fun w=>!decide (w.1=0)).length≤2:=by
 unfold kR
 rw[xdS G.pos]
 have a:=qf (fun w:F2=>!decide (w.1=0)) ((List.replicate rows.length ((0:Int),(1:Int))).set x.1.1 (lfr (cr x.2 (xH rows x.1.2)) (cr (xH rows x.1.1) (xH rows x.1.2)))) x.1.2 (lfr (cr (xH rows x.1.1) x.2) (cr (xH rows x.1.1) (xH rows x.1.2)))
 have b:=qf (fun w:F2=>!decide (w.1=0)) (List.replicate rows.length ((0:Int),(1:Int))) x.1.1 (lfr (cr x.2 (xH rows x.1.2)) (cr (xH rows x.1.1) (xH rows x.1.2)))
 have c:(List.replicate rows.length ((0:Int),(1:Int))).filter (fun w:F2=>!decide (w.1=0))=[]:=xj8.mpr fun w hw=>by rw[(List.mem_replicate.mp hw).2];simp
 rw[c] at b
 simp only[xks] at b
 omega
def wF (rows:List Pol.R3):List (Nat×Nat):=(wd rows).flatMap fun v=>vb rows (tV rows (plc v))
def wtO (rows:List Pol.R3)(ij:Nat×Nat)(d:D2):Tr:=if 0≤cr (xH rows ij.1) d∧0≤cr d (xH rows ij.2) then wsT (kR rows (ij,d)) else .non
def xea (rows:List Pol.R3)(ij:Nat×Nat):Prop:=ij.1<rows.length∧ij.2<rows.length∧0<cr (xH rows ij.1) (xH rows ij.2)
def xhh (d:D2):Prop:=Bx 1000 d∧d≠(0,0)
def xdX:TSp:=fun ts KK=>∃(rows:List Pol.R3) (ij:Nat×Nat) (d:D2),ts=[.tup (rows.map trR),jr ij,drD d]∧xq rows=true∧xea rows ij∧xhh d∧KK (wtO rows ij d)
def xcd:TSp:=fun ts KK=>∃(rows:List Pol.R3) (d:D2),ts=[.tup (rows.map trR),.int d.1,.int d.2]∧xq rows=true∧wG rows∧wd rows≠[]∧xhh d∧∀(v:Pol.R3) (x:SX),v∈wd rows→x.1∈vb rows (tV rows (plc v))→uq rows x→x.2=d→KK (xe6 rows x)
def xb8 (ts:List Tr):Prop:=∃(rows:List Pol.R3) (a b:Tr),ts=[.tup (rows.map trR),a,b]∧xq rows=true∧wG rows∧wd rows=[]
def nQ:TSp:=fun ts KK=>∃(rows:List Pol.R3) (d:D2),ts=[.tup (rows.map trR),.lst ((wd rows).map yW),.int d.1,.int d.2]∧xq rows=true∧wG rows∧wd rows≠[]∧xhh d∧KK (.bl true)
theorem gD (h:ij∈wF rows):xea rows ij∧∃v∈wd rows,ij∈vb rows (tV rows (plc v)):=by
 obtain⟨v,hv,hm⟩:=List.mem_flatMap.mp h
 obtain⟨a,b,c⟩:=ao hm
 exact⟨⟨cB a,cB b,c⟩,v,hv,hm⟩
theorem fb (hf:xq rows=true):∀l:List Pol.R3,(l.flatMap fun v=>vb rows (tV rows (plc v))).length≤8*l.length
 | []=>by simp
 | v::l=>by
  have:=fb hf l
  have a:=l_ (rows:=rows) (nums:=tV rows (plc v))
  have b:=oS (rows:=rows) (p:=plc v)
  have:=(sY hf).1.2
  rw[List.flatMap_cons,xkm,xkn]
  omega
theorem bW (h:¬(0≤cr u x∧0≤cr x v)):kU u.1 u.2 v.1 v.2 (drD x)=.non:=by
 have e1:kU u.1 u.2 v.1 v.2 (drD x)=if x.1=0∧x.2=0 then .non else if tn x.1 x.2 v.1 v.2<0∨tn u.1 u.2 x.1 x.2<0 then .non else .tup [xan (tn x.1 x.2 v.1 v.2) (tn u.1 u.2 v.1 v.2),xan (tn u.1 u.2 x.1 x.2) (tn u.1 u.2 v.1 v.2)]:=rfl
 rw[e1]
 split
 ·rfl
 ·rw[if_pos]
  have a:tn x.1 x.2 v.1 v.2=cr x v:=rfl
  have b:tn u.1 u.2 x.1 x.2=cr u x:=rfl
  rw[a,b]
  omega
theorem xaD (h:0≤cr (xH rows ij.1) d∧0≤cr d (xH rows ij.2)):wtO rows ij d=wsT (kR rows (ij,d)):=if_pos h
theorem xdI (h:¬(0≤cr (xH rows ij.1) d∧0≤cr d (xH rows ij.2))):wtO rows ij d=.non:=if_neg h
end L2
namespace L2
open PySem
theorem xm (K:PySem.W.Frag)(i:Nat)(e:X.K=K:=by rfl)(hN:X.N[i]? = some x:=by rfl)(hv:Vis X.env.scope x:=by first | exact Or.inl rfl | exact Or.inr (Or.inl rfl) | exact Or.inr (Or.inr rfl))(hd:(x == ("__debug__" : Str))=false:=by decide)
  (hcd:(x == ("__classdict__" : Str))=false:=by decide):PE X (.Subscript (.Name x p) (.Constant (.int n) j q) r) (tOp (rIx K) (sZ i) (tC (.int n))):=zV (yJ K e) (pv i hN hv hd hcd) xg (fun _ _=>rfl)
theorem xn:OkE K true (tOp (rIx K) (sZ i) (tC (.int n))) (d2 fIx (bh i) (dC (Tr.int n))):=vR xa (xad (t:=Tr.int _))
theorem yZ (a:PE X e te)(h:starEach [e] X.env=(false,eval e X.env)::starEach [] X.env:=by rfl):PA X [e] (vD te lR):=xQ a uV h
theorem xU (a:PE X e te)(b:PE X f tf)(h:starEach [f] X.env=(false,eval f X.env)::starEach [] X.env:=by rfl)(g:starEach [e,f] X.env=(false,eval e X.env)::starEach [f] X.env:=by rfl):PA X [e,f] (vD te (vD tf lR)):=xQ a (xQ b uV h) g
theorem xZ (h:OkE K b te de):OkA K b 1 (vD te lR) (rg de xfv):=xJ h um
theorem xx (h:OkE K b te de)(g:OkE K b tf df):OkA K b 2 (vD te (vD tf lR)) (rg de (rg df xfv)):=xJ h (xJ g um)
theorem xr:OkE K true (tC (.int i)) (dC (.int i)):=xad
theorem kD:OkE K true (tC (.bl i)) (dC (.bl i)):=xad
theorem yj (h:sc.kind=.function∧sc.isCoroutine=false∧sc.isGenerator=false∧N.Nodup∧N.take P.length=P∧(∀x∈P,sc.names.lookup x=some .local∨sc.names.lookup x=some .cell)∧∀y∈sc.names,y.2≠.free:=by decide +kernel):xw N P sc:=⟨h.1,h.2.1,h.2.2.1,h.2.2.2.1,h.2.2.2.2.1,h.2.2.2.2.2.1,h.2.2.2.2.2.2⟩
theorem yG (i:Nat)(hN:X.N.Nodup)(hi:X.N[i]? = some x:=by rfl)(hx:X.env.scope.names.lookup x=some .local:=by rfl):PG X (.Name x pos) (gJ i):=xY hN hi (.inl hx) (.inr hx)
theorem yC (i:Nat)(hN:X.N.Nodup)(he:PE X e te)(hi:X.N[i]? = some x:=by rfl)(hx:X.env.scope.names.lookup x=some .local:=by rfl)(hs:swapsWith e (some (.Name x pos')) pos.line X.env=pure false:=by rfl):PS X (.Assign [.Name x pos'] e pos) (xc2 te (gJ i)):=uf hN hi (.inl hx) he hs (.inr hx)
end L2
namespace K11
open PySem L2 Trn
def top (i:Nat):Stmt:=PySem.Challenge.pw_roundcuts_k11_least_cuts_of_directions.main.body.getD i (.Pass ⟨0,0,0,0⟩)
abbrev gk:Stmt:=top 13
abbrev vW:Stmt:=top 14
abbrev wD:Stmt:=top 15
abbrev r6:Stmt:=top 16
abbrev xa8:Stmt:=top 17
abbrev bR:Stmt:=top 18
abbrev vy:Stmt:=top 21
abbrev qM:Stmt:=top 22
abbrev j_:Stmt:=top 23
abbrev v8:Stmt:=top 24
abbrev k8:Stmt:=top 25
abbrev aO:Stmt:=top 26
abbrev wy:Stmt:=top 27
abbrev qN:Stmt:=top 28
abbrev gj:Stmt:=top 29
abbrev a_:Stmt:=top 31
abbrev pC:Stmt:=top 32
abbrev j0:Stmt:=top 33
abbrev dw:Stmt:=top 34
abbrev j5:Stmt:=top 35
abbrev j8:Stmt:=top 36
abbrev qd:Stmt:=top 37
abbrev vH:Stmt:=top 39
abbrev vn:Stmt:=top 40
abbrev jD:Stmt:=top 41
abbrev kF:Stmt:=top 42
abbrev dS:Stmt:=top 44
abbrev wx:Stmt:=top 45
abbrev cO:Stmt:=top 47
abbrev k_:Stmt:=top 48
abbrev vh:Stmt:=top 49
abbrev jW:Stmt:=top 51
abbrev vV:Stmt:=top 52
abbrev wg:Stmt:=top 53
abbrev vp:Stmt:=top 54
abbrev wN:Stmt:=top 55
abbrev ff:Stmt:=top 57
abbrev uN:Stmt:=top 58
abbrev rW:Stmt:=top 59
abbrev gu:Stmt:=top 60
abbrev y_:Stmt:=top 61
abbrev vx:Stmt:=top 63
abbrev q9:Stmt:=top 64
abbrev kY:Stmt:=top 65
abbrev ud:Stmt:=top 66
abbrev vv:Stmt:=top 67
abbrev jX:Stmt:=top 68
abbrev uG:Stmt:=top 69
abbrev qB:Stmt:=top 70
abbrev qO:Stmt:=top 71
abbrev jo:Stmt:=top 72
abbrev qE:Stmt:=top 73
abbrev qy:Stmt:=top 74
abbrev qt:Stmt:=top 75
abbrev wI:Stmt:=top 76
abbrev we:Stmt:=top 77
abbrev w_:Stmt:=top 78
abbrev uC:Stmt:=top 79
abbrev js:Stmt:=top 80
abbrev vN:Stmt:=top 81
abbrev j2:Stmt:=top 82
abbrev qU:Stmt:=top 83
abbrev wo:Stmt:=top 84
abbrev wY:Stmt:=top 85
abbrev ue:Stmt:=top 86
abbrev sr:Stmt:=top 87
theorem bZ:xw ["thing"] ["thing"] (xf gk):=yj
theorem mL:xw ["things"] ["things"] (xf vW):=yj
theorem zT:xw ["one", "other"] ["one", "other"] (xf wD):=yj
theorem ng:xw ["top", "bottom", "shared"] ["top", "bottom"] (xf r6):=yj
theorem xeC:xw ["one", "other"] ["one", "other"] (xf xa8):=yj
theorem xcG:xw ["whole", "fraction"] ["whole", "fraction"] (xf bR):=yj
theorem fg:xw ["rows"] ["rows"] (xf vy):=yj
theorem tu:xw ["rows"] ["rows"] (xf qM):=yj
theorem kZ:xw ["piece", "rows", "row"] ["piece", "rows"] (xf j_):=yj
theorem nE:xw ["piece"] ["piece"] (xf v8):=yj
theorem z_:xw ["piece", "row", "left", "at", "corner", "before", "crossing"] ["piece", "row"] (xf k8):=yj
theorem uY:xw ["row", "corner", "a", "b", "c", "x", "y", "bottom"] ["row", "corner"] (xf aO):=yj
theorem yD:xw ["row", "one", "other", "one_off", "other_off", "x", "y", "bottom", "shared"] ["row", "one", "other"] (xf wy):=yj
theorem wq:xw ["piece", "start", "at", "corner"] ["piece"] (xf qN):=yj
theorem cF:xw ["one", "other"] ["one", "other"] (xf gj):=yj
theorem xbt:xw ["thing"] ["thing"] (xf a_):=yj
theorem xdc:xw ["row", "place"] ["row", "place"] (xf pC):=yj
theorem jq:xw ["row", "place", "top", "bottom"] ["row", "place"] (xf j0):=yj
theorem lT:xw ["one", "other"] ["one", "other"] (xf dw):=yj
theorem qb:xw ["rows", "first", "left", "right"] ["rows"] (xf j5):=yj
theorem vM:xw ["first", "rows", "sign", "last", "row"] ["first", "rows", "sign"] (xf j8):=yj
theorem kX:xw ["first", "rows", "row"] ["first", "rows"] (xf qd):=yj
theorem cq:xw ["thing"] ["thing"] (xf vH):=yj
theorem wj:xw ["thing", "a", "b", "c"] ["thing"] (xf vn):=yj
theorem lD:xw ["place"] ["place"] (xf jD):=yj
theorem rm:xw ["thing"] ["thing"] (xf kF):=yj
theorem lL:xw ["field"] ["field"] (xf dS):=yj
theorem gK:xw ["rows", "place"] ["rows", "place"] (xf wx):=yj
theorem tH:xw ["one", "other", "thing", "turn", "of_one", "of_other"] ["one", "other", "thing"] (xf cO):=yj
theorem gE:xw ["one", "other", "turn"] ["one", "other"] (xf k_):=yj
theorem fP:xw ["thing"] ["thing"] (xf vh):=yj
theorem bY:xw ["field", "place"] ["field", "place"] (xf jW):=yj
theorem ua:xw ["rows", "numbers", "pairs", "number", "beside"] ["rows", "numbers"] (xf vV):=yj
theorem y8:xw ["rows", "numbers", "number", "nearest", "other"] ["rows", "numbers", "number"] (xf wg):=yj
theorem fm:xw ["row"] ["row"] (xf vp):=yj
theorem yP:xw ["field", "pair", "direction", "one", "other", "shares", "weights"] ["field", "pair", "direction"] (xf wN):=yj
theorem fO:xw ["rows", "weights", "tops", "bottom"] ["rows", "weights"] (xf ff):=yj
theorem yA:xw ["rows", "weights", "used", "bottom", "row", "weight", "tops", "many"] ["rows", "weights"] (xf uN):=yj
theorem jV:xw ["totals", "a", "b", "c"] ["totals"] (xf rW):=yj
theorem pq:xw ["field", "weights"] ["field", "weights"] (xf gu):=yj
theorem yT:xw ["field", "a", "b", "places", "pairs", "towards", "fitting"] ["field", "a", "b"] (xf y_):=yj
theorem fQ:xw ["_law_script", "_law_k"] ["_law_script", "_law_k"] (xf vx):=yj
theorem jO:xw ["_law_script", "_law_k", "_law_cell"] ["_law_script", "_law_k"] (xf q9):=yj
theorem u9:xw ["_law_state_here", "_law_many", "_law_found", "_law_stirred"] ["_law_state_here", "_law_many"] (xf kY):=yj
theorem xW:xw ["_law_state_here", "_law_way", "_law_rows", "_law_a", "_law_b", "_law_by", "_law_turn", "_law_near", "_law_k", "_law_some", "_law_u", "_law_v"] ["_law_state_here"] (xf ud):=yj
theorem kA:xw ["_law_one", "_law_other"] ["_law_one", "_law_other"] (xf vv):=yj
theorem jc:xw ["_law_top", "_law_bottom", "_law_by"] ["_law_top", "_law_bottom"] (xf jX):=yj
theorem uo:xw ["_law_one", "_law_other", "_law_by", "_law_x"] ["_law_one", "_law_other"] (xf uG):=yj
theorem qg:xw ["_law_row", "_law_place", "_law_x", "_law_y"] ["_law_row", "_law_place"] (xf qB):=yj
theorem jG:xw ["_law_row", "_law_place", "_law_here"] ["_law_row", "_law_place"] (xf qO):=yj
theorem nG:xw ["_law_one", "_law_other"] ["_law_one", "_law_other"] (xf jo):=yj
theorem td:xw ["_law_one", "_law_other"] ["_law_one", "_law_other"] (xf qE):=yj
theorem aL:xw ["_law_one", "_law_other"] ["_law_one", "_law_other"] (xf qy):=yj
theorem jL:xw ["_law_one", "_law_other", "_law_third", "_law_first"] ["_law_one", "_law_other", "_law_third"] (xf qt):=yj
theorem yQ:xw ["_law_places", "_law_some", "_law_place", "_law_ahead", "_law_found", "_law_k", "_law_here"] ["_law_places"] (xf wI):=yj
theorem gL:xw ["_law_here", "_law_place", "_law_some"] ["_law_here", "_law_place", "_law_some"] (xf we):=yj
theorem zz:xw ["_law_rows", "_law_found", "_law_at", "_law_other", "_law_place"] ["_law_rows"] (xf w_):=yj
theorem za:xw ["_law_places", "_law_a", "_law_b", "_law_found", "_law_place", "_law_here"] ["_law_places", "_law_a", "_law_b"] (xf uC):=yj
theorem mh:xw ["_law_one", "_law_other"] ["_law_one", "_law_other"] (xf js):=yj
theorem zQ:xw ["_law_rows", "_law_weights", "_law_found", "_law_row", "_law_weight", "_law_at"] ["_law_rows", "_law_weights"] (xf vN):=yj
theorem vQ:xw ["_law_rows", "_law_weights", "_law_a", "_law_b", "_law_c"] ["_law_rows", "_law_weights"] (xf j2):=yj
theorem rj:xw ["_law_thing"] ["_law_thing"] (xf qU):=yj
theorem jm:xw ["_law_thing"] ["_law_thing"] (xf wo):=yj
theorem yY:xw ["_law_call", "_law_error", "e", "_law_kinds"] ["_law_call"] (xf wY):=yj
theorem uy:xw ["_law_field_here", "_law_some", "_law_a", "_law_b", "_law_most", "_law_found", "_law_weights"] ["_law_field_here", "_law_some", "_law_a", "_law_b"] (xf ue):=yj
theorem kh:xw ["_law_script", "_law_k", "_law_state_here", "_law_field_here", "_law_some", "_law_turn", "_law_a", "_law_b"] ["_law_script"] (xf sr):=yj
abbrev bn:List Str:=["len", "range", "max", "min", "abs", "isinstance", "tuple", "list", "int", "bool", "str", "dict", "all", "zip", "enumerate", "ValueError"]
section
variable {P:Program} {w:World} {K:PySem.W.Frag} {mg:Str→Option Value} {base:Heap} {f:Addr} {fd:FuncData}
theorem fV (B:Blt mg bn)(F:Fun K "_law_cell_at" "_law_cell_at" vx f fd)(m:mg "_law_cell_at" = some (.ref f))(b:Binds K fd ["_law_script", "_law_k"] []):Own P w K mg base 1 "_law_cell_at" ["_law_script", "_law_k"] (xdK K):=by
 refine sJ F fQ m b (fun vs H Q E h=>?_) (fun cdv A outer s H vs Q E hr h=>?_)
 ·obtain⟨a,ns,k,rfl,_⟩:=h
  rfl
 obtain⟨a,ns,k,rfl,hS,h63,h0,q⟩:=h
 refine⟨_,(xc (yE (xO xg3 (pv 1) (xF (yB K) rfl (B.get "len") ug (xQ (pv 0) uV)) (xR _)) (xh (xE (zV (vd K) (pv 0) (pv 1) (fun _ _=>rfl)))) xV)
  (xh (xE xg))),?_⟩
 refine⟨_,rfl,_,rfl,a,_,rfl,.inl hS,_,_,rfl,rfl,_,rfl,?_⟩
 have hl:(ns.map V.int).length=ns.length:=xkr _
 refine xig (fun c=>?_) (fun c=>?_)
 ·have c':=xlr c
  rw[hl] at c'
  obtain⟨v,hv⟩:=xcW h0 c'
  exact⟨_,rfl,_,rfl,a,_,_,_,rfl,rfl,hS,hv,q v⟩
 ·exact q 0
theorem aW (F:Fun K "_law_state" "_law_state" q9 f fd)(m:mg "_law_state" = some (.ref f))(b:Binds K fd ["_law_script", "_law_k"] [])(vt:Own P w K mg base 1 "_law_cell_at" ["_law_script", "_law_k"] (xdK K)) :
  Own P w K mg base 2 "_law_state" ["_law_script", "_law_k"] (bH K):=by
 refine sJ F jO m b (fun vs H Q E h=>?_) (fun cdv A outer s H vs Q E hr h=>?_)
 ·obtain⟨a,ns,k,rfl,_⟩:=h
  rfl
 obtain⟨a,ns,k,rfl,hS,h63,h0,q⟩:=h
 refine⟨_,(xc (uf (i:=2) jO.nd rfl (Or.inl rfl) (xo vt hr (xQ (pv 0) (xQ (pv 1) uV))))
  (xc (yE (xO xhF (pv 2) (xG xeb xg xg) (xR _)) (xh (xE (zb (xQ (xG zF (pv 2) (xG xeb xg xg)) (xQ vT uV))))) xV)
  (xh (xE (zb (xQ (xG ak (pv 2) xg) (xQ vT uV))))))),?_⟩
 refine⟨_,rfl,_,rfl,a,ns,k,rfl,hS,h63,h0,fun n=>?_⟩
 have pw:xiE 10 18:=⟨by decide,by decide,by decide⟩
 refine⟨_,rfl,_,_,rfl,rfl,pw,_,_,rfl,rfl,_,rfl,?_⟩
 refine xig (fun c=>?_) (fun c=>?_)
 ·have c':n≥10 ^ (18:Int).toNat:=xlr c
  refine⟨_,rfl,_,_,rfl,rfl,pw,_,_,rfl,rfl,(by show 2≤sizeLine;decide),fun p hp=>q p _ _ hp ⟨?_,fun z=>by cases z⟩⟩
  show 0≤n-10 ^ (18:Int).toNat
  omega
 ·refine⟨_,rfl,_,_,rfl,rfl,(by show(0:Int)<2147483647;decide),(by show 2≤sizeLine;decide),fun p hp=>q p _ _ hp ⟨?_,fun _=>?_⟩⟩
  ·show 0≤n % 2147483647
   omega
  ·show n % 2147483647<2147483647
   omega
theorem nI (F:Fun K "_law_take" "_law_take" kY f fd)(m:mg "_law_take" = some (.ref f))(b:Binds K fd ["_law_state_here", "_law_many"] []):Own P w K mg base 1 "_law_take" ["_law_state_here", "_law_many"] xdH:=by
 refine sJ F u9 m b (fun vs H Q E h=>?_) (fun cdv A outer s H vs Q E hr h=>?_)
 ·obtain⟨p,k,rfl,_⟩:=h
  rfl
 obtain⟨p,many,rfl,⟨n,bb,hp,hn,hb⟩,h0,h1,q⟩:=h
 refine⟨_,(xc (yE (yX (zV (vd K) (pv 0) xg (fun _ _=>rfl))) (xc (uf (i:=2) u9.nd rfl (Or.inl rfl) (xG ak (zV (vd K) (pv 0) xg (fun _ _=>rfl)) (pv 1)))
  (xc (wH (xG p8 (zV (vd K) (pv 0) xg (fun _ _=>rfl)) (pv 1)) (m_ (pv 0) xg set_list))
  (xh (xE (pv 2))))) xV)
  (xc (wH (xG ak (xG wa (xG t4 (zV (vd K) (pv 0) xg (fun _ _=>rfl)) xg) xg) xg) (m_ (pv 0) xg set_list))
  (xc (uf (i:=3) u9.nd rfl (Or.inl rfl) (xG ak (xG wa (xG wa (xG t4 (zV (vd K) (pv 0) xg (fun _ _=>rfl)) (zV (vd K) (pv 0) xg (fun _ _=>rfl))) (xG t4 xg (zV (vd K) (pv 0) xg (fun _ _=>rfl)))) xg) xg))
  (xc (uf (i:=3) u9.nd rfl (Or.inl rfl) (xG ak (xG wa (xG t4 (pv 3) (pv 3)) (xG t4 xg (pv 3))) xg))
  (xh (xE (xG ak (xG p8 (pv 3) xg) (pv 1)))))))),?_⟩
 refine⟨_,rfl,p,_,_,_,rfl,rfl,SqL.of hp,rfl,bb,rfl,?_⟩
 have fin:∀(r n':Int),0≤r→r<many→xh5 n' bb→Q (.int r) (upd H p (.lst [.int n',.bl bb])):=fun r n' h2 h3 h4=>q r _ h2 h3 ⟨fun b o hb k=>by rw[xX hb];exact k,n',bb,x9,h4⟩
 cases bb with
 | true =>
  refine o9 ?_
  refine⟨_,rfl,p,_,_,_,rfl,rfl,SqL.of hp,rfl,_,rfl,_,_,rfl,rfl,h0,?_⟩
  refine⟨_,rfl,p,_,_,_,rfl,rfl,SqL.of hp,rfl,_,rfl,_,_,rfl,rfl,fi h0 h1,?_⟩
  refine⟨_,rfl,p,_,_,0,rfl,rfl,hp,rfl,?_⟩
  refine⟨_,rfl,?_⟩
  exact fin _ _ (xjo _ (by omega)) (xjn _ h0) ⟨Int.ediv_nonneg hn (by omega),fun z=>by cases z⟩
 | false =>
  refine bc ?_
  have hb':=hb rfl
  have cm:∀(i j:Int),0≤i→i<2147483700→xho i j:=fun i j a b=>.inl ⟨by omega,by omega⟩
  refine⟨_,rfl,p,_,_,_,rfl,rfl,SqL.of hp,rfl,_,_,rfl,rfl,cm _ _ hn (by omega),_,_,rfl,rfl,_,_,rfl,rfl,(by show(0:Int)<2147483647;decide),?_⟩
  refine⟨_,rfl,p,_,_,0,rfl,rfl,hp,rfl,?_⟩
  have hz:∃z:Int,(n*48271+29) % 2147483647=z∧0≤z∧z<2147483647:=⟨_,rfl,by omega,by omega⟩
  obtain⟨z,ez,z0,z1⟩:=hz
  have hp':(upd H p (.lst [.int z,.bl false])) p=some (.lst [.int z,.bl false]):=x9
  show xfG _ _ _ _ (upd H p (.lst [.int ((n*48271+29) % 2147483647),.bl false]))
  rw[ez]
  refine⟨_,rfl,p,_,_,_,rfl,rfl,SqL.of hp',rfl,_,rfl,p,_,_,_,rfl,rfl,SqL.of hp',rfl,_,_,rfl,rfl,cm _ _ z0 (by omega),?_⟩
  refine⟨_,rfl,p,_,_,_,rfl,rfl,SqL.of hp',rfl,_,_,rfl,rfl,.inl ⟨by decide,by decide⟩,_,_,rfl,rfl,_,_,rfl,rfl,_,_,rfl,rfl,(by show(0:Int)<2147483629;decide),?_⟩
  have hy:∃y:Int,(z*z+39373*z+7) % 2147483629=y∧0≤y∧y<2147483629:=⟨_,rfl,xjo _ (by decide),xjn _ (by decide)⟩
  obtain⟨y,ey,y0,y1⟩:=hy
  show xfG _ _ _ [_,_,_,some (.int ((z*z+39373*z+7) % 2147483629))] _
  rw[ey]
  refine⟨_,rfl,_,rfl,_,_,rfl,rfl,cm _ _ y0 (by omega),_,rfl,_,_,rfl,rfl,.inl ⟨by decide,by decide⟩,_,_,rfl,rfl,_,_,rfl,rfl,(by show(0:Int)<2147483587;decide),?_⟩
  refine⟨_,rfl,_,_,rfl,rfl,fi (by decide) (by decide),_,rfl,_,_,rfl,rfl,h0,?_⟩
  exact fin _ _ (xjo _ (by omega)) (xjn _ h0) ⟨z0,fun _=>z1⟩
end
end K11
namespace K11
open PySem L2 Trn
section
variable {P:Program} {w:World} {K:PySem.W.Frag} {mg:Str→Option Value} {base:Heap} {f:Addr} {fd:FuncData}
theorem dM {kl j:Nat}(B:Blt mg bn)(F:Fun K "_law_refused" "_law_refused" wY f fd)(m:mg "_law_refused" = some (.ref f))(b:Binds K fd ["_law_call"] [])(hj:j<10){C a_CutError:Addr}(Z:lM K C)(m_CutError:mg "CutError" = some (.ref a_CutError))(i_CutError:PySem.W.exmOne K (.ref C) (.ref a_CutError)=some true)(i_ValueError:PySem.W.kitOne K (.ref C) (.type "ValueError")=some true)
  {a_NoField:Addr} (m_NoField:mg "NoField" = some (.ref a_NoField)) (i_NoField:PySem.W.kitOne K (.ref C) (.ref a_NoField)=some (decide (j=0)))
  {a_NoWeights:Addr} (m_NoWeights:mg "NoWeights" = some (.ref a_NoWeights)) (i_NoWeights:PySem.W.kitOne K (.ref C) (.ref a_NoWeights)=some (decide (j=1)))
  {a_NoCut:Addr} (m_NoCut:mg "NoCut" = some (.ref a_NoCut)) (i_NoCut:PySem.W.kitOne K (.ref C) (.ref a_NoCut)=some (decide (j=2)))
  {a_Nothing:Addr} (m_Nothing:mg "Nothing" = some (.ref a_Nothing)) (i_Nothing:PySem.W.kitOne K (.ref C) (.ref a_Nothing)=some (decide (j=3)))
  {a_NoTurn:Addr} (m_NoTurn:mg "NoTurn" = some (.ref a_NoTurn)) (i_NoTurn:PySem.W.kitOne K (.ref C) (.ref a_NoTurn)=some (decide (j=4)))
  {a_NoCorner:Addr} (m_NoCorner:mg "NoCorner" = some (.ref a_NoCorner)) (i_NoCorner:PySem.W.kitOne K (.ref C) (.ref a_NoCorner)=some (decide (j=5)))
  {a_NoNumber:Addr} (m_NoNumber:mg "NoNumber" = some (.ref a_NoNumber)) (i_NoNumber:PySem.W.kitOne K (.ref C) (.ref a_NoNumber)=some (decide (j=6)))
  {a_NoText:Addr} (m_NoText:mg "NoText" = some (.ref a_NoText)) (i_NoText:PySem.W.kitOne K (.ref C) (.ref a_NoText)=some (decide (j=7)))
  {a_NoLine:Addr} (m_NoLine:mg "NoLine" = some (.ref a_NoLine)) (i_NoLine:PySem.W.kitOne K (.ref C) (.ref a_NoLine)=some (decide (j=8)))
  {a_NoDeed:Addr} (m_NoDeed:mg "NoDeed" = some (.ref a_NoDeed)) (i_NoDeed:PySem.W.kitOne K (.ref C) (.ref a_NoDeed)=some (decide (j=9))) :
  Own P w K mg base (kl+1) "_law_refused" ["_law_call"] (xcw P w K mg base kl C j):=by
 refine sJ F yY m b (fun vs H Q E h=>?_) (fun cdv A outer s H vs Q E hr h=>?_)
 ·obtain⟨g,KX,rfl,_⟩:=h
  rfl
 obtain⟨g,KX,rfl,hfn,hl,q⟩:=h
 refine⟨_,xc (yC 1 yY.nd ju) (xff (i:=2) (j:=1) (c:=0) (C:=C) (g:=g) (LP:=fun H1=>H1=H) (KX:=fun _ H1=>KX H1) rfl rfl yY.nd rfl rfl rfl rfl (Or.inl rfl) (Or.inl rfl) rfl rfl m_CutError i_CutError rfl rfl rfl rfl rfl rfl rfl hfn
  (fun pins σ H1 s1 I e=>by cases e;exact hl _ _ _ hr I.env0) (fun ea oe hcl =>
  (xc (uf (i:=3) yY.nd rfl (Or.inr rfl) (zb (xQ (xF (zR (ea:=ea) xkG hcl Z i_NoField) (by rfl) (B.get "isinstance") xP (xU (pv 1) (zg (v:=V.ref a_NoField) (by rfl) m_NoField rfl))) (xU (xF (zR (ea:=ea) xkG hcl Z i_NoWeights) (by rfl) (B.get "isinstance") xP (xU (pv 1) (zg (v:=V.ref a_NoWeights) (by rfl) m_NoWeights rfl))) (xF (zR (ea:=ea) xkG hcl Z i_NoCut) (by rfl) (B.get "isinstance") xP (xU (pv 1) (zg (v:=V.ref a_NoCut) (by rfl) m_NoCut rfl)))))))
  (xc (uf (i:=3) yY.nd rfl (Or.inr rfl) (xG aj (pv 3) (zb (xQ (xF (zR (ea:=ea) xkG hcl Z i_Nothing) (by rfl) (B.get "isinstance") xP (xU (pv 1) (zg (v:=V.ref a_Nothing) (by rfl) m_Nothing rfl))) (xU (xF (zR (ea:=ea) xkG hcl Z i_NoTurn) (by rfl) (B.get "isinstance") xP (xU (pv 1) (zg (v:=V.ref a_NoTurn) (by rfl) m_NoTurn rfl))) (xF (zR (ea:=ea) xkG hcl Z i_NoCorner) (by rfl) (B.get "isinstance") xP (xU (pv 1) (zg (v:=V.ref a_NoCorner) (by rfl) m_NoCorner rfl))))))))
  (xc (uf (i:=3) yY.nd rfl (Or.inr rfl) (xG aj (pv 3) (zb (xQ (xF (zR (ea:=ea) xkG hcl Z i_NoNumber) (by rfl) (B.get "isinstance") xP (xU (pv 1) (zg (v:=V.ref a_NoNumber) (by rfl) m_NoNumber rfl))) (xU (xF (zR (ea:=ea) xkG hcl Z i_NoText) (by rfl) (B.get "isinstance") xP (xU (pv 1) (zg (v:=V.ref a_NoText) (by rfl) m_NoText rfl))) (xF (zR (ea:=ea) xkG hcl Z i_NoLine) (by rfl) (B.get "isinstance") xP (xU (pv 1) (zg (v:=V.ref a_NoLine) (by rfl) m_NoLine rfl))))))))
  (xc (vj (aZ PySem.F.plainAttrs_list PySem.F.slot_list_append PySem.F.type_list_append uc (pv 3) (yZ (xF (zR (ea:=ea) xkG hcl Z i_NoDeed) (by rfl) (B.get "isinstance") xP (xU (pv 1) (zg (v:=V.ref a_NoDeed) (by rfl) m_NoDeed rfl))))))
  (xc (yE (zH (yX (xF (xb7 (ea:=ea) xkG hcl Z i_ValueError) (by rfl) (B.get "isinstance") xP (xU (pv 1) (uX (v:=V.ty "ValueError") (by rfl) (B.get "ValueError") tD rfl))))) j6 xV)
  (xh (xE (zU (yf (N:=["_law_k", "_law_kinds"]) (tau:=[none,some 3]) (XN:=["_law_call", "_law_error", "e", "_law_kinds"]) (xs:=xf wY) (by decide +kernel) rfl rfl) rfl (zL rfl) (uH rfl (B.get "range") (yZ xg)) (fun _ _ _ _=>(xY (i:=0) (show(["_law_k", "_law_kinds"]:List Str).Nodup by decide +kernel) rfl (Or.inl rfl))) (fun _ _ _ _=>(uM (yX (zV (yJ K) (pv 1) (pv 0) (fun _ _=>rfl))))) (fun _ _ _ _=>(pv 0)))))))))))),?_⟩
 refine⟨rfl,rfl,fun ea oe H1 kx=>?_⟩
 refine xfO (j:=j) (xj (zC (kj (xJ qL (xx qL qL))))
  (xj (zC (pV (uR (b:=true) (xJ qL (xx qL qL)))))
  (xj (zC (pV (uR (b:=true) (xJ qL (xx qL qL)))))
  (xj (qx qL)
  (xj (yg (yO (yy qL)) qD xN)
  (xaK (i:=3) (jB (yu (wK (xZ xr)).c xk (yy (vR xa xa)) xa)))))))) ?_ fun H2 a e1 e2 e3=>q H1 H2 a kx e1 e2 e3
 refine⟨rfl,rfl,rfl,?_⟩
 refine⟨rfl,rfl,rfl,(show 6≤sizeLine by decide),?_⟩
 refine⟨rfl,rfl,rfl,(show 9≤sizeLine by decide),?_⟩
 refine⟨rfl,(show 9<sizeLine by decide),?_⟩
 refine⟨rfl,?_⟩
 refine⟨by decide,(show 10<sizeLine by decide),?_⟩
 have hs:j=0∨j=1∨j=2∨j=3∨j=4∨j=5∨j=6∨j=7∨j=8∨j=9:=by omega
 clear q kx hl hr
 rcases hs with rfl | rfl | rfl | rfl | rfl | rfl | rfl | rfl | rfl | rfl<;>rfl
end
section
variable {P:Program} {w:World} {K:PySem.W.Frag} {mg:Str→Option Value} {base:Heap} {f:Addr} {fd:FuncData}
end
end K11
namespace K11
open PySem L2 Trn
section
variable {P:Program} {w:World} {K:PySem.W.Frag} {mg:Str→Option Value} {base:Heap} {f:Addr} {fd:FuncData}
theorem pI (B:Blt mg bn)(F:Fun K "is_whole" "is_whole" gk f fd)(m:mg "is_whole" = some (.ref f))(b:Binds K fd ["thing"] [])  :
  Own P w K mg base 1 "is_whole" ["thing"] (spT 1 false false oi):=by
 refine xA F bZ m b rfl (fun _ _ _ _ _ _ hr=>⟨_,_,
  (xh (xE (nr (xF wX rfl (B.get "isinstance") xP (xU (pv 0) (uX (v:=V.ty "int") rfl (B.get "int") xec rfl))) (dX (xdM (xF wX rfl (B.get "isinstance") xP (xU (pv 0) (uX (v:=V.ty "bool") rfl (B.get "bool") xbQ rfl)))))))),
  (xB (fU (kW xa) (xar (kW xa)))),fun ts KK hl h=>?_⟩)
 obtain⟨t,rfl,k⟩:=h
 cases t<;>exact k
theorem nM (B:Blt mg bn)(F:Fun K "are_whole" "are_whole" vW f fd)(m:mg "are_whole" = some (.ref f))(b:Binds K fd ["things"] [])(h_:Own P w K mg base 1 "is_whole" ["thing"] (spT 1 false false oi)) :
  Own P w K mg base 2 "are_whole" ["things"] (spT 1 false false fw):=by
 refine xA F mL m b rfl (fun _ _ _ _ _ _ hr=>⟨_,_,
  (xh (xE (xF (kP K rfl) rfl (B.get "all") oT (yZ (zU (yf (N:=["thing"]) (tau:=[none]) (XN:=["things"]) (xs:=xf vW) (by decide +kernel) rfl rfl) rfl (zL rfl) (yN K (pv 0)) (fun _ _ _ _=>(xY (i:=0) (show(["thing"]:List Str).Nodup by decide +kernel) rfl (Or.inl rfl))) (fun _ _ _ _=>wL) (fun _ _ _ _=>(xo h_ hr (yZ (pv 0))))))))),
  (xB (yM rp (xZ (OkF.e (yu (yx xa).c xk zE (xy (xZ xa))))))),fun ts KK hl h=>?_⟩)
 obtain⟨t,rfl,us,hs,hz,k⟩:=h
 rcases hs with rfl | rfl
 ·refine⟨hz,kI (fun x=>.bl (xfH x)) (fun x _ N hN=>⟨x,rfl,hN⟩) ⟨us.map xfH,by rw[xkA];rfl,?_⟩⟩
  simpa using k
 ·refine⟨hz,kI (fun x=>.bl (xfH x)) (fun x _ N hN=>⟨x,rfl,hN⟩) ⟨us.map xfH,by rw[xkA];rfl,?_⟩⟩
  simpa using k
theorem jn (B:Blt mg bn)(F:Fun K "greatest_divisor" "greatest_divisor" wD f fd)(m:mg "greatest_divisor" = some (.ref f))(b:Binds K fd ["one", "other"] [])  :
  Own P w K mg base 1 "greatest_divisor" ["one", "other"] (spT 2 false false xey):=by
 refine xA F zT m b rfl (fun _ _ _ _ _ _ hr=>⟨_,_,
  (xc (mX (i:=0) (j:=1) rfl zT.nd rfl rfl (by decide) rfl rfl (xU (xF uw rfl (B.get "abs") jF (yZ (pv 0))) (xF uw rfl (B.get "abs") jF (yZ (pv 1)))) (by rfl))
  (xc (oE PassesOwn.never (xO (zX hr.units) (pv 1) xg (xR _)) (xh (mX (i:=0) (j:=1) rfl zT.nd rfl rfl (by decide) rfl rfl (xU (pv 1) (xG xaj (pv 0) (pv 1))) (by rfl))))
  (xh (xE (pv 0))))),
  (xj (f_ (xx (yM jt (xZ xa)) (yM jt (xZ xa))))
  (xj (my (xD (xi vC xa xr)) (f_ (xx xa (xi xd5 xa xa))))
  (xB xa))),fun ts KK hl h=>?_⟩)
 obtain⟨a,c,rfl,k⟩:=h
 refine nO (fun n τ=>∃x y:Int,τ=[.fz (.int x),.fz (.int y)]∧0≤x∧0≤y∧n=y.toNat∧Int.gcd x y=Int.gcd a c) c.natAbs ⟨_,_,rfl,by split<;>omega,by split<;>omega,by split<;>omega,?_⟩ ?_
 ·have e1:(if a<0 then -a else a)=(a.natAbs:Int):=by split<;>omega
  have e2:(if c<0 then -c else c)=(c.natAbs:Int):=by split<;>omega
  rw[e1,e2];simp[Int.gcd]
 ·rintro n τ N ⟨x,y,rfl,hx,hy,rfl,hg⟩ hN
  refine xS (b := !decide (y=0)) (fun c0=>?_) (fun c0=>?_)
  ·have c0:y≠0:=by simpa using c0
   have e:x.fmod y=x % y:=xcD hy
   have l:=xjn x (show 0<y by omega)
   have l0:=xjo x c0
   refine⟨c0,hN (x % y).toNat _ (by omega) ⟨_,_,rfl,hy,by rw[e];exact l0,by rw[e],?_⟩⟩
   rw[e,←hg,xdk hx hy]
  ·have c0:y=0:=by simpa using c0
   subst c0
   have:(Int.gcd a c:Int)=x:=by rw[←hg];simp[Int.gcd];omega
   exact this▸k
theorem xbk (B:Blt mg bn)(F:Fun K "lowest" "lowest" r6 f fd)(m:mg "lowest" = some (.ref f))(b:Binds K fd ["top", "bottom"] [])(ya:Own P w K mg base 1 "greatest_divisor" ["one", "other"] (spT 2 false false xey)) :
  Own P w K mg base 2 "lowest" ["top", "bottom"] (spT 2 false false xfJ):=by
 refine xA F ng m b rfl (fun _ _ _ _ _ _ hr=>⟨_,_,
  (xc (yC 2 ng.nd (xo ya hr (xU (pv 0) (pv 1))))
  (xh (xE (yb (xU (xG uj (pv 0) (pv 2)) (xG uj (pv 1) (pv 2))))))),
  (xj (xM (xy (xx xa xa)))
  (xB (yc (b:=true) (xx (xi qm xa xa) (xi qm xa xa))))),fun ts KK hl h=>?_⟩)
 obtain⟨t,bo,rfl,hb,bd,k⟩:=h
 have gp:(0:Int)<(Int.gcd t bo:Int):=by have:=xju t hb;omega
 have gb:=xaf (t:=t) hb bd
 refine⟨t,bo,rfl,⟨by omega,gb⟩,⟨by omega,gb⟩,?_⟩
 show KK (.tup [.int (t.fdiv (Int.gcd t bo)),.int (bo.fdiv (Int.gcd t bo))])
 rw[zS (by omega),zS (by omega)]
 exact k
theorem xeV (B:Blt mg bn)(F:Fun K "plus" "plus" xa8 f fd)(m:mg "plus" = some (.ref f))(b:Binds K fd ["one", "other"] [])(yR:Own P w K mg base 2 "lowest" ["top", "bottom"] (spT 2 false false xfJ)) :
  Own P w K mg base 3 "plus" ["one", "other"] (spT 2 false false xg_):=by
 refine xA F xeC m b rfl (fun _ _ _ _ _ _ hr=>⟨_,_,
  (xh (xE (xo yR hr (xU (xG wa (xG xK (xm K 0) (xm K 1)) (xG xK (xm K 1) (xm K 0))) (xG xK (xm K 0) (xm K 1)))))),
  (xB (xy (xx (xi uW (xi x8 xn xn) (xi x8 xn xn)) (xi x8 xn xn)))),fun ts KK hl h=>?_⟩)
 obtain⟨f,g,rfl,hf,hg,k⟩:=h
 have z:=Pol.pp hf.pos hg.pos
 refine⟨⟨hf.top.bd,hg.bot.bd⟩,⟨hg.top.bd,hf.bot.bd⟩,⟨hf.bot.bd,hg.bot.bd⟩,_,_,rfl,by omega,(hf.bot.mul hg.bot).bd,?_⟩
 rw[pS z]
 exact k
theorem xcR (B:Blt mg bn)(F:Fun K "times" "times" bR f fd)(m:mg "times" = some (.ref f))(b:Binds K fd ["whole", "fraction"] [])(yR:Own P w K mg base 2 "lowest" ["top", "bottom"] (spT 2 false false xfJ)) :
  Own P w K mg base 3 "times" ["whole", "fraction"] (spT 2 false false xdv):=by
 refine xA F xcG m b rfl (fun _ _ _ _ _ _ hr=>⟨_,_,
  (xh (xE (xo yR hr (xU (xG xK (pv 0) (xm K 1)) (xm K 1))))),
  (xB (xy (xx (xi x8 xa xn) xn))),fun ts KK hl h=>?_⟩)
 obtain⟨w,f,rfl,hw,hf,k⟩:=h
 exact⟨⟨hw.bd,hf.top.bd⟩,_,_,rfl,by have:=hf.pos;omega,hf.bot.bd,k⟩
theorem fE (B:Blt mg bn)(F:Fun K "corners_left" "corners_left" vy f fd)(m:mg "corners_left" = some (.ref f))(b:Binds K fd ["rows"] [])(jj:Own P w K mg base 3 "places_of" ["piece"] (spT 1 false true tX))(qA:Own P w K mg base 5 "piece_left" ["rows"] (spT 1 false false aa)) :
  Own P w K mg base 6 "corners_left" ["rows"] (spT 1 false true qX):=by
 refine xA F fg m b rfl (fun _ _ _ _ _ _ hr=>⟨_,_,
  (xh (xE (xo jj hr (yZ (xo qA hr (yZ (pv 0))))))),
  (jB (xa1 (xZ (xy (xZ xa))))),fun ts KK hl h=>?_⟩)
 obtain⟨t,rows,rfl,ht,hr,k⟩:=h
 have sm:=hr.small rows.length
 have pl:=hr.plen rows.length
 rw[xk2 (xk7 _)] at sm pl
 exact⟨t,rows,rfl,ht,hr,_,rfl,sm,pl,k⟩
theorem aY (B:Blt mg bn)(F:Fun K "piece_left" "piece_left" qM f fd)(m:mg "piece_left" = some (.ref f))(b:Binds K fd ["rows"] []){t_FAR:Tok}(dZ:mg "FAR" = some (.int 60001 t_FAR))(j3:Own P w K mg base 4 "cut_down" ["piece", "rows"] (spT 2 false false oa)) :
  Own P w K mg base 5 "piece_left" ["rows"] (spT 1 false false aa):=by
 refine xA F tu m b rfl (fun _ _ _ _ _ _ hr=>⟨_,_,
  (xh (xE (xo j3 hr (xU (zb (xQ (yb (xQ (vo zO (zg (v:=V.int 60001) rfl dZ ⟨_,rfl⟩)) (xU (vo zO (zg (v:=V.int 60001) rfl dZ ⟨_,rfl⟩)) xg))) (xQ (yb (xQ (zg (v:=V.int 60001) rfl dZ ⟨_,rfl⟩) (xU (vo zO (zg (v:=V.int 60001) rfl dZ ⟨_,rfl⟩)) xg))) (xU (yb (xQ (zg (v:=V.int 60001) rfl dZ ⟨_,rfl⟩) (xU (zg (v:=V.int 60001) rfl dZ ⟨_,rfl⟩) xg))) (yb (xQ (vo zO (zg (v:=V.int 60001) rfl dZ ⟨_,rfl⟩)) (xU (zg (v:=V.int 60001) rfl dZ ⟨_,rfl⟩) xg))))))) (pv 0))))),
  (xB (xy (xx (uR (b:=true) (xJ (yc (b:=true) (xJ (zN xr) (xx (zN xr) xr))) (xJ (yc (b:=true) (xJ xr (xx (zN xr) xr))) (xx (yc (b:=true) (xJ xr (xx xr xr))) (yc (b:=true) (xJ (zN xr) (xx xr xr))))))) xa))),fun ts KK hl h=>?_⟩)
 obtain⟨t,rows,rfl,ht,hr,k⟩:=h
 exact⟨t,[],rows,rfl,ht,hr,k⟩
theorem cW (B:Blt mg bn)(F:Fun K "cut_down" "cut_down" j_ f fd)(m:mg "cut_down" = some (.ref f))(b:Binds K fd ["piece", "rows"] [])(je:Own P w K mg base 3 "cut_piece" ["piece", "row"] (spT 2 false false fj)) :
  Own P w K mg base 4 "cut_down" ["piece", "rows"] (spT 2 false false oa):=by
 refine xA F kZ m b rfl (fun _ _ _ _ _ _ hr=>⟨_,_,
  (xc (zY PassesOwn.never rfl (yN K (pv 1)) (yG 2 kZ.nd) (xh (yC 0 kZ.nd (xo je hr (xU (pv 0) (pv 2))))))
  (xh (xE (pv 0)))),
  (xj (yU (yx xa) xk.g (xM (xy (xx xa xa))))
  (xB xa)),fun ts KK hl h=>?_⟩)
 obtain⟨t,r0,rows,rfl,ht,hr,k⟩:=h
 have tk:∀i,((r0++rows).take (r0.length+i)).foldl Pol.yL Pol.box=(rows.take i).foldl Pol.yL (Pol.pieces r0):=fun i=>by rw[List.take_append,xk2 (by omega),show r0.length+i-r0.length=i by omega,xka];rfl
 have main:xce (eName 2) (xht 0 (xct fj (rg (bh 0) (rg (bh 2) xfv)))) { nx:=xhm (bh 0) { nx:=fun x=>false=false∧KK Tr.non,rt:=KK },rt:=KK } (rows.map trR) [.fz (.lst ((Pol.pieces r0).map trR)),.fz t,.un]:=by
  refine zD (fun i τ=>∃x2,τ=[.fz (.lst (((rows.take i).foldl Pol.yL (Pol.pieces r0)).map trR)),.fz t,x2]) ⟨_,rfl⟩ ?_ ?_
  ·rintro i x τ N hx ⟨x2,rfl⟩ hN
   obtain⟨r,hri,rfl⟩:=wM hx
   rw[Pol.vJ _ _ hri] at hN
   have sm:=hr.small (r0.length+i)
   have pl:=hr.plen (r0.length+i)
   rw[tk] at sm pl
   exact⟨_,r,rfl,hr.sm r (xkD _ (xkM hri)),sm,pl,hN _ ⟨_,rfl⟩⟩
  ·rintro τ ⟨x2,rfl⟩
   rw[xkr,xk2 (xk7 _)]
   unfold Pol.pieces at k ⊢
   rw[xka] at k
   exact k
 rcases ht with rfl | rfl<;>exact main
theorem nV (B:Blt mg bn)(F:Fun K "places_of" "places_of" v8 f fd)(m:mg "places_of" = some (.ref f))(b:Binds K fd ["piece"] [])(yR:Own P w K mg base 2 "lowest" ["top", "bottom"] (spT 2 false false xfJ))(qW:Own P w K mg base 2 "from_least" ["piece"] (spT 1 false true sW)) :
  Own P w K mg base 3 "places_of" ["piece"] (spT 1 false true tX):=by
 refine xA F nE m b rfl (fun _ _ _ _ _ _ hr=>⟨_,_,
  (xh (xE (zU (yf (N:=["x", "y", "bottom"]) (tau:=[none,none,none]) (XN:=["piece"]) (xs:=xf v8) (by decide +kernel) rfl rfl) rfl (ui (yK rfl (yK rfl (yK rfl qK)))) (yN K (xo qW hr (yZ (pv 0)))) (fun _ _ _ _=>(yt K (n:=3) rfl (xu (xY (i:=0) (show(["x", "y", "bottom"]:List Str).Nodup by decide +kernel) rfl (Or.inl rfl)) (xu (xY (i:=1) (show(["x", "y", "bottom"]:List Str).Nodup by decide +kernel) rfl (Or.inl rfl)) (xu (xY (i:=2) (show(["x", "y", "bottom"]:List Str).Nodup by decide +kernel) rfl (Or.inl rfl)) yo))))) (fun _ _ _ _=>wL) (fun _ _ _ _=>(yb (xU (xo yR hr (xU (pv 0) (pv 2))) (xo yR hr (xU (pv 1) (pv 2))))))))),
  (jB (yu (yx (xy (xZ xa))).c (yw (xl xk (xl xk (xl xk ye)))) zE (yc (b:=true) (xx (xy (xx xa xa)) (xy (xx xa xa)))))),fun ts KK hl h=>?_⟩)
 obtain⟨l,rfl,sm,pl,k⟩:=h
 refine⟨l,rfl,fun v hv=>(sm v hv).1.b3,pl,?_,?_⟩
 ·rw[xkr,qc];exact sqz (by omega)
 ·refine kI (fun x=>match gS x with | some v=>yW v | none=>.non) (fun x hx N hN=>?_) ?_
  ·obtain⟨v,hv,rfl⟩:=xkK.mp hx
   have hb:=sm v (ux hv)
   exact⟨rfl,_,_,rfl,by omega,hb.1.2.bd,_,_,rfl,by omega,hb.1.2.bd,hN⟩
  ·rw[xkA];exact k
theorem nZ (B:Blt mg bn)(F:Fun K "cut_piece" "cut_piece" k8 f fd)(m:mg "cut_piece" = some (.ref f))(b:Binds K fd ["piece", "row"] [])(uL:Own P w K mg base 2 "where_crossed" ["row", "one", "other"] (spT 3 false false pP))(ur:Own P w K mg base 1 "beyond" ["row", "corner"] (spT 2 false false cJ)) :
  Own P w K mg base 3 "cut_piece" ["piece", "row"] (spT 2 false false fj):=by
 refine xA F z_ m b rfl (fun _ _ _ _ _ _ hr=>⟨_,_,
  (xc (yC 2 z_.nd (zb uV))
  (xc (zY PassesOwn.never rfl (cX K rfl (B.get "enumerate") (yZ (pv 0))) (yt K (n:=2) rfl (xu (yG 3 z_.nd) (xu (yG 4 z_.nd) yo))) (xc (yC 5 z_.nd (zV (yJ K) (pv 0) (xG zF (pv 3) xg) (fun _ _=>rfl)))
  (xc (yE (xO (qG K hr.units) (xG xK (xo ur hr (xU (pv 1) (pv 5))) (xo ur hr (xU (pv 1) (pv 4)))) xg (xR _)) (xc (yC 6 z_.nd (xo uL hr (xQ (pv 1) (xU (pv 5) (pv 4)))))
  (xh (yE (xO (cG hr.units) (pv 6) (pv 2) (by with_unfolding_all rfl)) (xh (vj (aZ PySem.F.plainAttrs_list PySem.F.slot_list_append PySem.F.type_list_append uc (pv 2) (yZ (pv 6))))) xV))) xV)
  (xh (yE (xO aV (xo ur hr (xU (pv 1) (pv 4))) xg (xR _)) (xh (vj (aZ PySem.F.plainAttrs_list PySem.F.slot_list_append PySem.F.type_list_append uc (pv 2) (yZ (pv 4))))) xV)))))
  (xh (xE (pv 2))))),
  (xj (zC (kj um))
  (xj (yU (rf (xZ xa)) (yw (xl xk (xl xk ye))).g (xj (xM (vR xa (xi zM xa xr)))
  (xj (yg (xD (xi qw (xi x8 (xy (xx xa xa)) (xy (xx xa xa))) xr)) (xj (xM (xy (xJ xa (xx xa xa))))
  (yg (xD (xi xfE xa fC)) (qx xa) xN)) xN)
  (yg (xD (xi aJ (xy (xx xa xa)) xr)) (qx xa) xN))))
  tw)),fun ts KK hl h=>?_⟩)
 obtain⟨l,r,rfl,hr,hl',hz,k⟩:=h
 refine zD (all:=qJ (l.map trR)) (fun i τ=>∃x3 x4 x5 x6,τ=[.fz (.lst (l.map trR)),.fz (trR r),.ow ((((Pol.cyc l).take i).foldl (Pol.ym r) []).map trR),x3,x4,x5,x6]∧(((Pol.cyc l).take i).foldl (Pol.ym r) []).length≤2*i)
  ⟨_,_,_,_,rfl,xk7 _⟩ ?_ ?_
 ·rintro i x τ N hx ⟨x3,x4,x5,x6,rfl,hlen⟩ hN
  obtain⟨v,hv,rfl⟩:=rh hx
  obtain⟨u,hu,hc,ha⟩:=lb hv
  have hvm:=xkM hv
  have hi:=(xkg.mp hv).1
  have fold:=Pol.vJ (Pol.ym r) [] hc
  generalize hacc:((Pol.cyc l).take i).foldl (Pol.ym r) []=acc at fold hlen ⊢
  have leaf:∀(ts:List Tr) (y6:TV),ts=(Pol.ym r acc (u,v)).map trR→N [.fz (.lst (l.map trR)),.fz (trR r),.ow ts,.fz (.int i),.fz (trR v),.fz (trR u),y6]:=fun ts y6 e=>by
   rw[fold] at hN
   refine hN _ ⟨_,_,_,y6,by rw[e],?_⟩
   ·have:=Pol.pL r acc (u,v)
    have s2:(Pol.seg r (u,v)).length≤2:=by unfold Pol.seg;split<;>split<;>simp
    omega
  have bu:=hl' u hu
  have bv:=hl' v hvm
  have len0:∀n:Nat,n≤acc.length+1→n<sizeLine:=fun n hn=>sqz (by omega)
  refine⟨rfl,?_⟩
  show tU (atT (l.map trR) ((i:Int)-1)) _
  rw[ha]
  refine⟨r,u,rfl,hr.b3,bu.1.b3,r,v,rfl,hr.b3,bv.1.b3,⟨(hr.val bu.1).bd,(hr.val bv.1).bd⟩,?_⟩
  refine xS (b:=decide (Pol.val r u*Pol.val r v<0)) (fun c=>?_) (fun c=>?_)
  ·have c:=xlr c
   refine⟨r,u,v,rfl,⟨hr,bu.1,bv.1⟩,⟨bu.2,bv.2⟩,c,⟨bS _,uB trR bS acc,(by show(1:Nat)≤60;decide)⟩,?_⟩
   refine xS (b := !((acc.map trR).any fun t=>teq t (trR (Pol.xC r u v)))) (fun d=>?_) (fun d=>?_)
   ·rw[xbW] at d
    have d:Pol.xC r u v∉acc:=by simpa using d
    refine⟨len0 _ (by simp),r,v,rfl,hr.b3,bv.1.b3,?_⟩
    refine xS (b:=decide (Pol.val r v≤0)) (fun e=>?_) (fun e=>?_)
    ·have e:=xlr e
     exact⟨len0 _ (by simp),leaf _ _ (by simp[Pol.ym,c,d,e])⟩
    ·have e:=xlq e
     exact leaf _ _ (by simp[Pol.ym,c,d,e])
   ·rw[xbW] at d
    have d:Pol.xC r u v∈acc:=by simpa using d
    refine⟨r,v,rfl,hr.b3,bv.1.b3,?_⟩
    refine xS (b:=decide (Pol.val r v≤0)) (fun e=>?_) (fun e=>?_)
    ·have e:=xlr e
     exact⟨len0 _ (by simp),leaf _ _ (by simp[Pol.ym,c,d,e])⟩
    ·have e:=xlq e
     exact leaf _ _ (by simp[Pol.ym,c,d,e])
  ·have c:=xlq c
   refine⟨r,v,rfl,hr.b3,bv.1.b3,?_⟩
   refine xS (b:=decide (Pol.val r v≤0)) (fun e=>?_) (fun e=>?_)
   ·have e:=xlr e
    exact⟨len0 _ (by simp),leaf _ _ (by simp[Pol.ym,c,e])⟩
   ·have e:=xlq e
    exact leaf _ _ (by simp[Pol.ym,c,e])
 ·rintro τ ⟨x3,x4,x5,x6,rfl,hlen⟩
  rw[jP,xk2 (by rw[Pol.xeX];exact xk7 _)]
  exact k
theorem xaL (B:Blt mg bn)(F:Fun K "beyond" "beyond" aO f fd)(m:mg "beyond" = some (.ref f))(b:Binds K fd ["row", "corner"] [])  :
  Own P w K mg base 1 "beyond" ["row", "corner"] (spT 2 false false cJ):=by
 refine xA F uY m b rfl (fun _ _ _ _ _ _ hr=>⟨_,_,
  (xc (wH (pv 0) (yt K (n:=3) rfl (xu (yG 2 uY.nd) (xu (yG 3 uY.nd) (xu (yG 4 uY.nd) yo)))))
  (xc (wH (pv 1) (yt K (n:=3) rfl (xu (yG 5 uY.nd) (xu (yG 6 uY.nd) (xu (yG 7 uY.nd) yo)))))
  (xh (xE (xG zF (xG wa (xG xK (pv 2) (pv 5)) (xG xK (pv 3) (pv 6))) (xG xK (pv 4) (pv 7))))))),
  (xj (zK xa (yw (xl xk (xl xk (xl xk ye)))).g)
  (xj (zK xa (yw (xl xk (xl xk (xl xk ye)))).g)
  (xB (xi zM (xi uW (xi x8 xa xa) (xi x8 xa xa)) (xi x8 xa xa))))),fun ts KK hl h=>?_⟩)
 obtain⟨r,p,rfl,hr,hp,k⟩:=h
 exact⟨rfl,rfl,⟨hr.1.1,hp.1.1⟩,⟨hr.1.2,hp.1.2⟩,⟨hr.2,hp.2⟩,k⟩
theorem gQ (B:Blt mg bn)(F:Fun K "where_crossed" "where_crossed" wy f fd)(m:mg "where_crossed" = some (.ref f))(b:Binds K fd ["row", "one", "other"] [])(ya:Own P w K mg base 1 "greatest_divisor" ["one", "other"] (spT 2 false false xey))(ur:Own P w K mg base 1 "beyond" ["row", "corner"] (spT 2 false false cJ)) :
  Own P w K mg base 2 "where_crossed" ["row", "one", "other"] (spT 3 false false pP):=by
 refine xA F yD m b rfl (fun _ _ _ _ _ _ hr=>⟨_,_,
  (xc (wH (yb (xU (xF uw rfl (B.get "abs") jF (yZ (xo ur hr (xU (pv 0) (pv 1))))) (xF uw rfl (B.get "abs") jF (yZ (xo ur hr (xU (pv 0) (pv 2))))))) (yt K (n:=2) rfl (xu (xY (i:=3) yD.nd rfl (Or.inr rfl)) (xu (xY (i:=4) yD.nd rfl (Or.inr rfl)) yo))))
  (xc (wH (zU (yf (N:=["here", "there", "other_off", "one_off"]) (tau:=[none,none,some 4,some 3]) (XN:=["row", "one", "other", "one_off", "other_off", "x", "y", "bottom", "shared"]) (xs:=xf wy) (by decide +kernel) rfl rfl) rfl (ui (yK rfl (yK rfl qK))) (rL K rfl (B.get "zip") (xU (pv 1) (pv 2))) (fun _ _ _ _=>(yt K (n:=2) rfl (xu (xY (i:=0) (show(["here", "there", "other_off", "one_off"]:List Str).Nodup by decide +kernel) rfl (Or.inl rfl)) (xu (xY (i:=1) (show(["here", "there", "other_off", "one_off"]:List Str).Nodup by decide +kernel) rfl (Or.inl rfl)) yo)))) (fun _ _ _ _=>wL) (fun _ _ _ _=>(xG wa (xG xK (pv 2) (pv 0)) (xG xK (pv 3) (pv 1))))) (xfh K (n:=3) rfl (xu (yG 5 yD.nd) (xu (yG 6 yD.nd) (xu (yG 7 yD.nd) yo)))))
  (xc (yC 8 yD.nd (xo ya hr (xU (xo ya hr (xU (pv 5) (pv 6))) (pv 7))))
  (xh (xE (yb (xQ (xG uj (pv 5) (pv 8)) (xU (xG uj (pv 6) (pv 8)) (xG uj (pv 7) (pv 8)))))))))),
  (xj (zK (yc (b:=true) (xx (yM jt (xZ (xy (xx xa xa)))) (yM jt (xZ (xy (xx xa xa)))))) (yw (xl xk (xl xk ye))).g)
  (xj (zK (OkF.e (yu (g_ (xx xa xa)).c (yw (xl xk (xl xk ye))) zE (xi uW (xi x8 xa xa) (xi x8 xa xa)))) (xfw (xl xk (xl xk (xl xk ye)))).g)
  (xj (xM (xy (xx (xy (xx xa xa)) xa)))
  (xB (yc (b:=true) (xJ (xi qm xa xa) (xx (xi qm xa xa) (xi qm xa xa)))))))),fun ts KK hl h=>?_⟩)
 obtain⟨r,u,v,rfl,⟨hr,hu,hv⟩,⟨zu,zv⟩,hn,k⟩:=h
 have au:Bk 1000 (Pol.abs (Pol.val r u)):=((hr.val hu).mono (by decide)).abs
 have av:Bk 1000 (Pol.abs (Pol.val r v)):=((hr.val hv).mono (by decide)).abs
 have cu:∀ {i},Bk 800 i→CM (Pol.abs (Pol.val r v)) i:=fun h=>⟨av.bd,h.bd⟩
 have cv:∀ {i},Bk 800 i→CM (Pol.abs (Pol.val r u)) i:=fun h=>⟨au.bd,h.bd⟩
 obtain⟨b,_,_,_⟩:=Pol.kN zu zv hn
 have wz:0<(Pol.cw r u v).2.2:=by
  have h1:=Pol.pp b.pa zu
  have h2:=Pol.pp b.pb zv
  show 0<Pol.abs (Pol.val r v)*u.2.2+Pol.abs (Pol.val r u)*v.2.2
  omega
 have wb:Bd (Pol.cw r u v).2.2:=((av.mul hu.2).add (au.mul hv.2)).bd
 have gp:=Pol.kO wz
 have gb:Bd (Pol.uI (Pol.cw r u v):Int):=xaf (by omega) wb
 refine⟨r,u,rfl,hr.b3,hu.b3,r,v,rfl,hr.b3,hv.b3,rfl,sqz (show(3:Nat)≤1000000 by decide),rfl,cu hu.1.1,cv hv.1.1,rfl,cu hu.1.2,cv hv.1.2,rfl,cu hu.2,cv hv.2,rfl,_,_,rfl,_,_,rfl,⟨?_,gb⟩,⟨?_,gb⟩,⟨?_,gb⟩,?_⟩
 ·show(Pol.uI (Pol.cw r u v):Int)≠0;omega
 ·show(Pol.uI (Pol.cw r u v):Int)≠0;omega
 ·show(Pol.uI (Pol.cw r u v):Int)≠0;omega
 show KK (.tup [.int ((Pol.cw r u v).1.fdiv (Pol.uI (Pol.cw r u v))),.int ((Pol.cw r u v).2.1.fdiv (Pol.uI (Pol.cw r u v))),.int ((Pol.cw r u v).2.2.fdiv (Pol.uI (Pol.cw r u v)))])
 rw[zS (by omega),zS (by omega),zS (by omega)]
 exact k
theorem rB (B:Blt mg bn)(F:Fun K "from_least" "from_least" qN f fd)(m:mg "from_least" = some (.ref f))(b:Binds K fd ["piece"] [])(j4:Own P w K mg base 1 "is_ahead" ["one", "other"] (spT 2 false false xdP)) :
  Own P w K mg base 2 "from_least" ["piece"] (spT 1 false true sW):=by
 refine xA F wq m b rfl (fun _ _ _ _ _ _ hr=>⟨_,_,
  (xc (yC 1 wq.nd xg)
  (xc (zY PassesOwn.never rfl (cX K rfl (B.get "enumerate") (yZ (pv 0))) (yt K (n:=2) rfl (xu (yG 2 wq.nd) (xu (yG 3 wq.nd) yo))) (xh (yE (yX (xo j4 hr (xU (pv 3) (zV (yJ K) (pv 0) (pv 1) (fun _ _=>rfl))))) (xh (yC 1 wq.nd (pv 2))) xV)))
  (xh (xE (xG aj (u_ (fe K) (pv 0) (qS (pv 1)) qY) (u_ (fe K) (pv 0) qY (qS (pv 1)))))))),
  (xj (xM xr)
  (xj (yU (rf (xZ xa)) (yw (xl xk (xl xk ye))).g (yg (yy (xy (xx xa (vR xa xa)))) (xM xa) xN))
  (jB (c9 (xdV xa (ve xa) va) (xdV xa va (ve xa)))))),fun ts KK hl h=>?_⟩)
 obtain⟨l,rfl,hl',hz,k⟩:=h
 refine zD (all:=qJ (l.map trR)) (fun i τ=>∃x2 x3,τ=[.fz (.lst (l.map trR)),.fz (.int ((List.range i).foldl (yi l) 0:Nat)),x2,x3]∧((List.range i).foldl (yi l) 0<l.length∨l=[]))
  ⟨_,_,rfl,?_⟩ ?_ ?_
 ·cases l with
  | nil=>exact .inr rfl
  | cons a t=>exact .inl (by simp)
 ·rintro i x τ N hx ⟨x2,x3,rfl,hlen⟩ hN
  obtain⟨v,hv,rfl⟩:=rh hx
  have hvm:=xkM hv
  have hi:=(xkg.mp hv).1
  have fold:(List.range (i+1)).foldl (yi l) 0=yi l ((List.range i).foldl (yi l) 0) i:=by rw[List.range_succ,xka];rfl
  generalize hs:(List.range i).foldl (yi l) 0=s at fold hlen ⊢
  have hs':s<l.length:=hlen.resolve_right (fun z=>by rw[z] at hi;simp at hi)
  have eu:atT (l.map trR) (s:Int)=some (trR l[s]):=by rw[dR,xkh,xke hs'];rfl
  refine⟨rfl,?_⟩
  show tU (atT (l.map trR) (s:Int)) _
  rw[eu]
  have ev:l.getD i (0,0,0)=v:=by rw[xkc,hv];rfl
  have es:l.getD s (0,0,0)=l[s]:=by rw[xkc,xke hs'];rfl
  refine⟨v,l[s],rfl,hl' _ hvm,hl' _ (xkl hs'),?_⟩
  refine xS (b:=ahead v l[s]) (fun c=>?_) (fun c=>?_)
  ·have f2:yi l s i=i:=by unfold yi;rw[ev,es,if_pos c]
   rw[fold,f2] at hN
   exact hN _ ⟨_,_,rfl,.inl hi⟩
  ·have c':¬ahead v l[s]=true:=by rw[c];exact xji
   have f2:yi l s i=s:=by unfold yi;rw[ev,es,if_neg c']
   rw[fold,f2] at hN
   exact hN _ ⟨_,_,rfl,.inl hs'⟩
 ·rintro τ ⟨x2,x3,rfl,hlen⟩
  rw[jP]
  show(dJ (l.map trR) (some ((vO l:Nat):Int)) none).length+(dJ (l.map trR) none (some ((vO l:Nat):Int))).length≤sizeLine∧KK (.lst (dJ (l.map trR) (some ((vO l:Nat):Int)) none++dJ (l.map trR) none (some ((vO l:Nat):Int))))
  rw[aK,pZ]
  refine⟨xfQ (by simp;omega),?_⟩
  unfold yn at k
  rw[xky,List.map_drop,List.map_take] at k
  exact k
theorem cS (B:Blt mg bn)(F:Fun K "is_ahead" "is_ahead" gj f fd)(m:mg "is_ahead" = some (.ref f))(b:Binds K fd ["one", "other"] [])  :
  Own P w K mg base 1 "is_ahead" ["one", "other"] (spT 2 false false xdP):=by
 refine xA F cF m b rfl (fun _ _ _ _ _ _ hr=>⟨_,_,
  (xh (xE (zq (qG K hr.units) (yb (xU (xG xK (xm K 0) (xm K 1)) (xG xK (xm K 0) (xm K 1)))) (yb (xU (xG xK (xm K 1) (xm K 0)) (xG xK (xm K 1) (xm K 0)))) (xR _)))),
  (xB (xi qw (yc (b:=true) (xx (xi x8 xn xn) (xi x8 xn xn))) (yc (b:=true) (xx (xi x8 xn xn) (xi x8 xn xn))))),fun ts KK hl h=>?_⟩)
 obtain⟨p,q,rfl,hp,hq,k⟩:=h
 refine⟨⟨hp.1.1,hq.2⟩,⟨hp.1.2,hq.2⟩,⟨hq.1.1,hp.2⟩,⟨hq.1.2,hp.2⟩,[p.1*q.2.2,p.2.1*q.2.2],[q.1*p.2.2,q.2.1*p.2.2],rfl,rfl,?_⟩
 rw[xgJ]
 exact k
theorem xb3 (B:Blt mg bn)(F:Fun K "is_row" "is_row" a_ f fd)(m:mg "is_row" = some (.ref f))(b:Binds K fd ["thing"] [])(wR:Own P w K mg base 2 "are_whole" ["things"] (spT 1 false false fw)) :
  Own P w K mg base 3 "is_row" ["thing"] (spT 1 false false xdY):=by
 refine xA F xbt m b rfl (fun _ _ _ _ _ _ hr=>⟨_,_,
  (xc (yE (PW.pt (u5 (zH (yX (xF wX rfl (B.get "isinstance") xP (xU (pv 0) (uX (v:=V.ty "tuple") rfl (B.get "tuple") wC rfl))))) (u5 (xO (zX hr.units) (xF (yB K) rfl (B.get "len") ug (yZ (pv 0))) xg (xR _)) (uQ (zH (yX (xo wR hr (yZ (pv 0))))))))) (xh (xE vT)) xV)
  (xh (xE (xez (zq (zX hr.units) (xm K 0) xg (xR _)) (dX (zq (zX hr.units) (xm K 0) xg (xR _))))))),
  (xj (yg (zG (yO (yy (kW xa))) (zG (xD (xi vC (yM uD (xZ xa)) xr)) (yO (yy (xy (xZ xa)))))) (xB kD) xN)
  (xB (xa0 (xi vC xn xr) (xi vC xn xr)))),fun ts KK hl h=>?_⟩)
 obtain⟨t,rfl,k⟩:=h
 cases t with
 | tup us =>
  refine xS (b := !decide ((us.length:Int)=3)) (fun c=>?_) (fun c=>?_)
  ·have c:¬(us.length:Int)=3:=by simpa using c
   have e:mR (.tup us)=false:=by
    unfold mR
    cases e:gS (.tup us) with
    | none=>rfl
    | some r =>
     have:=kG e
     unfold trR at this
     injection this with this
     rw[this] at c
     exact absurd rfl c
   rw[e] at k
   exact k
  ·have c:us.length=3:=by simp at c;omega
   obtain⟨x,y,z,rfl⟩:∃x y z,us=[x,y,z]:=by
    match us,c with
    | [x,y,z],_=>exact⟨x,y,z,rfl⟩
   refine⟨_,rfl,_,.inl rfl,xaz c,?_⟩
   cases x with
   | int a =>
    cases y with
    | int b =>
     cases z with
     | int d =>
      show if (!decide (a=0))=true then KK (.bl true) else KK (.bl (!decide (b=0)))
      by_cases ha:a=0<;>by_cases hb:b=0<;>simp[ha,hb,mR,gS] at k ⊢<;>exact k
     | _=>exact k
    | _=>exact k
   | _=>exact k
 | _=>exact k
theorem xc9 (B:Blt mg bn)(F:Fun K "value" "value" pC f fd)(m:mg "value" = some (.ref f))(b:Binds K fd ["row", "place"] [])(xbx:Own P w K mg base 3 "plus" ["one", "other"] (spT 2 false false xg_))(rE:Own P w K mg base 3 "times" ["whole", "fraction"] (spT 2 false false xdv)) :
  Own P w K mg base 4 "value" ["row", "place"] (spT 2 false false xdW):=by
 refine xA F xdc m b rfl (fun _ _ _ _ _ _ hr=>⟨_,_,
  (xh (xE (xo xbx hr (xU (xo rE hr (xU (xm K 0) (xm K 1))) (xo rE hr (xU (xm K 0) (xm K 1))))))),
  (xB (xy (xx (xy (xx xn xn)) (xy (xx xn xn))))),fun ts KK hl h=>?_⟩)
 obtain⟨a,c,x,p,rfl,ha,hc,hp,k⟩:=h
 have h1:=(Fk.timW ha hp.1).mono (show 800≤900 by decide)
 have h2:=(Fk.timW hc hp.2).mono (show 800≤900 by decide)
 refine⟨a,p.1,rfl,ha.mono (by decide),hp.1.mono (by decide),c,p.2,rfl,hc.mono (by decide),hp.2.mono (by decide),_,_,rfl,h1,h2,?_⟩
 rw[xda hp.1.pos hp.2.pos]
 exact k
theorem cE (B:Blt mg bn)(F:Fun K "is_tight" "is_tight" j0 f fd)(m:mg "is_tight" = some (.ref f))(b:Binds K fd ["row", "place"] [])(bM:Own P w K mg base 4 "value" ["row", "place"] (spT 2 false false xdW)) :
  Own P w K mg base 5 "is_tight" ["row", "place"] (spT 2 false false pR):=by
 refine xA F jq m b rfl (fun _ _ _ _ _ _ hr=>⟨_,_,
  (xc (wH (xo bM hr (xU (pv 0) (pv 1))) (yt K (n:=2) rfl (xu (yG 2 jq.nd) (xu (yG 3 jq.nd) yo))))
  (xh (xE (zq (zI hr.units) (pv 2) (xG xK (xm K 0) (pv 3)) (xR _))))),
  (xj (zK (xy (xx xa xa)) (yw (xl xk (xl xk ye))).g)
  (xB (xi os_eq xa (xi x8 xn xa)))),fun ts KK hl h=>?_⟩)
 obtain⟨r,p,rfl,hr,hp,k⟩:=h
 refine⟨r.1,r.2.1,[.int r.2.2],p,rfl,hr.1.1,hr.1.2,hp,rfl,⟨hr.2.bd,(xeA hr hp).bot.bd⟩,k⟩
theorem lg (B:Blt mg bn)(F:Fun K "turn_to" "turn_to" dw f fd)(m:mg "turn_to" = some (.ref f))(b:Binds K fd ["one", "other"] [])  :
  Own P w K mg base 1 "turn_to" ["one", "other"] (spT 2 false false b_):=by
 refine xA F lT m b rfl (fun _ _ _ _ _ _ hr=>⟨_,_,
  (xh (xE (xG zF (xG xK (xm K 0) (xm K 1)) (xG xK (xm K 0) (xm K 1))))),
  (xB (xi zM (xi x8 xn xn) (xi x8 xn xn))),fun ts KK hl h=>?_⟩)
 obtain⟨a,b,c,d,x,y,rfl,hb,k⟩:=h
 exact⟨⟨hb.1.1,hb.2.2⟩,⟨hb.1.2,hb.2.1⟩,k⟩
theorem pB (B:Blt mg bn)(F:Fun K "go_round" "go_round" j5 f fd)(m:mg "go_round" = some (.ref f))(b:Binds K fd ["rows"] [])(kH:Own P w K mg base 2 "furthest" ["first", "rows", "sign"] (spT 3 false false mW))(qh:Own P w K mg base 2 "points_back" ["first", "rows"] (spT 2 false false xfV))(yk:Own P w K mg base 1 "turn_to" ["one", "other"] (spT 2 false false b_)) :
  Own P w K mg base 3 "go_round" ["rows"] (spT 1 false false oJ):=by
 refine xA F qb m b rfl (fun _ _ _ _ _ _ hr=>⟨_,_,
  (xc (yE (xO (zI hr.units) (xF (yB K) rfl (B.get "len") ug (yZ (pv 0))) xg (xR _)) (xh (xE vT)) xV)
  (xc (yC 1 qb.nd (xm K 0))
  (xc (yC 2 qb.nd (xo kH hr (xQ (pv 1) (xU (pv 0) xg))))
  (xc (yC 3 qb.nd (xo kH hr (xQ (pv 1) (xU (pv 0) (vo zO xg)))))
  (xc (yE (PW.pt (u5 (jC (aB (pv 2))) (uQ (jC (aB (pv 3)))))) (xh (xE vT)) xV)
  (xh (xE (xez (zq cQ (xo yk hr (xU (pv 2) (pv 3))) xg (xR _)) (dX (xo qh hr (xU (pv 1) (pv 0)))))))))))),
  (xj (yg (xD (xi os_eq (yM uD (xZ xa)) xr)) (xB kD) xN)
  (xj (xM xn)
  (xj (xM (xy (xJ xa (xx xa xr))))
  (xj (xM (xy (xJ xa (xx xa (zN xr)))))
  (xj (yg (zG (yy (sS xa)) (yy (sS xa))) (xB kD) xN)
  (xB (xa0 (xi pF (xy (xx xa xa)) xr) (xy (xx xa xa))))))))),fun ts KK hl h=>?_⟩)
 obtain⟨rows,rfl,hx,k⟩:=h
 cases rows with
 | nil=>exact k
 | cons r t =>
  have hr:=hx r xkG
  refine⟨r,r::t,1,rfl,.inl rfl,hr,hx,r,r::t,-1,rfl,.inr rfl,hr,hx,?_⟩
  have e:Pol.uk (r::t)=match Pol.far r 1 (r::t),Pol.far r (-1) (r::t) with
   | some l,some k=>decide (0<Pol.turn l k) || Pol.back r (r::t)
   | _,_=>false:=rfl
  rw[e] at k
  cases e1:Pol.far r 1 (r::t) with
  | none=>rw[e1] at k;exact k
  | some l =>
   cases e2:Pol.far r (-1) (r::t) with
   | none=>rw[e1,e2] at k;exact k
   | some q =>
    rw[e1,e2] at k
    have hl2:=hx l (Pol.kL e1).mem
    have hq2:=hx q (Pol.kL e2).mem
    refine⟨l.1,l.2.1,q.1,q.2.1,_,_,rfl,⟨⟨hl2.1.1.bd,hl2.1.2.bd⟩,hq2.1.1.bd,hq2.1.2.bd⟩,?_⟩
    have k:KK (.bl (decide (0<Pol.turn l q) || Pol.back r (r::t))):=k
    refine xS (b:=decide (0<Pol.turn l q)) (fun c=>?_) (fun c=>?_)
    ·rw[c] at k;exact k
    ·rw[c,Bool.false_or] at k
     exact⟨r,r::t,rfl,hr,hx,k⟩
theorem br (B:Blt mg bn)(F:Fun K "furthest" "furthest" j8 f fd)(m:mg "furthest" = some (.ref f))(b:Binds K fd ["first", "rows", "sign"] [])(yk:Own P w K mg base 1 "turn_to" ["one", "other"] (spT 2 false false b_)) :
  Own P w K mg base 2 "furthest" ["first", "rows", "sign"] (spT 3 false false mW):=by
 refine xA F vM m b rfl (fun _ _ _ _ _ _ hr=>⟨_,_,
  (xc (yC 3 vM.nd ju)
  (xc (zY PassesOwn.never rfl (yN K (pv 1)) (yG 4 vM.nd) (xh (yE (PW.pt (jy (xO cQ (xG xK (pv 2) (xo yk hr (xU (pv 0) (pv 4)))) xg (xR _)) (v5 (PW.pt (u5 (jC (aB (pv 3))) (uQ (xO cQ (xG xK (pv 2) (xo yk hr (xU (pv 3) (pv 4)))) xg (xR _)))))))) (xh (yC 3 vM.nd (pv 4))) xV)))
  (xh (xE (pv 3))))),
  (xj (xM (xad (t:=Tr.non)))
  (xj (yU (yx xa) xk.g (yg (v_ (xD (xi pF (xi x8 xa (xy (xx xa xa))) xr)) (zG (yy (sS xa)) (xD (xi pF (xi x8 xa (xy (xx xa xa))) xr)))) (xM xa) xN))
  (xB xa))),fun ts KK hl h=>?_⟩)
 obtain⟨r,rows,s,rfl,hs,hr,hx,k⟩:=h
 have tb:∀ {p q:Pol.R3},B3k 900 p→B3k 900 q→Bk 1801 (Pol.turn p q):=fun hp hq=>(hp.1.1.mul hq.1.2).sub (hp.1.2.mul hq.1.1)
 have sb:Bd s:=by rcases hs with rfl | rfl<;>exact xb2 (by decide) (by decide)
 refine zD (all:=rows.map trR) (fun i τ=>∃x4,τ=[.fz (trR r),.fz (.tup (rows.map trR)),.fz (.int s),.fz (xhG ((rows.take i).foldl (Pol.wA r s) none)),x4]∧∀y,(rows.take i).foldl (Pol.wA r s) none=some y→B3k 900 y) ⟨_,rfl,fun y hy=>by cases hy⟩ ?_ ?_
 ·rintro i x τ N hxi ⟨x4,rfl,hb⟩ hN
  obtain⟨y,hyi,rfl⟩:=wM hxi
  have hy:=hx y (xkM hyi)
  have fold:=Pol.vJ (Pol.wA r s) none hyi
  generalize hacc:(rows.take i).foldl (Pol.wA r s) none=acc at fold hb ⊢
  have leaf:∀o:Option Pol.R3,o=Pol.wA r s acc y→N [.fz (trR r),.fz (.tup (rows.map trR)),.fz (.int s),.fz (xhG o),.fz (trR y)]:=fun o e=>by
   rw[fold] at hN
   refine hN _ ⟨_,by rw[e],?_⟩
   ·unfold Pol.wA
    split
    ·intro z hz;cases hz;exact hy
    ·exact hb
  refine⟨r.1,r.2.1,y.1,y.2.1,_,_,rfl,⟨⟨hr.1.1.bd,hr.1.2.bd⟩,hy.1.1.bd,hy.1.2.bd⟩,⟨sb,(tb hr hy).bd⟩,?_⟩
  refine xS (b:=decide (0<s*Pol.turn r y)) (fun c=>?_) (fun c=>?_)
  ·have c:=xlr c
   cases acc with
   | none=>exact leaf (some y) (by unfold Pol.wA;rw[if_pos ⟨c,rfl⟩])
   | some z =>
    have hz:=hb z rfl
    refine⟨z.1,z.2.1,y.1,y.2.1,_,_,rfl,⟨⟨hz.1.1.bd,hz.1.2.bd⟩,hy.1.1.bd,hy.1.2.bd⟩,⟨sb,(tb hz hy).bd⟩,?_⟩
    refine xS (b:=decide (0<s*Pol.turn z y)) (fun d=>?_) (fun d=>?_)
    ·exact leaf (some y) (by unfold Pol.wA;rw[if_pos ⟨c,d⟩])
    ·refine leaf (some z) ?_
     unfold Pol.wA
     rw[if_neg (fun w=>by have w2:decide (0<s*Pol.turn z y)=true:=w.2;rw[d] at w2;cases w2)]
  ·have c:=xlq c
   exact leaf acc (by unfold Pol.wA;rw[if_neg fun w=>c w.1])
 ·rintro τ ⟨x4,rfl,_⟩
  rw[xkr,xk2 (xk7 _)]
  exact k
theorem sf (B:Blt mg bn)(F:Fun K "points_back" "points_back" qd f fd)(m:mg "points_back" = some (.ref f))(b:Binds K fd ["first", "rows"] [])(yk:Own P w K mg base 1 "turn_to" ["one", "other"] (spT 2 false false b_)) :
  Own P w K mg base 2 "points_back" ["first", "rows"] (spT 2 false false xfV):=by
 refine xA F kX m b rfl (fun _ _ _ _ _ _ hr=>⟨_,_,
  (xc (zY PassesOwn.never rfl (yN K (pv 1)) (yG 2 kX.nd) (xh (yE (PW.pt (jy (xO (zI hr.units) (xo yk hr (xU (pv 0) (pv 2))) xg (xR _)) (v5 (xO (qG K hr.units) (xG wa (xG xK (xm K 0) (xm K 2)) (xG xK (xm K 0) (xm K 2))) xg (xR _))))) (xh (xE vT)) xV)))
  (xh (xE vT))),
  (xj (yU (yx xa) xk.g (yg (v_ (xD (xi os_eq (xy (xx xa xa)) xr)) (xD (xi qw (xi uW (xi x8 xn xn) (xi x8 xn xn)) xr))) (xB kD) xN))
  (xB kD)),fun ts KK hl h=>?_⟩)
 obtain⟨r,rows,rfl,hr,hx,k⟩:=h
 refine zD (all:=rows.map trR) (fun i τ=>∃x2,τ=[.fz (trR r),.fz (.tup (rows.map trR)),x2]∧∀y∈rows.take i,¬(Pol.turn r y=0∧Pol.dot r y<0)) ⟨_,rfl,fun y hy=>by simp at hy⟩ ?_ ?_
 ·rintro i x τ N hxi ⟨x2,rfl,hb⟩ hN
  obtain⟨y,hyi,rfl⟩:=wM hxi
  have hym:=xkM hyi
  have hy:=hx y hym
  have leaf:¬(Pol.turn r y=0∧Pol.dot r y<0)→N [.fz (trR r),.fz (.tup (rows.map trR)),.fz (trR y)]:=fun c=>hN _ ⟨_,rfl,fun z hz=>by
   rw[xk3,hyi] at hz
   rcases xkB.mp hz with q | q
   ·exact hb z q
   ·have:z=y:=by simpa using q
    rw[this];exact c⟩
  refine⟨r.1,r.2.1,y.1,y.2.1,_,_,rfl,⟨⟨hr.1.1.bd,hr.1.2.bd⟩,hy.1.1.bd,hy.1.2.bd⟩,?_⟩
  refine xS (b:=decide (Pol.turn r y=0)) (fun c=>?_) (fun c=>?_)
  ·have c:=xlr c
   refine⟨⟨hr.1.1.bd,hy.1.1.bd⟩,⟨hr.1.2.bd,hy.1.2.bd⟩,?_⟩
   refine xS (b:=decide (Pol.dot r y<0)) (fun d=>?_) (fun d=>?_)
   ·have d:=xlr d
    have:Pol.back r rows=true:=by unfold Pol.back;rw[xjX];exact⟨y,hym,by simp[c,d]⟩
    rw[this] at k
    exact k
   ·have d:=xlq d
    exact leaf fun w=>d w.2
  ·have c:=xlq c
   exact leaf fun w=>c w.1
 ·rintro τ ⟨x2,rfl,hb⟩
  rw[xkr,xk2 (xk7 _)] at hb
  have:Pol.back r rows=false:=by
   unfold Pol.back
   rw[List.any_eq_false]
   intro y hy w
   simp at w
   exact hb y hy w
  rw[this] at k
  exact k
theorem bF (B:Blt mg bn)(F:Fun K "is_field" "is_field" vH f fd)(m:mg "is_field" = some (.ref f))(b:Binds K fd ["thing"] [])(hZ:Own P w K mg base 3 "go_round" ["rows"] (spT 1 false false oJ))(fu:Own P w K mg base 1 "is_near" ["place"] (spT 1 false false xbZ))(zf:Own P w K mg base 6 "corners_left" ["rows"] (spT 1 false true qX))(vg:Own P w K mg base 4 "is_field_row" ["thing"] (spT 1 false false dy)) :
  Own P w K mg base 7 "is_field" ["thing"] (spT 1 false false o6):=by
 refine xA F cq m b rfl (fun _ _ _ _ _ _ hr=>⟨_,_,
  (xc (yE (PW.pt (u5 (zH (yX (xF wX rfl (B.get "isinstance") xP (xU (pv 0) (uX (v:=V.ty "tuple") rfl (B.get "tuple") wC rfl))))) (uQ (zH (xcz aV aV xg (xF (yB K) rfl (B.get "len") ug (yZ (pv 0))) xg))))) (xh (xE vT)) xV)
  (xc (yE (PW.pt (u5 (zH (yX (xF (kP K rfl) rfl (B.get "all") oT (yZ (zU (yf (N:=["row"]) (tau:=[none]) (XN:=["thing"]) (xs:=xf vH) (by decide +kernel) rfl rfl) rfl (zL rfl) (yN K (pv 0)) (fun _ _ _ _=>(xY (i:=0) (show(["row"]:List Str).Nodup by decide +kernel) rfl (Or.inl rfl))) (fun _ _ _ _=>wL) (fun _ _ _ _=>(xo vg hr (yZ (pv 0))))))))) (uQ (zH (yX (xo hZ hr (yZ (pv 0)))))))) (xh (xE vT)) xV)
  (xh (xE (xF (kP K rfl) rfl (B.get "all") oT (yZ (zU (yf (N:=["place"]) (tau:=[none]) (XN:=["thing"]) (xs:=xf vH) (by decide +kernel) rfl rfl) rfl (zL rfl) (yN K (xo zf hr (yZ (pv 0)))) (fun _ _ _ _=>(xY (i:=0) (show(["place"]:List Str).Nodup by decide +kernel) rfl (Or.inl rfl))) (fun _ _ _ _=>wL) (fun _ _ _ _=>(xo fu hr (yZ (pv 0))))))))))),
  (xj (yg (zG (yO (yy (kW xa))) (yO (xD (xc3 aJ aJ xr (yM uD (xZ xa)) xr)))) (xB kD) xN)
  (xj (yg (zG (yO (yy (yM rp (xZ (OkF.e (yu (yx xa).c xk zE (xy (xZ xa)))))))) (yO (yy (xy (xZ xa))))) (xB kD) xN)
  (xB (yM rp (xZ (OkF.e (yu (yx (xy (xZ xa))).c xk zE (xy (xZ xa))))))))),fun ts KK hl h=>?_⟩)
 obtain⟨t,rfl,k⟩:=h
 cases t with
 | tup us =>
  refine xS (b:=decide ((3:Int)≤us.length)) (fun c1=>?_) (fun c1=>?_)
  ·have c1:=xlr c1
   refine xS (b := !decide ((us.length:Int)≤8)) (fun c2=>?_) (fun c2=>?_)
   ·have c2:8<us.length:=by simp at c2;omega
    have e:isField (.tup us)=false:=by
     show(match rowsOf us with | some rows=>xq rows | none=>false)=false
     cases e:rowsOf us with
     | none=>rfl
     | some rows =>
      show xq rows=false
      unfold xq
      rw[ql e,xkr] at c2
      rw[xlm (by omega)];rfl
    rw[e] at k
    exact k
   ·have c2:us.length≤8:=by simp at c2;omega
    refine⟨sqz (by omega),kI (fun x=>.bl (zd x)) (fun x _ N hN=>⟨x,rfl,hN⟩) ⟨us.map zd,by rw[xkA];rfl,?_⟩⟩
    rw[xjW]
    show if (!us.all zd)=true then _ else _
    refine xS (fun c=>?_) (fun c=>?_)
    ·rw[lx (by simpa using c)] at k
     exact k
    ·have c:us.all zd=true:=by simpa using c
     obtain⟨rows,rfl,hrows⟩:=bP c
     rw[xkr] at c1 c2
     have ea:(rows.all fun r=>decide ((r.1≠0∨r.2.1≠0)∧Pol.bf r))=true:=by
      rw[xjV];intro r hr;exact xln (hrows r hr)
     have ef:isField (.tup (rows.map trR))=(Pol.uk rows&&(Pol.pieces rows).all rR):=by
      show(match rowsOf (rows.map trR) with | some rows=>xq rows | none=>false)=_
      rw[j7]
      show xq rows=_
      unfold xq
      rw[ea,xln (by omega)];simp
     rw[ef] at k
     have ok:qC rows:=⟨fun r hr=>(hrows r hr).1,fun r hr=>aF (hrows r hr).2,by omega⟩
     refine⟨rows,rfl,fun r hr=>(ok.sm r hr).mono (by decide),?_⟩
     refine xS (b := !Pol.uk rows) (fun d=>?_) (fun d=>?_)
     ·have d:Pol.uk rows=false:=by simpa using d
      rw[d] at k
      exact k
     ·have d:Pol.uk rows=true:=by simpa using d
      rw[d,Bool.true_and] at k
      have sm:=ok.small rows.length
      have pl:=ok.plen rows.length
      rw[xk2 (xk7 _)] at sm pl
      refine⟨_,rows,rfl,.inl rfl,ok,?_,?_⟩
      ·rw[xkr,qc];exact sqz (by have:(Pol.pieces rows).length≤100000:=pl;omega)
      ·refine kI (fun x=>match x with | .tup [.tup [.int n,.int d],.tup [.int n2,.int d2]]=>.bl (nearF n d&&nearF n2 d2) | _=>.non) (fun x hx N hN=>?_) ?_
       ·obtain⟨v,hv,rfl⟩:=xkK.mp hx
        have hb:=sm v (ux hv)
        have ld:∀i,Bd (ay i v.2.2):=fun i=>xeY hb.2 hb.1.2.bd
        refine⟨[(mY v.1 v.2.2,ay v.1 v.2.2),(mY v.2.1 v.2.2,ay v.2.1 v.2.2)],rfl,(show(2:Nat)≤1000 by decide),fun f hf=>?_,?_⟩
        ·simp only[xkE,xkT,xls] at hf
         rcases hf with rfl | rfl<;>exact ld _
        ·have e:([(mY v.1 v.2.2,ay v.1 v.2.2),(mY v.2.1 v.2.2,ay v.2.1 v.2.2)].all fun f=>nearF f.1 f.2)=(nearF (mY v.1 v.2.2) (ay v.1 v.2.2)&&nearF (mY v.2.1 v.2.2) (ay v.2.1 v.2.2)):=by simp
         rw[e];exact hN
       ·refine⟨(yn (Pol.pieces rows)).map rR,by rw[xkA,xkA];rfl,?_⟩
        rw[xjW]
        have e:=tS rR (Pol.pieces rows)
        show KK (.bl ((yn (Pol.pieces rows)).all rR))
        rw[e];exact k
  ·have c1:us.length<3:=by have:=xlq c1;omega
   have e:isField (.tup us)=false:=by
    show(match rowsOf us with | some rows=>xq rows | none=>false)=false
    cases e:rowsOf us with
    | none=>rfl
    | some rows =>
     show xq rows=false
     unfold xq
     rw[ql e,xkr] at c1
     rw[xlm (by omega)];rfl
   rw[e] at k
   exact k
 | _=>exact k
theorem dB (B:Blt mg bn)(F:Fun K "is_field_row" "is_field_row" vn f fd)(m:mg "is_field_row" = some (.ref f))(b:Binds K fd ["thing"] [])(aQ:Own P w K mg base 3 "is_row" ["thing"] (spT 1 false false xdY)) :
  Own P w K mg base 4 "is_field_row" ["thing"] (spT 1 false false dy):=by
 refine xA F wj m b rfl (fun _ _ _ _ _ _ hr=>⟨_,_,
  (xc (yE (zH (yX (xo aQ hr (yZ (pv 0))))) (xh (xE vT)) xV)
  (xc (wH (pv 0) (yt K (n:=3) rfl (xu (yG 1 wj.nd) (xu (yG 2 wj.nd) (xu (yG 3 wj.nd) yo)))))
  (xh (xE (nr (zq aV (xF uw rfl (B.get "abs") jF (yZ (pv 1))) xg (xR _)) (nr (zq aV (xF uw rfl (B.get "abs") jF (yZ (pv 2))) xg (xR _)) (dX (zq aV (xF uw rfl (B.get "abs") jF (yZ (pv 3))) xg (xR _))))))))),
  (xj (yg (yO (yy (xy (xZ xa)))) (xB kD) xN)
  (xj (zK xa (yw (xl xk (xl xk (xl xk ye)))).g)
  (xB (fU (xi aJ (yM jt (xZ xa)) xr) (fU (xi aJ (yM jt (xZ xa)) xr) (xi aJ (yM jt (xZ xa)) xr)))))),fun ts KK hl h=>?_⟩)
 obtain⟨t,rfl,k⟩:=h
 refine⟨t,rfl,?_⟩
 unfold mR
 unfold zd at k
 cases e:gS t with
 | none=>rw[e] at k;exact k
 | some r =>
  rw[e] at k
  cases kG e
  have k:KK (.bl (decide ((r.1≠0∨r.2.1≠0)∧Pol.bf r))):=k
  refine xS (b := !decide (r.1≠0∨r.2.1≠0)) (fun c=>?_) (fun c=>?_)
  ·have c:¬(r.1≠0∨r.2.1≠0):=by simpa using c
   rw[xlm fun w=>c w.1] at k
   exact k
  ·have c:r.1≠0∨r.2.1≠0:=by simp at c;omega
   refine⟨rfl,?_⟩
   have ab:∀i m:Int,(if i<0 then -i else i)≤m↔-m≤i∧i≤m:=fun i m=>by split<;>omega
   refine xS (b:=decide ((if r.1<0 then -r.1 else r.1)≤30)) (fun d=>?_) (fun d=>?_)
   ·have d:=(ab _ _).mp (xlr d)
    refine xS (b:=decide ((if r.2.1<0 then -r.2.1 else r.2.1)≤30)) (fun d2=>?_) (fun d2=>?_)
    ·have d2:=(ab _ _).mp (xlr d2)
     show KK (.bl (decide ((if r.2.2<0 then -r.2.2 else r.2.2)≤1000)))
     have e3:decide ((r.1≠0∨r.2.1≠0)∧Pol.bf r)=decide ((if r.2.2<0 then -r.2.2 else r.2.2)≤1000):=by
      rw[xll,ab]
      exact⟨fun w=>w.2.2,fun w=>⟨c,⟨d,d2⟩,w⟩⟩
     rw[←e3];exact k
    ·have d2:=fun w=>xlq d2 ((ab _ _).mpr w)
     rw[xlm fun w=>d2 w.2.1.2] at k
     exact k
   ·have d:=fun w=>xlq d ((ab _ _).mpr w)
    rw[xlm fun w=>d w.2.1.1] at k
    exact k
theorem l6 (B:Blt mg bn)(F:Fun K "is_near" "is_near" jD f fd)(m:mg "is_near" = some (.ref f))(b:Binds K fd ["place"] [])  :
  Own P w K mg base 1 "is_near" ["place"] (spT 1 false false xbZ):=by
 refine xA F lD m b rfl (fun _ _ _ _ _ _ hr=>⟨_,_,
  (xh (xE (xF (kP K rfl) rfl (B.get "all") oT (yZ (zU (yf (N:=["top", "bottom"]) (tau:=[none,none]) (XN:=["place"]) (xs:=xf jD) (by decide +kernel) rfl rfl) rfl (ui (yK rfl (yK rfl qK))) (yN K (pv 0)) (fun _ _ _ _=>(yt K (n:=2) rfl (xu (xY (i:=0) (show(["top", "bottom"]:List Str).Nodup by decide +kernel) rfl (Or.inl rfl)) (xu (xY (i:=1) (show(["top", "bottom"]:List Str).Nodup by decide +kernel) rfl (Or.inl rfl)) yo)))) (fun _ _ _ _=>wL) (fun _ _ _ _=>(zq aV (xF uw rfl (B.get "abs") jF (yZ (pv 0))) (xG xK xg (pv 1)) (xR _)))))))),
  (xB (yM rp (xZ (OkF.e (yu (yx xa).c (yw (xl xk (xl xk ye))) zE (xi aJ (yM jt (xZ xa)) (xi x8 xr xa))))))),fun ts KK hl h=>?_⟩)
 obtain⟨fs,rfl,hz,hb,k⟩:=h
 refine⟨by rw[xkr];exact sqz (by omega),?_⟩
 have ab:∀i m:Int,decide ((if i<0 then -i else i)≤12*m)=nearF i m:=fun i m=>by
  unfold nearF
  rw[xll];split<;>omega
 refine kI (fun x=>match x with | .tup [.int n,.int d]=>.bl (nearF n d) | _=>.non) (fun x hx N hN=>?_) ?_
 ·obtain⟨f,hf,rfl⟩:=xkK.mp hx
  refine⟨rfl,⟨xb2 (by decide) (by decide),hb f hf⟩,?_⟩
  show N (.bl (decide ((if f.1<0 then -f.1 else f.1)≤12*f.2)))
  rw[ab];exact hN
 ·refine⟨fs.map fun f=>nearF f.1 f.2,by rw[xkA,xkA];rfl,?_⟩
  rw[xjW];exact k
theorem tP (B:Blt mg bn)(F:Fun K "need_field" "need_field" kF f fd)(m:mg "need_field" = some (.ref f))(b:Binds K fd ["thing"] [])(gc:Own P w K mg base 7 "is_field" ["thing"] (spT 1 false false o6)) :
  Own P w K mg base 8 "need_field" ["thing"] (spT 1 false false af):=by
 refine xA F rm m b rfl (fun _ _ _ _ _ _ hr=>⟨_,_,
  (xh (yE (zH (yX (xo gc hr (yZ (pv 0))))) (xh fc) xV)),
  (yg (yO (yy (xy (xZ xa)))) qD xN),fun ts KK hl h=>?_⟩)
 obtain⟨t,rfl,hf,k⟩:=h
 refine⟨t,rfl,?_⟩
 rw[hf]
 exact⟨rfl,k⟩
theorem lX (B:Blt mg bn)(F:Fun K "corners" "corners" dS f fd)(m:mg "corners" = some (.ref f))(b:Binds K fd ["field"] [])(qu:Own P w K mg base 8 "need_field" ["thing"] (spT 1 false false af))(zf:Own P w K mg base 6 "corners_left" ["rows"] (spT 1 false true qX)) :
  Own P w K mg base 9 "corners" ["field"] (spT 1 false true tN):=by
 refine xA F lL m b rfl (fun _ _ _ _ _ _ hr=>⟨_,_,
  (xc (vj (xo qu hr (yZ (pv 0))))
  (xh (xE (xo zf hr (yZ (pv 0)))))),
  (xj (xcI (xy (xZ xa)))
  (jB (xa1 (xZ xa)))),fun ts KK hl h=>?_⟩)
 obtain⟨rows,rfl,hf,FR,k⟩:=h
 exact⟨_,rfl,c_ hf,_,rows,rfl,.inl rfl,FR.rows,k⟩
theorem gN (B:Blt mg bn)(F:Fun K "tight_numbers" "tight_numbers" wx f fd)(m:mg "tight_numbers" = some (.ref f))(b:Binds K fd ["rows", "place"] [])(hJ:Own P w K mg base 5 "is_tight" ["row", "place"] (spT 2 false false pR)) :
  Own P w K mg base 6 "tight_numbers" ["rows", "place"] (spT 2 false false sR):=by
 refine xA F gK m b rfl (fun _ _ _ _ _ _ hr=>⟨_,_,
  (xh (xE (kE (uK K) rfl (B.get "tuple") wC (yZ (zU (yf (N:=["number", "row", "place"]) (tau:=[none,none,some 1]) (XN:=["rows", "place"]) (xs:=xf wx) (by decide +kernel) rfl rfl) rfl (ui (yK rfl (yK rfl qK))) (cX K rfl (B.get "enumerate") (yZ (pv 0))) (fun _ _ _ _=>(yt K (n:=2) rfl (xu (xY (i:=0) (show(["number", "row", "place"]:List Str).Nodup by decide +kernel) rfl (Or.inl rfl)) (xu (xY (i:=1) (show(["number", "row", "place"]:List Str).Nodup by decide +kernel) rfl (Or.inl rfl)) yo)))) (fun _ _ _ _=>(uM (yX (xo hJ hr (xU (pv 1) (pv 2)))))) (fun _ _ _ _=>(pv 0))))))),
  (xB (tI (xZ (OkF.e (yu (rf (xZ xa)).c (yw (xl xk (xl xk ye))) (yy (xy (xx xa xa))) xa))))),fun ts KK hl h=>?_⟩)
 obtain⟨rows,p,rfl,hl',hr,hp,k⟩:=h
 refine⟨by rw[jP];exact sqz (by omega),?_⟩
 rw[xbs trR rows (0,0,0)]
 refine yH (fun i=>fK (rows.getD i (0,0,0)) p) n6 (fun i hi N M h1 h0=>?_) ?_
 ·exact⟨rfl,_,_,rfl,hr _ (getD_mem _ (xkO.mp hi)),hp,xS h1 h0⟩
 ·exact k
end
end K11
namespace K11
open PySem L2 Trn
section
variable {P:Program} {w:World} {K:PySem.W.Frag} {mg:Str→Option Value} {base:Heap} {f:Addr} {fd:FuncData}
theorem xc6 (B:Blt mg bn)(F:Fun K "parts" "parts" cO f fd)(m:mg "parts" = some (.ref f))(b:Binds K fd ["one", "other", "thing"] [])(jd:Own P w K mg base 2 "need_turn" ["one", "other"] (spT 2 false false nK))(vA:Own P w K mg base 3 "is_direction" ["thing"] (spT 1 false false xdz))(yk:Own P w K mg base 1 "turn_to" ["one", "other"] (spT 2 false false b_))(yR:Own P w K mg base 2 "lowest" ["top", "bottom"] (spT 2 false false xfJ)) :
  Own P w K mg base 4 "parts" ["one", "other", "thing"] (spT 3 false false xd_):=by
 refine xA F tH m b rfl (fun _ _ _ _ _ _ hr=>⟨_,_,
  (xc (yC 3 tH.nd (xo jd hr (xU (pv 0) (pv 1))))
  (xc (yE (zH (yX (xo vA hr (yZ (pv 2))))) (xh (xE ju)) xV)
  (xc (mX (i:=4) (j:=5) rfl tH.nd rfl rfl (by decide) rfl rfl (xU (xo yk hr (xU (pv 2) (pv 1))) (xo yk hr (xU (pv 0) (pv 2)))) (by rfl))
  (xc (yE (PW.pt (u5 (xO (qG K hr.units) (pv 4) xg (xR _)) (uQ (xO (qG K hr.units) (pv 5) xg (xR _))))) (xh (xE ju)) xV)
  (xh (xE (yb (xU (xo yR hr (xU (pv 4) (pv 3))) (xo yR hr (xU (pv 5) (pv 3))))))))))),
  (xj (xM (xy (xx xa xa)))
  (xj (yg (yO (yy (xy (xZ xa)))) (xB (xad (t:=Tr.non))) xN)
  (xj (f_ (xx (xy (xx xa xa)) (xy (xx xa xa))))
  (xj (yg (zG (xD (xi qw xa xr)) (xD (xi qw xa xr))) (xB (xad (t:=Tr.non))) xN)
  (xB (yc (b:=true) (xx (xy (xx xa xa)) (xy (xx xa xa))))))))),fun ts KK hl h=>?_⟩)
 obtain⟨a,b',c,d,t,rfl,hl2,hs,hd,hp,k⟩:=h
 refine⟨a,b',c,d,rfl,hl2,hp,?_⟩
 refine⟨t,rfl,hs,?_⟩
 have no:kT t=false→kU a b' c d t=.non:=fun e=>by
  unfold kU
  split
  ·rename_i x y
   have:x=0∧y=0:=by simp[kT] at e;omega
   rw[if_pos this]
  ·rfl
 refine xS (b := !kT t) (fun e=>?_) (fun e=>?_)
 ·rw[no (by simpa using e)] at k
  exact k
 have e:kT t=true:=by simpa using e
 obtain⟨x,y,rfl⟩:=dz e
 have nz:¬(x=0∧y=0):=fun z=>by simp[kT,drT,z.1,z.2] at e
 obtain⟨hx,hy⟩:L24 x∧L24 y:=hd
 refine⟨x,y,c,d,[],[],rfl,⟨⟨hx.bd,hy.bd⟩,hl2.2.1.bd,hl2.2.2.bd⟩,a,b',x,y,[],[],rfl,⟨⟨hl2.1.1.bd,hl2.1.2.bd⟩,hx.bd,hy.bd⟩,?_⟩
 have kk:KK (if tn x y c d<0∨tn a b' x y<0 then .non else .tup [xan (tn x y c d) (tn a b' c d),xan (tn a b' x y) (tn a b' c d)]):=by
  have e1:kU a b' c d (drT x y)=_:=(if_neg nz)
  rw[e1] at k;exact k
 refine xS (b:=decide (tn x y c d<0)) (fun e1=>?_) (fun e1=>?_)
 ·rw[if_pos (.inl (xlr e1))] at kk
  exact kk
 refine xS (b:=decide (tn a b' x y<0)) (fun e2=>?_) (fun e2=>?_)
 ·rw[if_pos (.inr (xlr e2))] at kk
  exact kk
 rw[if_neg (by have:=xlq e1;have:=xlq e2;omega)] at kk
 have hb:=xhP hl2
 exact⟨_,_,rfl,by omega,hb,_,_,rfl,by omega,hb,kk⟩
theorem nh (B:Blt mg bn)(F:Fun K "need_turn" "need_turn" k_ f fd)(m:mg "need_turn" = some (.ref f))(b:Binds K fd ["one", "other"] [])(yk:Own P w K mg base 1 "turn_to" ["one", "other"] (spT 2 false false b_)) :
  Own P w K mg base 2 "need_turn" ["one", "other"] (spT 2 false false nK):=by
 refine xA F gE m b rfl (fun _ _ _ _ _ _ hr=>⟨_,_,
  (xc (yC 2 gE.nd (xo yk hr (xU (pv 0) (pv 1))))
  (xc (yE (xO aV (pv 2) xg (xR _)) (xh fc) xV)
  (xh (xE (pv 2))))),
  (xj (xM (xy (xx xa xa)))
  (xj (yg (xD (xi aJ xa xr)) qD xN)
  (xB xa))),fun ts KK hl h=>?_⟩)
 obtain⟨a,b',c,d,rfl,hl2,hp,k⟩:=h
 refine⟨a,b',c,d,[],[],rfl,⟨⟨hl2.1.1.bd,hl2.1.2.bd⟩,hl2.2.1.bd,hl2.2.2.bd⟩,?_⟩
 exact xS (b:=decide (tn a b' c d≤0)) (fun e=>by have:=xlr e;omega) (fun _=>k)
theorem du (B:Blt mg bn)(F:Fun K "is_direction" "is_direction" vh f fd)(m:mg "is_direction" = some (.ref f))(b:Binds K fd ["thing"] [])(wR:Own P w K mg base 2 "are_whole" ["things"] (spT 1 false false fw)) :
  Own P w K mg base 3 "is_direction" ["thing"] (spT 1 false false xdz):=by
 refine xA F fP m b rfl (fun _ _ _ _ _ _ hr=>⟨_,_,
  (xc (yE (PW.pt (u5 (zH (yX (xF wX rfl (B.get "isinstance") xP (xU (pv 0) (uX (v:=V.ty "tuple") rfl (B.get "tuple") wC rfl))))) (u5 (xO (zX hr.units) (xF (yB K) rfl (B.get "len") ug (yZ (pv 0))) xg (xR _)) (uQ (zH (yX (xo wR hr (yZ (pv 0))))))))) (xh (xE vT)) xV)
  (xh (xE (xez (zq (zX hr.units) (xm K 0) xg (xR _)) (dX (zq (zX hr.units) (xm K 0) xg (xR _))))))),
  (xj (yg (zG (yO (yy (kW xa))) (zG (xD (xi vC (yM uD (xZ xa)) xr)) (yO (yy (xy (xZ xa)))))) (xB kD) xN)
  (xB (xa0 (xi vC xn xr) (xi vC xn xr)))),fun ts KK hl h=>?_⟩)
 obtain⟨t,rfl,hs,k⟩:=h
 cases t with
 | tup us =>
  refine xS (b := !decide ((us.length:Int)=2)) (fun c=>?_) (fun c=>?_)
  ·have c:¬(us.length:Int)=2:=by simpa using c
   have e:kT (.tup us)=false:=by
    refine Bool.eq_false_iff.mpr fun h=>?_
    obtain⟨x,y,z⟩:=dz h
    injection z with z
    rw[z] at c
    exact c rfl
   rw[e] at k
   exact k
  ·have c:us.length=2:=by simp at c;omega
   obtain⟨x,y,rfl⟩:∃x y,us=[x,y]:=by
    match us,c with
    | [x,y],_=>exact⟨x,y,rfl⟩
   refine⟨_,rfl,_,.inl rfl,hs _ rfl,?_⟩
   cases x with
   | int a =>
    cases y with
    | int b =>
     show if (!decide (a=0))=true then KK (.bl true) else KK (.bl (!decide (b=0)))
     by_cases ha:a=0<;>by_cases hb:b=0<;>simp[ha,hb,kT] at k ⊢<;>exact k
    | _=>exact k
   | _=>exact k
 | _=>exact k
end
end K11
namespace K11
open PySem L2 Trn
section
variable {P:Program} {w:World} {K:PySem.W.Frag} {mg:Str→Option Value} {base:Heap} {f:Addr} {fd:FuncData}
theorem xbr (B:Blt mg bn)(F:Fun K "sum_of" "sum_of" ff f fd)(m:mg "sum_of" = some (.ref f))(b:Binds K fd ["rows", "weights"] [])(jb:Own P w K mg base 2 "whole_sum" ["rows", "weights"] (spT 2 false false mx))(yR:Own P w K mg base 2 "lowest" ["top", "bottom"] (spT 2 false false xfJ)) :
  Own P w K mg base 3 "sum_of" ["rows", "weights"] (spT 2 false false xdL):=by
 refine xA F fO m b rfl (fun _ _ _ _ _ _ hr=>⟨_,_,
  (xc (wH (xo jb hr (xU (pv 0) (pv 1))) (yt K (n:=2) rfl (xu (yG 2 fO.nd) (xu (xY (i:=3) fO.nd rfl (Or.inr rfl)) yo))))
  (xh (xE (kE (uK K) rfl (B.get "tuple") wC (yZ (zU (yf (N:=["top", "bottom"]) (tau:=[none,some 3]) (XN:=["rows", "weights", "tops", "bottom"]) (xs:=xf ff) (by decide +kernel) rfl rfl) rfl (zL rfl) (yN K (pv 2)) (fun _ _ _ _=>(xY (i:=0) (show(["top", "bottom"]:List Str).Nodup by decide +kernel) rfl (Or.inl rfl))) (fun _ _ _ _=>wL) (fun _ _ _ _=>(xo yR hr (xU (pv 0) (pv 1)))))))))),
  (xj (zK (xy (xx xa xa)) (yw (xl xk (xl xk ye))).g)
  (xB (tI (xZ (OkF.e (yu (yx xa).c xk zE (xy (xx xa xa)))))))),fun ts KK hl h=>?_⟩)
 obtain⟨rows,ws,rfl,H0,k⟩:=h
 refine⟨rows,ws,rfl,H0,fun a b' c D ha hb hc hD=>?_⟩
 refine⟨rfl,sqz (by show 3≤1000000;decide),?_⟩
 have hz:∀x∈rows.zip ws,0<x.2.2:=fun x hx=>(H0.zip hx).2.pos
 have nz:D≠0:=by have:=ha.pd;omega
 refine⟨_,_,rfl,nz,hD,_,_,rfl,nz,hD,_,_,rfl,nz,hD,?_⟩
 have e:∀ {k:Pol.R3→Int} {n:Int},Sd (wsum k (rows.zip ws)) n D→frT (mY n D) (ay n D)=fT (wsum k (rows.zip ws)):=fun {k n} h=>by
  rw[pS h.pd,h.low (rX k _ hz)]
 rw[e ha,e hb,e hc]
 exact k
theorem t8 (B:Blt mg bn)(F:Fun K "whole_sum" "whole_sum" uN f fd)(m:mg "whole_sum" = some (.ref f))(b:Binds K fd ["rows", "weights"] [])(ya:Own P w K mg base 1 "greatest_divisor" ["one", "other"] (spT 2 false false xey)) :
  Own P w K mg base 2 "whole_sum" ["rows", "weights"] (spT 2 false false mx):=by
 refine xA F yA m b rfl (fun _ _ _ _ _ _ hr=>⟨_,_,
  (xc (wQ (i:=2) yA.nd rfl (Or.inl rfl) (yf (N:=["row", "weight"]) (tau:=[none,none]) (XN:=["rows", "weights", "used", "bottom", "row", "weight", "tops", "many"]) (xs:=xf uN) (by decide +kernel) rfl rfl) rfl (ui (yK rfl (yK rfl qK))) (rL K rfl (B.get "zip") (xU (pv 0) (pv 1))) (fun _ _ _ _=>(yt K (n:=2) rfl (xu (xY (i:=0) (show(["row", "weight"]:List Str).Nodup by decide +kernel) rfl (Or.inl rfl)) (xu (xY (i:=1) (show(["row", "weight"]:List Str).Nodup by decide +kernel) rfl (Or.inl rfl)) yo)))) (fun _ _ _ _=>(uM (xO (zX hr.units) (xm K 1) xg (xR _)))) (fun _ _ _ _=>(yb (xU (pv 0) (pv 1)))))
  (xc (yC 3 yA.nd xg)
  (xc (zY PassesOwn.never rfl (yN K (pv 2)) (yt K (n:=2) rfl (xu (yG 4 yA.nd) (xu (yG 5 yA.nd) yo))) (xh (yC 3 yA.nd (xG xK (xG uj (pv 3) (xo ya hr (xU (pv 3) (xm K 5)))) (xm K 5)))))
  (xc (yC 6 yA.nd (zb (xQ xg (xU xg xg))))
  (xc (zY PassesOwn.never rfl (yN K (pv 2)) (yt K (n:=2) rfl (xu (yG 4 yA.nd) (xu (yG 5 yA.nd) yo))) (xc (uf (i:=7) yA.nd rfl (Or.inr rfl) (xG xK (xG uj (pv 3) (xm K 5)) (xm K 5)))
  (xh (wQ (i:=6) yA.nd rfl (Or.inl rfl) (yf (N:=["top", "number", "many"]) (tau:=[none,none,some 7]) (XN:=["rows", "weights", "used", "bottom", "row", "weight", "tops", "many"]) (xs:=xf uN) (by decide +kernel) rfl rfl) rfl (ui (yK rfl (yK rfl qK))) (rL K rfl (B.get "zip") (xU (pv 6) (pv 4))) (fun _ _ _ _=>(yt K (n:=2) rfl (xu (xY (i:=0) (show(["top", "number", "many"]:List Str).Nodup by decide +kernel) rfl (Or.inl rfl)) (xu (xY (i:=1) (show(["top", "number", "many"]:List Str).Nodup by decide +kernel) rfl (Or.inl rfl)) yo)))) (fun _ _ _ _=>wL) (fun _ _ _ _=>(xG wa (pv 0) (xG xK (pv 2) (pv 1))))))))
  (xh (xE (yb (xU (pv 6) (pv 3)))))))))),
  (xj (xM (OkF.e (yu (g_ (xx xa xa)).c (yw (xl xk (xl xk ye))) (xD (xi vC xn xr)) (yc (b:=true) (xx xa xa)))))
  (xj (xM xr)
  (xj (yU (yx xa) (yw (xl xk (xl xk ye))).g (xM (xi x8 (xi qm xa (xy (xx xa xn))) xn)))
  (xj (xM (uR (b:=true) (xJ xr (xx xr xr))))
  (xj (yU (yx xa) (yw (xl xk (xl xk ye))).g (xj (xM (xi x8 (xi qm xa xn) xn))
  (xM (OkF.e (yu (g_ (xx xa xa)).c (yw (xl xk (xl xk ye))) zE (xi uW xa (xi x8 xa xa)))))))
  (xB (yc (b:=true) (xx xa xa)))))))),fun ts KK hl h=>?_⟩)
 obtain⟨rows,ws,rfl,H0,k⟩:=h
 have hl8:=H0.l100
 have hlen:=H0.len
 have zl:(rows.zip ws).length=rows.length:=by rw[List.length_zip];omega
 have hz:=fun x hx=>H0.zip (x:=x) hx
 have hu:∀x∈(rows.zip ws).filter sy,B3k 10 x.1∧Wt x.2:=fun x hx=>hz x (xkH.mp hx).1
 have ul:((rows.zip ws).filter sy).length≤8:=by have:=xkq sy (rows.zip ws);omega
 refine x_ (fun τ=>τ=[.fz (.tup (rows.map trR)),.fz (.tup (ws.map fT)),.fz (.lst (((rows.zip ws).filter sy).map rwT)),.un,.un,.un,.un,.un]) ?_ (fun N hN=>?_)
 rotate_left
 ·show(xac (rows.map trR) (ws.map fT)).length<sizeLine∧_
  rw[rA]
  refine⟨by rw[xkr];exact sqz (by omega),yH sy rwT (fun x hx N M h1 h0=>?_) (hN _ rfl)⟩
  exact⟨rfl,xS (b := !decide (x.2.1=0)) h1 h0⟩
 rintro _ rfl
 rw[←dD k0 _ fun x hx=>(hz x hx).2,←dD k1 _ fun x hx=>(hz x hx).2,←dD k2 _ fun x hx=>(hz x hx).2] at k
 generalize (rows.zip ws).filter sy=U at hu ul k
 refine x_ (fun τ=>τ=[.fz (.tup (rows.map trR)),.fz (.tup (ws.map fT)),.fz (.lst (U.map rwT)),.fz (.int 1),.un,.un,.un,.un]) ?_ (fun N hN=>hN _ rfl)
 rintro _ rfl
 refine x_ (fun τ=>∃(D:Int) (x4 x5:TV),(0<D∧Bk 330 D∧∀x∈U,x.2.2 ∣ D)∧τ=[.fz (.tup (rows.map trR)),.fz (.tup (ws.map fT)),.fz (.lst (U.map rwT)),.fz (.int D),x4,x5,.un,.un]) ?_ (fun N hN=>?_)
 rotate_left
 ·refine vX (U.map rwT) (fun i τ=>∃(D:Int) (x4 x5:TV),(0<D∧Bk (1+40*i) D∧∀x∈U.take i,x.2.2 ∣ D)∧τ=[.fz (.tup (rows.map trR)),.fz (.tup (ws.map fT)),.fz (.lst (U.map rwT)),.fz (.int D),x4,x5,.un,.un]) (fun KK h=>h) ⟨1,_,_,⟨by decide,by unfold Bk;decide,fun x hx=>by simp at hx⟩,rfl⟩ ?_ (fun τ h=>?_)
  rotate_left
  ·obtain⟨D,x4,x5,⟨d1,d2,d3⟩,rfl⟩:=h
   rw[xkr] at d2 d3
   rw[xk1] at d3
   exact hN _ ⟨D,_,_,⟨d1,d2.mono (by omega),d3⟩,rfl⟩
  rintro i x τ N2 hx ⟨D,x4,x5,⟨d1,d2,d3⟩,rfl⟩ hN2
  obtain⟨y,hy,rfl⟩:=wM hx
  have il:i<U.length:=(xkg.mp hy).1
  obtain⟨hr,hw⟩:=hu y (xkM hy)
  have bD:Bk 330 D:=d2.mono (by omega)
  obtain⟨s1,s2,s3,s4⟩:=xcs d1 hw.pos
  have g0:(0:Int)<(Int.gcd D y.2.2:Nat):=by have:=xju D (show y.2.2≠0 by have:=hw.pos;omega);omega
  have bg:Bd (Int.gcd D y.2.2:Nat):=by
   have:=Int.gcd_le_natAbs_left y.2.2 (show D≠0 by omega)
   exact(bD.le (by omega)).bd
  have bq:Bk 330 (D.fdiv (Int.gcd D y.2.2:Nat)):=by
   rw[zS (by omega)]
   exact bD.le (Int.natAbs_ediv_le_natAbs _ _)
  refine⟨rfl,D,y.2.2,rfl,⟨by omega,bg⟩,⟨bq.bd,hw.sm.bot.bd⟩,?_⟩
  have e:D.fdiv (Int.gcd D y.2.2:Nat)*y.2.2=D / (Int.gcd D y.2.2:Nat)*y.2.2:=by rw[zS (by omega)]
  refine hN2 _ ⟨D / (Int.gcd D y.2.2:Nat)*y.2.2,.fz (trR y.1),.fz (fT y.2),⟨s1,?_,fun z hz'=>?_⟩,by rw[←e];rfl⟩
  ·exact((d2.mul hw.sm.bot).le s4).mono (by omega)
  ·rw[xk3,hy] at hz'
   rcases xkB.mp hz' with h | h
   ·exact Int.dvd_trans (d3 z h) s2
   ·simp at h;rw[h];exact s3
 rintro _ ⟨D,x4,x5,⟨d1,d2,d3⟩,rfl⟩
 refine x_ (fun τ=>τ=[.fz (.tup (rows.map trR)),.fz (.tup (ws.map fT)),.fz (.lst (U.map rwT)),.fz (.int D),x4,x5,.fz (.lst [.int 0,.int 0,.int 0]),.un]) ?_ (fun N hN=>hN _ rfl)
 rintro _ rfl
 refine x_ (fun τ=>∃(a b c:Int) (x4 x5 x7:TV),(Sd (wsum k0 U) a D∧Sd (wsum k1 U) b D∧Sd (wsum k2 U) c D)∧τ=[.fz (.tup (rows.map trR)),.fz (.tup (ws.map fT)),.fz (.lst (U.map rwT)),.fz (.int D),x4,x5,.fz (.lst [.int a,.int b,.int c]),x7]) ?_ (fun N hN=>?_)
 ·rintro _ ⟨a,b',c,x4,x5,x7,⟨h1,h2,h3⟩,rfl⟩
  exact k a b' c D h1 h2 h3 d2.bd
 have z0:∀k:Pol.R3→Int,Sd (wsum k []) 0 D:=fun k=>⟨by show(0:Int)<1;decide,d1,by show(0:Int)*D=0*1;omega⟩
 refine vX (U.map rwT) (fun i τ=>∃(a b c:Int) (x4 x5 x7:TV),(Sd (wsum k0 (U.take i)) a D∧Sd (wsum k1 (U.take i)) b D∧Sd (wsum k2 (U.take i)) c D)∧τ=[.fz (.tup (rows.map trR)),.fz (.tup (ws.map fT)),.fz (.lst (U.map rwT)),.fz (.int D),x4,x5,.fz (.lst [.int a,.int b,.int c]),x7]) (fun KK h=>h) ⟨0,0,0,_,_,_,⟨z0 _,z0 _,z0 _⟩,rfl⟩ ?_ (fun τ h=>?_)
 rotate_left
 ·obtain⟨a,b',c,x4,x5,x7,hs,rfl⟩:=h
  rw[xkr,xk1] at hs
  exact hN _ ⟨a,b',c,_,_,_,hs,rfl⟩
 rintro i x τ N2 hx ⟨a,b',c,x4,x5,x7,⟨h1,h2,h3⟩,rfl⟩ hN2
 obtain⟨y,hy,rfl⟩:=wM hx
 obtain⟨hr,hw⟩:=hu y (xkM hy)
 have dv:=d3 y (xkM hy)
 have qe:y.2.2*D.fdiv y.2.2=D:=by rw[zS (xjv hw.pos)];exact xjE dv
 have bq:Bk 330 (D.fdiv y.2.2):=by
  rw[zS (xjv hw.pos)]
  exact d2.le (Int.natAbs_ediv_le_natAbs _ _)
 have bm:=bq.mul hw.sm.top
 have tk1:U.take (i+1)=U.take i++[y]:=by rw[xk3,hy];rfl
 refine⟨rfl,⟨by have:=hw.pos;show y.2.2≠0;omega,hw.sm.bot.bd⟩,⟨bq.bd,hw.sm.top.bd⟩,sqz (by show 3≤1000000;decide),?_⟩
 refine⟨rfl,⟨bm.bd,hr.1.1.bd⟩,rfl,⟨bm.bd,hr.1.2.bd⟩,rfl,⟨bm.bd,hr.2.bd⟩,?_⟩
 refine hN2 _ ⟨_,_,_,_,_,_,⟨?_,?_,?_⟩,rfl⟩
 ·rw[tk1,wsum_snoc];exact h1.plusD (xa2 hw.pos d1 qe)
 ·rw[tk1,wsum_snoc];exact h2.plusD (xa2 hw.pos d1 qe)
 ·rw[tk1,wsum_snoc];exact h3.plusD (xa2 hw.pos d1 qe)
theorem xbl (B:Blt mg bn)(F:Fun K "cut_of" "cut_of" rW f fd)(m:mg "cut_of" = some (.ref f))(b:Binds K fd ["totals"] [])  :
  Own P w K mg base 1 "cut_of" ["totals"] (spT 1 false false xdT):=by
 refine xA F jV m b rfl (fun _ _ _ _ _ _ hr=>⟨_,_,
  (xc (wH (pv 0) (yt K (n:=3) rfl (xu (yG 1 jV.nd) (xu (yG 2 jV.nd) (xu (yG 3 jV.nd) yo)))))
  (xc (yE (PW.pt (u5 (xO (zX hr.units) (xm K 1) xg (xR _)) (u5 (xO (zX hr.units) (xm K 2) xg (xR _)) (uQ (PW.pt (jy (xO (zI hr.units) (xm K 1) xg (xR _)) (v5 (xO (zI hr.units) (xm K 2) xg (xR _))))))))) (xh fc) xV)
  (xh (xE (yb (xQ (xm K 1) (xU (xm K 2) (xG uj (xm K 3) (xm K 3))))))))),
  (xj (zK xa (yw (xl xk (xl xk (xl xk ye)))).g)
  (xj (yg (zG (xD (xi vC xn xr)) (zG (xD (xi vC xn xr)) (v_ (xD (xi os_eq xn xr)) (xD (xi os_eq xn xr))))) qD xN)
  (xB (yc (b:=true) (xJ xn (xx xn (xi qm xn xn))))))),fun ts KK hl h=>?_⟩)
 obtain⟨a,b',c,rfl,hc,⟨h1,h2,h3⟩,k⟩:=h
 refine⟨rfl,?_⟩
 have cn:c.2≠0:=by omega
 refine xS (b := !decide (a.2=1)) (fun z=>?_) (fun _=>?_)
 ·simp[h1] at z
 refine xS (b := !decide (b'.2=1)) (fun z=>?_) (fun _=>?_)
 ·simp[h2] at z
 refine xS (b:=decide (a.1=0)) (fun z=>?_) (fun _=>?_)
 ·have z:=xlr z
  refine xS (b:=decide (b'.1=0)) (fun z2=>?_) (fun _=>?_)
  ·exact absurd ⟨z,xlr z2⟩ h3
  ·exact⟨⟨cn,hc.2⟩,k⟩
 ·exact⟨⟨cn,hc.2⟩,k⟩
end
end K11
namespace K11
open PySem L2 Trn
section
variable {P:Program} {w:World} {K:PySem.W.Frag} {mg:Str→Option Value} {base:Heap} {f:Addr} {fd:FuncData}
theorem cA (B:Blt mg bn)(F:Fun K "sides_at" "sides_at" jW f fd)(m:mg "sides_at" = some (.ref f))(b:Binds K fd ["field", "place"] [])(vY:Own P w K mg base 3 "sides_among" ["rows", "numbers"] (spT 2 false true fF))(uO:Own P w K mg base 6 "tight_numbers" ["rows", "place"] (spT 2 false false sR)) :
  Own P w K mg base 7 "sides_at" ["field", "place"] (spT 2 false false ou):=by
 refine xA F bY m b rfl (fun _ _ _ _ _ _ hr=>⟨_,_,
  (xh (xE (xo vY hr (xU (pv 0) (xo uO hr (xU (pv 0) (pv 1))))))),
  (xB (xy (xx xa (xy (xx xa xa))))),fun ts KK hl h=>?_⟩)
 obtain⟨rows,p,rfl,hf,hp,k⟩:=h
 have l8:=(sY hf).1.2
 have:=oS (rows:=rows) (p:=p)
 exact⟨rows,p,rfl,by omega,sY.b200 hf,hp,rows,tV rows p,rfl,hf,fun m hm=>cB hm,by omega,k⟩
theorem si (B:Blt mg bn)(F:Fun K "sides_among" "sides_among" vV f fd)(m:mg "sides_among" = some (.ref f))(b:Binds K fd ["rows", "numbers"] [])(wB:Own P w K mg base 2 "next_to_the_left" ["rows", "numbers", "number"] (spT 3 false false nU)) :
  Own P w K mg base 3 "sides_among" ["rows", "numbers"] (spT 2 false true fF):=by
 refine xA F ua m b rfl (fun _ _ _ _ _ _ hr=>⟨_,_,
  (xc (yC 2 ua.nd (zb uV))
  (xc (zY PassesOwn.never rfl (yN K (pv 1)) (yG 3 ua.nd) (xc (yC 4 ua.nd (xo wB hr (xQ (pv 0) (xU (pv 1) (pv 3)))))
  (xh (yE (jC (bO (pv 4))) (xh (vj (aZ PySem.F.plainAttrs_list PySem.F.slot_list_append PySem.F.type_list_append uc (pv 2) (yZ (yb (xU (pv 3) (pv 4))))))) xV))))
  (xh (xE (pv 2))))),
  (xj (zC (kj um))
  (xj (yU (yx xa) xk.g (xj (xM (xy (xJ xa (xx xa xa))))
  (yg (yy (bp xa)) (qx (yc (b:=true) (xx xa xa))) xN)))
  tw)),fun ts KK hl h=>?_⟩)
 obtain⟨rows,nums,rfl,hf,hm,hl',k⟩:=h
 refine zD (all:=nums.map n6) (fun i τ=>∃x3 x4,τ=[.fz (.tup (rows.map trR)),.fz (.tup (nums.map n6)),.ow (((nums.take i).filterMap fun n=>(bE rows nums n).map fun m=>(n,m)).map jr),x3,x4]) ⟨_,_,rfl⟩ ?_ ?_
 ·rintro i x τ N hxi ⟨x3,x4,rfl⟩ hN
  obtain⟨n,hyi,rfl⟩:=wM hxi
  have hn:=hm n (xkM hyi)
  rw[bz (rows:=rows) hyi] at hN
  refine⟨rows,nums,n,rfl,hf,hm,hn,?_⟩
  cases q:bE rows nums n with
  | none =>
   rw[q] at hN
   exact hN _ ⟨_,_,by rw[show(Option.map (fun m=>(n,m)) none).toList=([]:List (Nat×Nat)) from rfl,xjZ];rfl⟩
  | some m =>
   rw[q] at hN
   refine⟨by rw[xkr];exact sqz (xk9 (List.length_filterMap_le _ _) (by rw[xkw];omega)),hN _ ⟨_,_,by rw[xky];rfl⟩⟩
 ·rintro τ ⟨x3,x4,rfl⟩
  rw[xkr,xk2 (xk7 _)]
  exact k
theorem jl (B:Blt mg bn)(F:Fun K "next_to_the_left" "next_to_the_left" wg f fd)(m:mg "next_to_the_left" = some (.ref f))(b:Binds K fd ["rows", "numbers", "number"] [])(yk:Own P w K mg base 1 "turn_to" ["one", "other"] (spT 2 false false b_)) :
  Own P w K mg base 2 "next_to_the_left" ["rows", "numbers", "number"] (spT 3 false false nU):=by
 refine xA F y8 m b rfl (fun _ _ _ _ _ _ hr=>⟨_,_,
  (xc (yC 3 y8.nd ju)
  (xc (zY PassesOwn.never rfl (yN K (pv 1)) (yG 4 y8.nd) (xh (yE (xO cQ (xo yk hr (xU (zV (yJ K) (pv 0) (pv 2) (fun _ _=>rfl)) (zV (yJ K) (pv 0) (pv 4) (fun _ _=>rfl)))) xg (xR _)) (xh (yE (PW.pt (u5 (jC (aB (pv 3))) (uQ (xO cQ (xo yk hr (xU (zV (yJ K) (pv 0) (pv 4) (fun _ _=>rfl)) (zV (yJ K) (pv 0) (pv 3) (fun _ _=>rfl)))) xg (xR _))))) (xh (yC 3 y8.nd (pv 4))) xV)) xV)))
  (xh (xE (pv 3))))),
  (xj (xM (xad (t:=Tr.non)))
  (xj (yU (yx xa) xk.g (yg (xD (xi pF (xy (xx (vR xa xa) (vR xa xa))) xr)) (yg (zG (yy (sS xa)) (xD (xi pF (xy (xx (vR xa xa) (vR xa xa))) xr))) (xM xa) xN) xN))
  (xB xa))),fun ts KK hl h=>?_⟩)
 obtain⟨rows,nums,n,rfl,hf,hm,hn,k⟩:=h
 refine zD (all:=nums.map n6) (fun i τ=>∃x4,τ=[.fz (.tup (rows.map trR)),.fz (.tup (nums.map n6)),.fz (n6 n),.fz (optN ((nums.take i).foldl (zm rows n) none)),x4]∧∀y,(nums.take i).foldl (zm rows n) none=some y→y<rows.length) ⟨_,rfl,fun y hy=>by cases hy⟩ ?_ ?_
 ·rintro i x τ N hxi ⟨x4,rfl,hb⟩ hN
  obtain⟨o,hyi,rfl⟩:=wM hxi
  have ho:=hm o (xkM hyi)
  have fold:=Pol.vJ (zm rows n) none hyi
  generalize hacc:(nums.take i).foldl (zm rows n) none=acc at fold hb ⊢
  have leaf:∀oo:Option Nat,oo=zm rows n acc o→N [.fz (.tup (rows.map trR)),.fz (.tup (nums.map n6)),.fz (n6 n),.fz (optN oo),.fz (n6 o)]:=fun oo e=>by
   rw[fold] at hN
   refine hN _ ⟨_,by rw[e],?_⟩
   ·unfold zm
    split
    ·split
     ·intro z hz;cases hz;exact ho
     ·split
      ·intro z hz;cases hz;exact ho
      ·intro z hz;cases hz;exact hb _ rfl
    ·exact hb
  show tU (atT (rows.map trR) (n:Int)) _
  rw[sF hn]
  show tU (atT (rows.map trR) (o:Int)) _
  rw[sF ho]
  refine⟨(u6 rows n).1,(u6 rows n).2.1,(u6 rows o).1,(u6 rows o).2.1,_,_,rfl,⟨sY.bd hf hn,sY.bd hf ho⟩,?_⟩
  refine xS (b:=decide (0<cr (xH rows n) (xH rows o))) (fun c=>?_) (fun c=>?_)
  ·have c:=xlr c
   cases acc with
   | none=>exact leaf (some o) (by unfold zm;rw[if_pos c])
   | some z =>
    have hz:=hb z rfl
    show tU (atT (rows.map trR) (o:Int)) _
    rw[sF ho]
    show tU (atT (rows.map trR) (z:Int)) _
    rw[sF hz]
    refine⟨(u6 rows o).1,(u6 rows o).2.1,(u6 rows z).1,(u6 rows z).2.1,_,_,rfl,⟨sY.bd hf ho,sY.bd hf hz⟩,?_⟩
    refine xS (b:=decide (0<cr (xH rows o) (xH rows z))) (fun d=>?_) (fun d=>?_)
    ·exact leaf (some o) (by unfold zm;rw[if_pos c];exact(if_pos (xlr d)).symm)
    ·exact leaf (some z) (by unfold zm;rw[if_pos c];exact(if_neg (xlq d)).symm)
  ·have c:=xlq c
   exact leaf acc (by unfold zm;rw[if_neg c])
 ·rintro τ ⟨x4,rfl,_⟩
  rw[xkr,xk2 (xk7 _)]
  exact k
theorem fX (B:Blt mg bn)(F:Fun K "direction_of" "direction_of" vp f fd)(m:mg "direction_of" = some (.ref f))(b:Binds K fd ["row"] [])  :
  Own P w K mg base 1 "direction_of" ["row"] (spT 1 false false xej):=by
 refine xA F fm m b rfl (fun _ _ _ _ _ _ hr=>⟨_,_,
  (xh (xE (yb (xU (xm K 0) (xm K 0))))),
  (xB (yc (b:=true) (xx xn xn))),fun ts KK hl h=>?_⟩)
 obtain⟨a,b',x,rfl,k⟩:=h
 exact k
theorem jH (B:Blt mg bn)(F:Fun K "weights_towards" "weights_towards" wN f fd)(m:mg "weights_towards" = some (.ref f))(b:Binds K fd ["field", "pair", "direction"] [])(cg:Own P w K mg base 4 "parts" ["one", "other", "thing"] (spT 3 false false xd_))(wZ:Own P w K mg base 1 "direction_of" ["row"] (spT 1 false false xej)) :
  Own P w K mg base 5 "weights_towards" ["field", "pair", "direction"] (spT 3 false false xdX):=by
 refine xA F yP m b rfl (fun _ _ _ _ _ _ hr=>⟨_,_,
  (xc (wH (pv 1) (yt K (n:=2) rfl (xu (yG 3 yP.nd) (xu (yG 4 yP.nd) yo))))
  (xc (yC 5 yP.nd (xo cg hr (xQ (xo wZ hr (yZ (zV (yJ K) (pv 0) (pv 3) (fun _ _=>rfl)))) (xU (xo wZ hr (yZ (zV (yJ K) (pv 0) (pv 4) (fun _ _=>rfl)))) (pv 2)))))
  (xc (yE (jC (aB (pv 5))) (xh (xE ju)) xV)
  (xc (yC 6 yP.nd (xG xgF (zb (yZ (yb (xU xg xg)))) (xF (yB K) rfl (B.get "len") ug (yZ (pv 0)))))
  (xc (wH (pv 5) (yt K (n:=2) rfl (xu (m_ (pv 6) (pv 3) set_list) (xu (m_ (pv 6) (pv 4) set_list) yo))))
  (xh (xE (kE (uK K) rfl (B.get "tuple") wC (yZ (pv 6)))))))))),
  (xj (zK xa (yw (xl xk (xl xk ye))).g)
  (xj (xM (xy (xJ (xy (xZ (vR xa xa))) (xx (xy (xZ (vR xa xa))) xa))))
  (xj (yg (yy (sS xa)) (xB (xad (t:=Tr.non))) xN)
  (xj (zC (xeB (uR (b:=true) (xZ (yc (b:=true) (xx xr xr)))) (yM uD (xZ xa))))
  (xj (zK xa (xe3 (t5 (cP xa) (t5 (cP xa) xc0))))
  (xB xbp)))))),fun ts KK hl h=>?_⟩)
 obtain⟨rows,⟨i,j⟩,d,rfl,hf,⟨i1,i2,pos⟩,⟨bx,nz⟩,k⟩:=h
 have i1:i<rows.length:=i1
 have i2:j<rows.length:=i2
 have l8:=(sY hf).1.2
 have ml:(rows.map trR).length=rows.length:=xkr _
 refine x_ (fun τ=>τ=[.fz (.tup (rows.map trR)),.fz (jr (i,j)),.fz (drD d),.fz (.int (i:Nat)),.fz (.int (j:Nat)),.un,.un]) ?_ (fun N hN=>⟨rfl,hN _ rfl⟩)
 rintro _ rfl
 refine x_ (fun τ=>τ=[.fz (.tup (rows.map trR)),.fz (jr (i,j)),.fz (drD d),.fz (.int (i:Nat)),.fz (.int (j:Nat)),.fz (kU (xH rows i).1 (xH rows i).2 (xH rows j).1 (xH rows j).2 (drD d)),.un]) ?_ (fun N hN=>?_)
 rotate_left
 ·show tU (atT (rows.map trR) (i:Int)) _
  rw[sF i1]
  refine⟨(u6 rows i).1,(u6 rows i).2.1,_,rfl,?_⟩
  show tU (atT (rows.map trR) (j:Int)) _
  rw[sF i2]
  refine⟨(u6 rows j).1,(u6 rows j).2.1,_,rfl,?_⟩
  refine⟨_,_,_,_,_,rfl,xhU (n:=30) (u:=xH rows i) (v:=xH rows j) (by decide) (ku hf i1) (ku hf i2),?_,?_,pos,?_⟩
  ·exact xcp _ _
  ·exact xfT (by decide) bx
  exact hN _ rfl
 rintro _ rfl
 by_cases c:0≤cr (xH rows i) d∧0≤cr d (xH rows j)
 rotate_left
 ·rw[xdI (ij:=(i,j)) c] at k
  rw[bW c]
  exact k
 have G:uq rows ((i,j),d):=⟨i1,i2,pos,c,nz,bx⟩
 rw[xaD (ij:=(i,j)) c] at k
 have e:kU (xH rows i).1 (xH rows i).2 (xH rows j).1 (xH rows j).2 (drD d)=.tup [fT (lfr (cr d (xH rows j)) (cr (xH rows i) (xH rows j))),fT (lfr (cr (xH rows i) d) (cr (xH rows i) (xH rows j)))]:=by
  rw[bG nz c,xaX pos,xaX pos]
 rw[e]
 refine x_ (fun τ=>τ=[.fz (.tup (rows.map trR)),.fz (jr (i,j)),.fz (drD d),.fz (.int (i:Nat)),.fz (.int (j:Nat)),.fz (.tup [fT (lfr (cr d (xH rows j)) (cr (xH rows i) (xH rows j))),fT (lfr (cr (xH rows i) d) (cr (xH rows i) (xH rows j)))]),.un]) ?_ (fun N hN=>hN _ rfl)
 rintro _ rfl
 refine x_ (fun τ=>τ=[.fz (.tup (rows.map trR)),.fz (jr (i,j)),.fz (drD d),.fz (.int (i:Nat)),.fz (.int (j:Nat)),.fz (.tup [fT (lfr (cr d (xH rows j)) (cr (xH rows i) (xH rows j))),fT (lfr (cr (xH rows i) d) (cr (xH rows i) (xH rows j)))]),.ow ((List.replicate rows.length ((0:Int),(1:Int))).map fT)]) ?_ (fun N hN=>⟨⟨by omega,by rw[ml];omega⟩,xfQ (by simp;omega),hN _ (by
  show([.fz (.tup (rows.map trR)),.fz (jr (i,j)),.fz (drD d),.fz (.int (i:Nat)),.fz (.int (j:Nat)),.fz (.tup [fT (lfr (cr d (xH rows j)) (cr (xH rows i) (xH rows j))),fT (lfr (cr (xH rows i) d) (cr (xH rows i) (xH rows j)))]),.ow (List.replicate (rows.map trR).length [fT (0,1)]).flatten]:TSt)=_
  rw[oM,List.map_replicate,ml])⟩)
 rintro _ rfl
 refine x_ (fun τ=>τ=[.fz (.tup (rows.map trR)),.fz (jr (i,j)),.fz (drD d),.fz (.int (i:Nat)),.fz (.int (j:Nat)),.fz (.tup [fT (lfr (cr d (xH rows j)) (cr (xH rows i) (xH rows j))),fT (lfr (cr (xH rows i) d) (cr (xH rows i) (xH rows j)))]),.ow ((kR rows ((i,j),d)).map fT)]) ?_ (fun N hN=>?_)
 ·rintro _ rfl
  exact k
 refine⟨rfl,?_⟩
 refine xbV ?_
 refine oK (f:=fT) (n:=i) (l:=List.replicate rows.length ((0:Int),(1:Int))) rfl (by rw[xkt];exact i1) (fun _ h=>h) ?_
 refine xbV ?_
 refine oK (f:=fT) (n:=j) (l:=(List.replicate rows.length ((0:Int),(1:Int))).set i (lfr (cr d (xH rows j)) (cr (xH rows i) (xH rows j)))) rfl (by rw[xku,xkt];exact i2) (fun _ h=>h) ?_
 refine hN _ ?_
 show _=([.fz (.tup (rows.map trR)),.fz (jr (i,j)),.fz (drD d),.fz (.int (i:Nat)),.fz (.int (j:Nat)),.fz (.tup [fT (lfr (cr d (xH rows j)) (cr (xH rows i) (xH rows j))),fT (lfr (cr (xH rows i) d) (cr (xH rows i) (xH rows j)))]),.ow ((wtw rows.length i j (cr d (xH rows j)) (cr (xH rows i) d) (cr (xH rows i) (xH rows j))).map fT)]:TSt)
 rw[xdS G.pos]
 rfl
theorem bB (B:Blt mg bn)(F:Fun K "paper_of" "paper_of" gu f fd)(m:mg "paper_of" = some (.ref f))(b:Binds K fd ["field", "weights"] [])(rP:Own P w K mg base 1 "cut_of" ["totals"] (spT 1 false false xdT))(r_:Own P w K mg base 3 "sum_of" ["rows", "weights"] (spT 2 false false xdL)) :
  Own P w K mg base 4 "paper_of" ["field", "weights"] (spT 2 false false oD):=by
 refine xA F pq m b rfl (fun _ _ _ _ _ _ hr=>⟨_,_,
  (xh (xE (yb (xU (pv 1) (xo rP hr (yZ (xo r_ hr (xU (pv 0) (pv 1))))))))),
  (xB (yc (b:=true) (xx xa (xy (xZ (xy (xx xa xa))))))),fun ts KK hl h=>?_⟩)
 obtain⟨rows,ws,rfl,H0,hc,k⟩:=h
 have hb:=H0.bot
 exact⟨rows,ws,rfl,H0,_,_,_,rfl,hb,hc,k⟩
theorem sk (B:Blt mg bn)(F:Fun K "cut_towards" "cut_towards" y_ f fd)(m:mg "cut_towards" = some (.ref f))(b:Binds K fd ["field", "a", "b"] [])(vB:Own P w K mg base 9 "corners" ["field"] (spT 1 false true tN))(hX:Own P w K mg base 4 "paper_of" ["field", "weights"] (spT 2 false false oD))(wU:Own P w K mg base 5 "weights_towards" ["field", "pair", "direction"] (spT 3 false false xdX))(gv:Own P w K mg base 7 "sides_at" ["field", "place"] (spT 2 false false ou)) :
  Own P w K mg base 10 "cut_towards" ["field", "a", "b"] (spT 3 false false xcd):=by
 refine xA F yT m b rfl (fun _ _ _ _ _ _ hr=>⟨_,_,
  (xc (yC 3 yT.nd (xo vB hr (yZ (pv 0))))
  (xc (yE (zH (xd3 K (pv 3))) (xh fc) xV)
  (xc (cZ (i:=4) yT.nd rfl (Or.inl rfl) (yf (N:=["place", "pair", "field"]) (tau:=[none,none,some 0]) (XN:=["field", "a", "b", "places", "pairs", "towards", "fitting"]) (xs:=xf y_) (by decide +kernel) rfl rfl) rfl (zL rfl) (xg0 (tid:=[some 0,none,some 2]) (by decide +kernel)) (zL rfl) (yN K (pv 3)) (fun _ _ _ _=>(xY (i:=0) (show(["place", "pair", "field"]:List Str).Nodup by decide +kernel) rfl (Or.inl rfl))) (fun _ _ _ _=>wL) (fun _ _ _ _=>(yN K (xo gv hr (xU (pv 2) (pv 0))))) (fun _ _ _ _=>(xY (i:=1) (show(["place", "pair", "field"]:List Str).Nodup by decide +kernel) rfl (Or.inl rfl))) (fun _ _ _ _=>wL) (fun _ _ _ _=>(pv 1)))
  (xc (wQ (i:=5) yT.nd rfl (Or.inl rfl) (yf (N:=["pair", "field", "a", "b"]) (tau:=[none,some 0,some 1,some 2]) (XN:=["field", "a", "b", "places", "pairs", "towards", "fitting"]) (xs:=xf y_) (by decide +kernel) rfl rfl) rfl (zL rfl) (yN K (pv 4)) (fun _ _ _ _=>(xY (i:=0) (show(["pair", "field", "a", "b"]:List Str).Nodup by decide +kernel) rfl (Or.inl rfl))) (fun _ _ _ _=>wL) (fun _ _ _ _=>(xo wU hr (xQ (pv 1) (xU (pv 0) (yb (xU (pv 2) (pv 3))))))))
  (xc (wQ (i:=6) yT.nd rfl (Or.inl rfl) (yf (N:=["weights"]) (tau:=[none]) (XN:=["field", "a", "b", "places", "pairs", "towards", "fitting"]) (xs:=xf y_) (by decide +kernel) rfl rfl) rfl (zL rfl) (yN K (pv 5)) (fun _ _ _ _=>(xY (i:=0) (show(["weights"]:List Str).Nodup by decide +kernel) rfl (Or.inl rfl))) (fun _ _ _ _=>(uM (jC (bO (pv 0))))) (fun _ _ _ _=>(pv 0)))
  (xh (xE (xo hX hr (xU (pv 0) (xm K 6)))))))))),
  (xj (xM (xy (xZ xa)))
  (xj (yg (yO (xaV xa)) qD xN)
  (xj (xM (OkF.e (xa9 (yx xa).c xk zE (yx (xy (xx xa xa))) xk zE xa)))
  (xj (xM (OkF.e (yu (yx xa).c xk zE (xy (xJ xa (xx xa (yc (b:=true) (xx xa xa))))))))
  (xj (xM (OkF.e (yu (yx xa).c xk (yy (bp xa)) xa)))
  (xB (xy (xx xa xn)))))))),fun ts KK hl h=>?_⟩)
 obtain⟨rows,d,rfl,hf,FR,ne,⟨bx,nz⟩,k⟩:=h
 have cl:=xdp FR
 have pl:=fb hf (wd rows)
 have pl:(wF rows).length≤8*(wd rows).length:=pl
 refine x_ (fun τ=>τ=[.fz (.tup (rows.map trR)),.fz (.int d.1),.fz (.int d.2),.fz (.lst ((wd rows).map yW)),.un,.un,.un]) ?_ (fun N hN=>⟨rows,rfl,hf,FR,hN _ rfl⟩)
 rintro _ rfl
 refine x_ (fun τ=>τ=[.fz (.tup (rows.map trR)),.fz (.int d.1),.fz (.int d.2),.fz (.lst ((wd rows).map yW)),.un,.un,.un]) ?_ (fun N hN=>?_)
 rotate_left
 ·cases e:wd rows with
  | nil=>exact absurd e ne
  | cons v vs=>rw[e] at hN;exact hN _ rfl
 rintro _ rfl
 refine x_ (fun τ=>τ=[.fz (.tup (rows.map trR)),.fz (.int d.1),.fz (.int d.2),.fz (.lst ((wd rows).map yW)),.fz (.lst ((wF rows).map jr)),.un,.un]) ?_ (fun N hN=>?_)
 rotate_left
 ·refine nJ (fun i acc=>acc=((((wd rows).take i).flatMap fun v=>vb rows (tV rows (plc v))).map jr)) _ 0 [] (fun j x acc hx hG N2 hN2=>?_) rfl (fun acc hG=>?_)
  ·rw[Nat.zero_add] at hG hN2
   obtain⟨v,hv,rfl⟩:=wM hx
   subst hG
   refine⟨rows,plc v,rfl,hf,FR.pk (xkM hv),?_,?_⟩
   ·have a:=fb hf ((wd rows).take j)
    have b:=fb hf [v]
    rw[List.flatMap_cons,List.flatMap_nil,xjZ] at b
    rw[xkw] at a
    rw[xkr,xkr]
    simp only[xkn,xks] at b
    exact sqz (by omega)
   ·refine mK id _ _ (fun x hx N h=>h) (hN2 _ ?_)
    rw[List.map_id,xk3,hv,xj9,xky]
    simp
  ·rw[Nat.zero_add,xkr,xk2 (xk7 _)] at hG
   subst hG
   exact hN _ rfl
 rintro _ rfl
 refine x_ (fun τ=>τ=[.fz (.tup (rows.map trR)),.fz (.int d.1),.fz (.int d.2),.fz (.lst ((wd rows).map yW)),.fz (.lst ((wF rows).map jr)),.fz (.lst ((wF rows).map fun ij=>wtO rows ij d)),.un]) ?_ (fun N hN=>⟨by rw[xkr];exact sqz (by omega),nt (fun ij=>wtO rows ij d) (fun ij hij N h=>⟨rows,ij,d,rfl,hf,(gD hij).1,⟨bx,nz⟩,h⟩) (hN _ rfl)⟩)
 rintro _ rfl
 refine x_ (fun τ=>τ=[.fz (.tup (rows.map trR)),.fz (.int d.1),.fz (.int d.2),.fz (.lst ((wd rows).map yW)),.fz (.lst ((wF rows).map jr)),.fz (.lst ((wF rows).map fun ij=>wtO rows ij d)),.fz (.lst (((wF rows).filter fun ij=>decide (0≤cr (xH rows ij.1) d∧0≤cr d (xH rows ij.2))).map fun ij=>wsT (kR rows (ij,d))))]) ?_ (fun N hN=>⟨by rw[xkr];exact sqz (by omega),yH (fun ij=>decide (0≤cr (xH rows ij.1) d∧0≤cr d (xH rows ij.2))) (fun ij=>wsT (kR rows (ij,d))) (fun ij hij N M h1 h0=>?_) (hN _ rfl)⟩)
 rotate_left
 ·by_cases c:0≤cr (xH rows ij.1) d∧0≤cr d (xH rows ij.2)
  ·rw[xaD c]
   exact h1 (xln c)
  ·rw[xdI c]
   exact h0 (xlm c)
 rintro _ rfl
 cases e:(wF rows).filter fun ij=>decide (0≤cr (xH rows ij.1) d∧0≤cr d (xH rows ij.2)) with
 | nil =>
  cases e2:wd rows with
  | nil=>exact absurd e2 ne
  | cons w ws =>
   obtain⟨v,hv,ij,hij,c⟩:=xhc hf FR (w:=w) (by rw[e2];exact xkG) nz
   have:ij∈(wF rows).filter fun ij=>decide (0≤cr (xH rows ij.1) d∧0≤cr d (xH rows ij.2)):=xkH.mpr ⟨List.mem_flatMap.mpr ⟨v,hv,hij⟩,xln c⟩
   rw[e] at this
   exact absurd this (by simp)
 | cons y ys =>
  have hy:y∈(wF rows).filter fun ij=>decide (0≤cr (xH rows ij.1) d∧0≤cr d (xH rows ij.2)):=by rw[e];exact xkG
  obtain⟨hy,c⟩:=xkH.mp hy
  have c:=xlr c
  obtain⟨⟨i1,i2,pos⟩,v,hv,hm⟩:=gD hy
  have G:uq rows (y,d):=⟨i1,i2,pos,c,nz,bx⟩
  exact⟨rows,kR rows (y,d),rfl,sY.ws hf (G.gw hf),G.cut hf,k v (y,d) hv hm G rfl⟩
theorem vL (B:Blt mg bn)(F:Fun K "cut_towards" "cut_towards" y_ f fd)(m:mg "cut_towards" = some (.ref f))(b:Binds K fd ["field", "a", "b"] []){a_Nothing:Addr}(O_Nothing:PyProof.Rows.OwnCls "Nothing" a_Nothing xiO "ValueError.__new__" mg base)(vB:Own P w K mg base 9 "corners" ["field"] (spT 1 false true tN)) :
  xd0 P w K mg base 10 "cut_towards" ["field", "a", "b"] (spX 3 a_Nothing xb8):=by
 refine xaF F yT m b rfl (fun _ _ _ _ _ _ hr=>⟨_,
  (xc (yC 3 yT.nd (xo vB hr (yZ (pv 0))))
  (xc (yE (zH (xd3 K (pv 3))) (xh (xcy O_Nothing PySem.F.excBase_ValueError (yZ xgE))) j6) j6)),fun BB hE=>⟨_,
  (xgz (fr:=false) (xM (xy (xZ xa)))
  (xgl (xhH (yO (xaV xa)) (xdn hE (xZ (xad (t:=Tr.str _)))) xcg))),fun ts hl h=>?_⟩⟩)
 obtain⟨rows,a,b',rfl,hf,FR,e⟩:=h
 refine⟨rows,rfl,hf,FR,?_⟩
 rw[e]
 exact trivial
end
end K11
namespace K11
open PySem L2 Trn
section
variable {P:Program} {w:World} {K:PySem.W.Frag} {mg:Str→Option Value} {base:Heap} {f:Addr} {fd:FuncData}
theorem rZ (B:Blt mg bn)(F:Fun K "_law_field" "_law_field" ud f fd)(m:mg "_law_field" = some (.ref f))(b:Binds K fd ["_law_state_here"] [])(xT:Own P w K mg base 1 "_law_take" ["_law_state_here", "_law_many"] (spT 1 true false xcA)) :
  Own P w K mg base 2 "_law_field" ["_law_state_here"] (spT 0 true false xa7):=by
 refine xbu F xW m b rfl (fun _ _ _ _ _ _ hr=>⟨_,_,
  (xc (yC 1 xW.nd (xo xT hr (xU (pv 0) xg)))
  (xc (yC 2 xW.nd (zb uV))
  (xc (yE (xO (qG K hr.units) (pv 1) xg (xR _)) (xc (zY PassesOwn.never rfl (yN K (zb (xQ (yb (xU (vo zO xg) xg)) (xQ (yb (xU xg xg)) (xU (yb (xU xg (vo zO xg))) (yb (xU xg xg))))))) (yt K (n:=2) rfl (xu (yG 3 xW.nd) (xu (yG 4 xW.nd) yo))) (xc (yC 5 xW.nd (xG wa xg (xo xT hr (xU (pv 0) xg))))
  (xh (vj (aZ PySem.F.plainAttrs_list PySem.F.slot_list_append PySem.F.type_list_append uc (pv 2) (yZ (yb (xQ (xG xK (pv 3) (pv 5)) (xU (xG xK (pv 4) (pv 5)) (xG wa (xG xK (pv 5) (xo xT hr (xU (pv 0) xg))) (xo xT hr (xU (pv 0) (pv 5)))))))))))))
  (xc (zY PassesOwn.never rfl (uH rfl (B.get "range") (yZ (xo xT hr (xU (pv 0) xg)))) (yG 6 xW.nd) (xc (mX (i:=3) (j:=4) rfl xW.nd rfl rfl (by decide) rfl rfl (xU (xG zF (xo xT hr (xU (pv 0) xg)) xg) (xG zF (xo xT hr (xU (pv 0) xg)) xg)) (by rfl))
  (xc (yE (PW.pt (jy (xO (zI hr.units) (pv 3) xg (xR _)) (v5 (xO (zI hr.units) (pv 4) xg (xR _))))) (xh (yC 3 xW.nd xg)) xV)
  (xc (yC 7 xW.nd (xG wa (xG xK (pv 3) (xG zF (xo xT hr (xU (pv 0) xg)) xg)) (xG xK (pv 4) (xG zF (xo xT hr (xU (pv 0) xg)) xg))))
  (xh (vj (aZ PySem.F.plainAttrs_list PySem.F.slot_list_append PySem.F.type_list_append uc (pv 2) (yZ (yb (xQ (pv 3) (xU (pv 4) (xG zF (xG wa (pv 7) (xo xT hr (xU (pv 0) xg))) xg))))))))))))
  (xh (yE (xO (zI hr.units) (xo xT hr (xU (pv 0) xg)) xg (xR _)) (xh (vj (aZ PySem.F.plainAttrs_list PySem.F.slot_list_append PySem.F.type_list_append uc (pv 2) (yZ (yb (xQ (xG zF xg (zV (yJ K) (zV (yJ K) (pv 2) (vo zO xg) (fun _ _=>rfl)) xg (fun _ _=>rfl))) (xU (xG zF xg (zV (yJ K) (zV (yJ K) (pv 2) (vo zO xg) (fun _ _=>rfl)) xg (fun _ _=>rfl))) (xG zF xg (zV (yJ K) (zV (yJ K) (pv 2) (vo zO xg) (fun _ _=>rfl)) xg (fun _ _=>rfl)))))))))) xV)))) xV)
  (xc (yE (xO (zI hr.units) (pv 1) xg (xR _)) (xc (yC 8 xW.nd (xG wa xg (xo xT hr (xU (pv 0) xg))))
  (xh (yC 2 xW.nd (zb (xQ (yb (xQ (vo zO xg) (xU xg xg))) (xU (yb (xQ xg (xU (xG xK (vo zO xg) (pv 8)) xg))) (yb (xQ xg (xU (xG xK xg (pv 8)) (xG xK xg (pv 8))))))))))) xV)
  (xc (yE (xO (zI hr.units) (pv 1) xg (xR _)) (xc (yC 9 xW.nd (zV (yJ K) (zb (xU (zb (xQ (yb (xU (vo zO xg) xg)) (xU (yb (xU xg (vo zO xg))) (yb (xU xg xg))))) (zb (xQ (yb (xU (vo zO xg) (vo zO xg))) (xU (yb (xU xg (vo zO xg))) (yb (xU xg xg))))))) (xo xT hr (xU (pv 0) xg)) (fun _ _=>rfl)))
  (xh (wQ (i:=2) xW.nd rfl (Or.inl rfl) (yf (N:=["_law_a", "_law_b", "_law_state_here"]) (tau:=[none,none,some 0]) (XN:=["_law_state_here", "_law_way", "_law_rows", "_law_a", "_law_b", "_law_by", "_law_turn", "_law_near", "_law_k", "_law_some", "_law_u", "_law_v"]) (xs:=xf ud) (by decide +kernel) rfl rfl) rfl (ui (yK rfl (yK rfl qK))) (yN K (pv 9)) (fun _ _ _ _=>(yt K (n:=2) rfl (xu (xY (i:=0) (show(["_law_a", "_law_b", "_law_state_here"]:List Str).Nodup by decide +kernel) rfl (Or.inl rfl)) (xu (xY (i:=1) (show(["_law_a", "_law_b", "_law_state_here"]:List Str).Nodup by decide +kernel) rfl (Or.inl rfl)) yo)))) (fun _ _ _ _=>wL) (fun _ _ _ _=>(yb (xQ (pv 0) (xU (pv 1) (xo xT hr (xU (pv 2) xg))))))))) xV)
  (xc (wH (yb (xU (xG zF (xo xT hr (xU (pv 0) xg)) xg) (xG zF (xo xT hr (xU (pv 0) xg)) xg))) (yt K (n:=2) rfl (xu (xY (i:=10) xW.nd rfl (Or.inr rfl)) (xu (xY (i:=11) xW.nd rfl (Or.inr rfl)) yo))))
  (xc (wQ (i:=2) xW.nd rfl (Or.inl rfl) (yf (N:=["_law_a", "_law_b", "_law_c", "_law_v", "_law_u"]) (tau:=[none,none,none,some 11,some 10]) (XN:=["_law_state_here", "_law_way", "_law_rows", "_law_a", "_law_b", "_law_by", "_law_turn", "_law_near", "_law_k", "_law_some", "_law_u", "_law_v"]) (xs:=xf ud) (by decide +kernel) rfl rfl) rfl (ui (yK rfl (yK rfl (yK rfl qK)))) (yN K (pv 2)) (fun _ _ _ _=>(yt K (n:=3) rfl (xu (xY (i:=0) (show(["_law_a", "_law_b", "_law_c", "_law_v", "_law_u"]:List Str).Nodup by decide +kernel) rfl (Or.inl rfl)) (xu (xY (i:=1) (show(["_law_a", "_law_b", "_law_c", "_law_v", "_law_u"]:List Str).Nodup by decide +kernel) rfl (Or.inl rfl)) (xu (xY (i:=2) (show(["_law_a", "_law_b", "_law_c", "_law_v", "_law_u"]:List Str).Nodup by decide +kernel) rfl (Or.inl rfl)) yo))))) (fun _ _ _ _=>wL) (fun _ _ _ _=>(yb (xQ (pv 0) (xU (pv 1) (xG wa (xG wa (pv 2) (xG xK (pv 0) (pv 4))) (xG xK (pv 1) (pv 3))))))))
  (xc (yC 6 xW.nd (xo xT hr (xU (pv 0) (xF (yB K) rfl (B.get "len") ug (yZ (pv 2))))))
  (xh (xE (kE (uK K) rfl (B.get "tuple") wC (yZ (xG aj (u_ (fe K) (pv 2) (qS (pv 6)) qY) (u_ (fe K) (pv 2) qY (qS (pv 6)))))))))))))))),
  (xj (xM (yS (xZ xr)))
  (xj (zC (kj um))
  (xj (yg (xD (xi qw xa xr)) (xj (yU (yx (uR (b:=true) (xJ (yc (b:=true) (xx (zN xr) xr)) (xJ (yc (b:=true) (xx xr xr)) (xx (yc (b:=true) (xx xr (zN xr))) (yc (b:=true) (xx xr xr))))))) (yw (xl xk (xl xk ye))).g (xj (xM (xi uW xr (yS (xZ xr))))
  (qx (yc (b:=true) (xJ (xi x8 xa xa) (xx (xi x8 xa xa) (xi uW (xi x8 xa (yS (xZ xr))) (yS (xZ xa)))))))))
  (xj (yU (wK (xZ (yS (xZ xr)))) xk.g (xj (f_ (xx (xi zM (yS (xZ xr)) xr) (xi zM (yS (xZ xr)) xr)))
  (xj (yg (v_ (xD (xi os_eq xa xr)) (xD (xi os_eq xa xr))) (xM xr) xN)
  (xj (xM (xi uW (xi x8 xa (xi zM (yS (xZ xr)) xr)) (xi x8 xa (xi zM (yS (xZ xr)) xr))))
  (qx (yc (b:=true) (xJ xa (xx xa (xi zM (xi uW xa (yS (xZ xr))) xr)))))))))
  (yg (xD (xi os_eq (yS (xZ xr)) xr)) (qx (yc (b:=true) (xJ (xi zM xr (vR (oX (zN xr)) xr)) (xx (xi zM xr (vR (oX (zN xr)) xr)) (xi zM xr (vR (oX (zN xr)) xr)))))) xN))) xN)
  (xj (yg (xD (xi os_eq xa xr)) (xj (xM (xi uW xr (yS (xZ xr))))
  (zC (kj (xJ (yc (b:=true) (xJ (zN xr) (xx xr xr))) (xx (yc (b:=true) (xJ xr (xx (xi x8 (zN xr) xa) xr))) (yc (b:=true) (xJ xr (xx (xi x8 xr xa) (xi x8 xr xa))))))))) xN)
  (xj (yg (xD (xi os_eq xa xr)) (xj (xM (vR (uR (b:=true) (xx (uR (b:=true) (xJ (yc (b:=true) (xx (zN xr) xr)) (xx (yc (b:=true) (xx xr (zN xr))) (yc (b:=true) (xx xr xr))))) (uR (b:=true) (xJ (yc (b:=true) (xx (zN xr) (zN xr))) (xx (yc (b:=true) (xx xr (zN xr))) (yc (b:=true) (xx xr xr))))))) (yS (xZ xr))))
  (zC (yu (yx xa).c (yw (xl xk (xl xk ye))) zE (yc (b:=true) (xJ xa (xx xa (yS (xZ xr)))))))) xN)
  (xj (zK (yc (b:=true) (xx (xi zM (yS (xZ xr)) xr) (xi zM (yS (xZ xr)) xr))) (yw (xl xk (xl xk ye))).g)
  (xj (zC (yu fH (yw (xl xk (xl xk (xl xk ye)))) zE (yc (b:=true) (xJ xa (xx xa (xi uW (xi uW xa (xi x8 xa xa)) (xi x8 xa xa)))))))
  (xj (xM (yS (xZ (yM uD (xZ fC)))))
  (xB (tI (xZ (OkF.e (c9 (OkF.e (xbv (ve xa) va)) (OkF.e (xbv va (ve xa)))))))))))))))),fun ts KK hl h=>?_⟩)
 obtain⟨rfl,k⟩:=h
 refine⟨tk (by decide),fun w w0 w6=>?_⟩
 dsimp only
 refine x_ (fun τ=>τ=[.st,.fz (.int w),.ow [],.un,.un,.un,.un,.un,.un,.un,.un,.un]) ?_ (fun N hN=>hN _ rfl)
 rintro _ rfl
 refine x_ (fun τ=>∃(rows:List Pol.R3) (x:TV9),τ=[.st,.fz (.int w),.ow (rows.map trR),x.1,x.2.1,x.2.2.1,x.2.2.2.1,x.2.2.2.2.1,x.2.2.2.2.2.1,x.2.2.2.2.2.2.1,x.2.2.2.2.2.2.2.1,x.2.2.2.2.2.2.2.2]∧(w<4→LF0 rows)) ?_ ?_
 rotate_left
 ·intro N hN
  refine xS (b:=decide (w<4)) (fun c=>?_) (fun c=>hN _ ⟨[],⟨_,_,_,_,_,_,_,_,_⟩,rfl,fun z=>absurd z (xlq c)⟩)
  refine x_ (fun τ=>∃(rows:List Pol.R3) (x:TV9),τ=[.st,.fz (.int w),.ow (rows.map trR),x.1,x.2.1,x.2.2.1,x.2.2.2.1,x.2.2.2.2.1,x.2.2.2.2.2.1,x.2.2.2.2.2.2.1,x.2.2.2.2.2.2.2.1,x.2.2.2.2.2.2.2.2]∧kg rows) ?_ ?_
  rotate_left
  ·intro N hN
   refine vX (xaI.map dT) (fun i τ=>∃(rows:List Pol.R3) (x:TV9),τ=[.st,.fz (.int w),.ow (rows.map trR),x.1,x.2.1,x.2.2.1,x.2.2.2.1,x.2.2.2.2.1,x.2.2.2.2.2.1,x.2.2.2.2.2.2.1,x.2.2.2.2.2.2.2.1,x.2.2.2.2.2.2.2.2]∧lK i rows) (fun KK h=>h) ⟨[],⟨_,_,_,_,_,_,_,_,_⟩,rfl,rfl,fun j r d h=>by simp at h⟩ ?_ ?_
   ·rintro i it τ N2 hx ⟨rows,x,rfl,hu⟩ hN2
    obtain⟨d,hd,rfl⟩:=wM hx
    have ds:=pJ hd
    have hi:=(xkg.mp hd).1
    have hi:i<4:=hi
    refine⟨rfl,tk (by decide),fun r a1 a2=>⟨w4 (by omega) (by omega),w4 (by omega) (by omega),tk (by decide),fun s a3 a4=>⟨w4 (by omega) (by omega),tk (by omega),fun q a5 a6=>⟨by rw[xkr,hu.1];exact sqz (by omega),?_⟩⟩⟩⟩
    have x1:=Pol.pz (show 0≤1+r by omega) a3
    have x2:(1+r)*s≤(1+r)*4:=xjG (by omega) (by omega)
    have st:=hu.step hd (b:=1+r) (c:=(1+r)*s+q) (by omega)
    have e:rows.map trR++[Tr.tup [.int (d.1*(1+r)),.int (d.2*(1+r)),.int ((1+r)*s+q)]]=(rows++[(d.1*(1+r),d.2*(1+r),(1+r)*s+q)]).map trR:=by rw[xky];rfl
    show N2 [.st,.fz (.int w),.ow (rows.map trR++[Tr.tup [.int (d.1*(1+r)),.int (d.2*(1+r)),.int ((1+r)*s+q)]]),_,_,_,_,_,_,_,_,_]
    rw[e]
    exact hN2 _ ⟨_,⟨_,_,_,_,_,_,_,_,_⟩,rfl,st⟩
   ·rintro τ ⟨rows,x,rfl,hu⟩
    exact hN _ ⟨rows,⟨_,_,_,_,_,_,_,_,_⟩,rfl,hu.box⟩
  rintro _ ⟨four,x,rfl,hB⟩
  have fl:=hB.len
  refine x_ (fun τ=>∃(ex:List Pol.R3) (x:TV9),τ=[.st,.fz (.int w),.ow ((four++ex).map trR),x.1,x.2.1,x.2.2.1,x.2.2.2.1,x.2.2.2.2.1,x.2.2.2.2.2.1,x.2.2.2.2.2.2.1,x.2.2.2.2.2.2.2.1,x.2.2.2.2.2.2.2.2]∧ex.length≤3∧∀r∈ex,Extra r) ?_ ?_
  rotate_left
  ·intro N hN
   refine⟨tk (by decide),fun n n0 n4=>⟨⟨by omega,by omega⟩,?_⟩⟩
   refine zD (fun i τ=>∃(ex:List Pol.R3) (x:TV9),τ=[.st,.fz (.int w),.ow ((four++ex).map trR),x.1,x.2.1,x.2.2.1,x.2.2.2.1,x.2.2.2.2.1,x.2.2.2.2.2.1,x.2.2.2.2.2.2.1,x.2.2.2.2.2.2.2.1,x.2.2.2.2.2.2.2.2]∧ex.length=i∧∀r∈ex,Extra r) ⟨[],⟨_,_,_,_,_,_,_,_,_⟩,by rw[xjZ],rfl,fun r hr=>by simp at hr⟩ ?_ ?_
   ·rintro i it τ N2 hx ⟨ex,x,rfl,hl,he⟩ hN2
    have hi:i<n.toNat:=by have:=(xkg.mp hx).1;rw[wm] at this;exact this
    show xfN _ _ _ ([.st,.fz (.int w),.ow ((four++ex).map trR),x.1,x.2.1,x.2.2.1,.fz it,x.2.2.2.2.1,x.2.2.2.2.2.1,x.2.2.2.2.2.2.1,x.2.2.2.2.2.2.2.1,x.2.2.2.2.2.2.2.2]:TSt)
    refine x_ (fun τ=>∃a b:Int,τ=[.st,.fz (.int w),.ow ((four++ex).map trR),.fz (.int a),.fz (.int b),x.2.2.1,.fz it,x.2.2.2.2.1,x.2.2.2.2.2.1,x.2.2.2.2.2.2.1,x.2.2.2.2.2.2.2.1,x.2.2.2.2.2.2.2.2]∧((-6≤a∧a≤6)∧(-6≤b∧b≤6))) ?_ (fun N3 hN3=>⟨tk (by decide),fun a a0 a1=>⟨tk (by decide),fun b b0 b1=>hN3 _ ⟨a-6,b-6,rfl,by omega⟩⟩⟩)
    rintro _ ⟨a,b,rfl,hab⟩
    refine x_ (fun τ=>∃a b:Int,τ=[.st,.fz (.int w),.ow ((four++ex).map trR),.fz (.int a),.fz (.int b),x.2.2.1,.fz it,x.2.2.2.2.1,x.2.2.2.2.2.1,x.2.2.2.2.2.2.1,x.2.2.2.2.2.2.2.1,x.2.2.2.2.2.2.2.2]∧((-6≤a∧a≤6)∧(-6≤b∧b≤6))∧(a≠0∨b≠0)) ?_ ?_
    rotate_left
    ·intro N3 hN3
     refine xS (b:=decide (a=0)) (fun c=>?_) (fun c=>?_)
     ·refine xS (b:=decide (b=0)) (fun d=>?_) (fun d=>?_)
      ·exact hN3 _ ⟨2,b,rfl,by omega,.inl (by decide)⟩
      ·exact hN3 _ ⟨a,b,rfl,by omega,.inr (xlq d)⟩
     ·exact bc (hN3 _ ⟨a,b,rfl,by omega,.inl (xlq c)⟩)
    rintro _ ⟨a,b,rfl,hab,hne⟩
    refine⟨tk (by decide),fun s s0 s5=>⟨w4 (by omega) (by omega),tk (by decide),fun q q0 q5=>⟨w4 (by omega) (by omega),tk (by decide),fun t t0 t9=>⟨by rw[xkr,xkm];exact sqz (by omega),?_⟩⟩⟩⟩
    have m1:=o8 hab.1.1 hab.1.2 (show -2≤s-2 by omega) (show s-2≤2 by omega) (by decide) (by decide)
    have m2:=o8 hab.2.1 hab.2.2 (show -2≤q-2 by omega) (show q-2≤2 by omega) (by decide) (by decide)
    have e:(four++ex).map trR++[Tr.tup [.int a,.int b,.int (a*(s-2)+b*(q-2)+t-1)]]=(four++(ex++[(a,b,a*(s-2)+b*(q-2)+t-1)])).map trR:=by
     rw[←xjY,o7];rfl
    show N2 [.st,.fz (.int w),.ow ((four++ex).map trR++[Tr.tup [.int a,.int b,.int (a*(s-2)+b*(q-2)+t-1)]]),_,_,_,_,_,_,_,_,_]
    rw[e]
    refine hN2 _ ⟨ex++[(a,b,a*(s-2)+b*(q-2)+t-1)],⟨.fz (.int a),.fz (.int b),x.2.2.1,.fz it,.fz (.int (a*(s-2)+b*(q-2))),x.2.2.2.2.2.1,x.2.2.2.2.2.2.1,x.2.2.2.2.2.2.2.1,x.2.2.2.2.2.2.2.2⟩,rfl,by simp[hl],fun r hr=>?_⟩
    rcases xkB.mp hr with h | h
    ·exact he r h
    ·rw[xkP.mp h]
     unfold Extra
     simp only
     omega
   ·rintro τ ⟨ex,x,rfl,hl,he⟩
    rw[wm] at hl
    exact hN _ ⟨ex,⟨_,_,_,_,_,_,_,_,_⟩,rfl,by omega,he⟩
  rintro _ ⟨ex,x,rfl,hl,he⟩
  refine⟨tk (by decide),fun e e0 e8=>?_⟩
  refine xS (b:=decide (e=0)) (fun c=>?_) (fun c=>?_)
  ·obtain⟨ini,l,el,hx⟩:=hB.last he
   have la:atT ((four++ex).map trR) (-1)=some (trR l):=by rw[el,xky];exact tQ _ _
   show tU (atT ((four++ex).map trR) (-1)) _
   rw[la]
   show tU (atT ((four++ex).map trR) (-1)) _
   rw[la]
   show tU (atT ((four++ex).map trR) (-1)) _
   rw[la]
   have e:(four++ex).map trR++[Tr.tup [.int (0-l.1),.int (0-l.2.1),.int (0-l.2.2)]]=(four++(ex++[(0-l.1,0-l.2.1,0-l.2.2)])).map trR:=by
    rw[←xjY,o7];rfl
   refine⟨by rw[xkr,xkm];exact sqz (by omega),?_⟩
   show N [.st,.fz (.int w),.ow ((four++ex).map trR++[Tr.tup [.int (0-l.1),.int (0-l.2.1),.int (0-l.2.2)]]),_,_,_,_,_,_,_,_,_]
   rw[e]
   refine hN _ ⟨_,⟨_,_,_,_,_,_,_,_,_⟩,rfl,fun _=>hB.lf (fun r hr=>?_) (by simp;omega)⟩
   rcases xkB.mp hr with h | h
   ·exact he r h
   ·rw[xkP.mp h];exact hx
  ·exact hN _ ⟨_,⟨_,_,_,_,_,_,_,_,_⟩,rfl,fun _=>hB.lf he (by omega)⟩
 rintro _ ⟨rows,x,rfl,h4⟩
 refine x_ (fun τ=>∃(rows:List Pol.R3) (x:TV9),τ=[.st,.fz (.int w),.ow (rows.map trR),x.1,x.2.1,x.2.2.1,x.2.2.2.1,x.2.2.2.2.1,x.2.2.2.2.2.1,x.2.2.2.2.2.2.1,x.2.2.2.2.2.2.2.1,x.2.2.2.2.2.2.2.2]∧(w<5→LF0 rows)) ?_ ?_
 rotate_left
 ·intro N hN
  refine xS (b:=decide (w=4)) (fun c=>?_) (fun c=>hN _ ⟨_,⟨_,_,_,_,_,_,_,_,_⟩,rfl,fun z=>h4 (by have:=xlq c;omega)⟩)
  refine⟨tk (by decide),fun r a1 a2=>⟨w4 (by omega) (by omega),w4 (by omega) (by omega),w4 (by omega) (by omega),?_⟩⟩
  exact hN _ ⟨[(-1,0,0),(1,-2*(1+r),0),(1,2*(1+r),2*(1+r))],⟨x.1,x.2.1,x.2.2.1,x.2.2.2.1,x.2.2.2.2.1,.fz (.int (1+r)),x.2.2.2.2.2.2.1,x.2.2.2.2.2.2.2.1,x.2.2.2.2.2.2.2.2⟩,rfl,fun _=>xcX (by omega) (by omega)⟩
 rintro _ ⟨rows,x,rfl,h5⟩
 refine x_ (fun τ=>∃(rows:List Pol.R3) (x:TV9),τ=[.st,.fz (.int w),.ow (rows.map trR),x.1,x.2.1,x.2.2.1,x.2.2.2.1,x.2.2.2.2.1,x.2.2.2.2.2.1,x.2.2.2.2.2.2.1,x.2.2.2.2.2.2.2.1,x.2.2.2.2.2.2.2.2]∧LF0 rows) ?_ ?_
 rotate_left
 ·intro N hN
  refine xS (b:=decide (w=5)) (fun c=>?_) (fun c=>hN _ ⟨_,⟨_,_,_,_,_,_,_,_,_⟩,rfl,h5 (by have:=xlq c;omega)⟩)
  refine⟨tk (by decide),fun e e0 e2=>?_⟩
  obtain rfl | rfl:e=0∨e=1:=by omega
  ·refine⟨sqz (show(3:Nat)≤1000000 by decide),mM (f:=dT) (l:=[(-2,1),(1,-3),(2,3)]) Drawn (fun d _ N2 h2=>?_) (fun ys hy=>?_)⟩
   ·exact⟨rfl,tk (by decide),fun c c0 c8=>h2 _ ⟨c,⟨c0,c8⟩,rfl⟩⟩
   ·obtain⟨d1,d2,d3,g,rfl⟩:=xdw hy
    exact hN _ ⟨[(-2,1,d1),(1,-3,d2),(2,3,d3)],⟨x.1,x.2.1,x.2.2.1,x.2.2.2.1,x.2.2.2.2.1,x.2.2.2.2.2.1,.fz (.lst (([(-2,1),(1,-3),(2,3)]:List (Int×Int)).map dT)),x.2.2.2.2.2.2.2.1,x.2.2.2.2.2.2.2.2⟩,rfl,xfc g.1 g.2.1 g.2.2⟩
  ·refine⟨sqz (show(3:Nat)≤1000000 by decide),mM (f:=dT) (l:=[(-3,-2),(3,-1),(1,4)]) Drawn (fun d _ N2 h2=>?_) (fun ys hy=>?_)⟩
   ·exact⟨rfl,tk (by decide),fun c c0 c8=>h2 _ ⟨c,⟨c0,c8⟩,rfl⟩⟩
   ·obtain⟨d1,d2,d3,g,rfl⟩:=xdw hy
    exact hN _ ⟨[(-3,-2,d1),(3,-1,d2),(1,4,d3)],⟨x.1,x.2.1,x.2.2.1,x.2.2.2.1,x.2.2.2.2.1,x.2.2.2.2.2.1,.fz (.lst (([(-3,-2),(3,-1),(1,4)]:List (Int×Int)).map dT)),x.2.2.2.2.2.2.2.1,x.2.2.2.2.2.2.2.2⟩,rfl,xer g.1 g.2.1 g.2.2⟩
 rintro _ ⟨rows,x,rfl,hF⟩
 have l3:=hF.l3
 have l8:=hF.l8
 refine⟨tk (by decide),fun u u0 u7=>⟨tk (by decide),fun v v0 v7=>⟨rfl,?_⟩⟩⟩
 refine⟨by rw[xkr];exact sqz (by omega),nt (f:=trR) (fun r=>trR (aH (u-3) (v-3) r)) (fun r hr N hN=>?_) ?_⟩
 ·have:=hF.sm r hr
  exact⟨rfl,w4 (by omega) (by omega),w4 (by omega) (by omega),hN⟩
 have hM:=hF.moved (u:=u-3) (v:=v-3) (by omega) (by omega)
 have em:rows.map (fun r=>trR (aH (u-3) (v-3) r))=(rows.map (aH (u-3) (v-3))).map trR:=by rw[xkA];rfl
 rw[em]
 generalize rows.map (aH (u-3) (v-3))=mv at hM
 have m3:=hM.l3
 have m8:=hM.l8
 refine⟨tk (by rw[xkr];omega),fun t t0 t1=>?_⟩
 obtain⟨n,rfl⟩:∃n:Nat,t=(n:Int):=⟨t.toNat,by omega⟩
 show(dJ (mv.map trR) (some (n:Int)) none).length+(dJ (mv.map trR) none (some (n:Int))).length≤sizeLine∧KK (.tup (dJ (mv.map trR) (some (n:Int)) none++dJ (mv.map trR) none (some (n:Int))))
 rw[aK,pZ]
 refine⟨xfQ (by simp;omega),?_⟩
 have:=k _ (hM.rot n)
 rw[xky,List.map_drop,List.map_take] at this
 exact this
theorem dQ (B:Blt mg bn)(F:Fun K "_law_divisor" "_law_divisor" vv f fd)(m:mg "_law_divisor" = some (.ref f))(b:Binds K fd ["_law_one", "_law_other"] [])  :
  Own P w K mg base 1 "_law_divisor" ["_law_one", "_law_other"] (spT 2 false false xey):=by
 refine xA F kA m b rfl (fun _ _ _ _ _ _ hr=>⟨_,_,
  (xc (oE PassesOwn.never (xO (zX hr.units) (pv 1) xg (xR _)) (xh (mX (i:=0) (j:=1) rfl kA.nd rfl rfl (by decide) rfl rfl (xU (pv 1) (xG xaj (pv 0) (pv 1))) (by rfl))))
  (xh (xE (xF uw rfl (B.get "abs") jF (yZ (pv 0)))))),
  (xj (my (xD (xi vC xa xr)) (f_ (xx xa (xi xd5 xa xa))))
  (xB (yM jt (xZ xa)))),fun ts KK hl h=>?_⟩)
 obtain⟨a,c,rfl,k⟩:=h
 refine nO (fun n τ=>∃x y:Int,τ=[.fz (.int x),.fz (.int y)]∧n=y.natAbs∧Fra.gd x y=Fra.gd a c) c.natAbs ⟨_,_,rfl,rfl,rfl⟩ ?_
 rintro n τ N ⟨x,y,rfl,rfl,hg⟩ hN
 refine xS (b := !decide (y=0)) (fun c0=>?_) (fun c0=>?_)
 ·have c0:y≠0:=by simpa using c0
  exact⟨c0,hN (x.fmod y).natAbs _ (Fra.lC c0) ⟨_,_,rfl,rfl,by rw[Fra.xeI];exact hg⟩⟩
 ·have c0:y=0:=by simpa using c0
  subst c0
  rw[Fra.xe4] at hg
  have k:KK (.int (Fra.gd a c)):=k
  rw[←hg] at k
  exact k
theorem cf (B:Blt mg bn)(F:Fun K "_law_low" "_law_low" jX f fd)(m:mg "_law_low" = some (.ref f))(b:Binds K fd ["_law_top", "_law_bottom"] [])(ze:Own P w K mg base 1 "_law_divisor" ["_law_one", "_law_other"] (spT 2 false false xey)) :
  Own P w K mg base 2 "_law_low" ["_law_top", "_law_bottom"] (spT 2 false false lI):=by
 refine xA F jc m b rfl (fun _ _ _ _ _ _ hr=>⟨_,_,
  (xc (yC 2 jc.nd (xo ze hr (xU (pv 0) (pv 1))))
  (xc (yE (xO (qG K hr.units) (pv 1) xg (xR _)) (xh (yC 2 jc.nd (xG zF xg (pv 2)))) xV)
  (xh (xE (yb (xU (xG uj (pv 0) (pv 2)) (xG uj (pv 1) (pv 2)))))))),
  (xj (xM (xy (xx xa xa)))
  (xj (yg (xD (xi qw xa xr)) (xM (xi zM xr xa)) xN)
  (xB (yc (b:=true) (xx (xi qm xa xa) (xi qm xa xa)))))),fun ts KK hl h=>?_⟩)
 obtain⟨t,b,rfl,hb,bd,k⟩:=h
 refine⟨t,b,rfl,?_⟩
 have gp:=Fra.mz (a:=t) (b:=b) (.inr hb)
 have gb:Bd (Fra.gd t b):=xaf hb bd
 refine xS (b:=decide (b<0)) (fun c=>?_) (fun c=>?_)
 ·have c:=xlr c
  rw[xeH c] at k
  have gn:Bd (0-Fra.gd t b):=by unfold Bd at *;omega
  have e1:∀x:Int,x.fdiv (0-Fra.gd t b)=(-x) / Fra.gd t b:=fun x=>by
   have h:=Int.neg_fdiv_neg (-x) (Fra.gd t b)
   rw[Int.neg_neg] at h
   rw[show 0-Fra.gd t b = -(Fra.gd t b) by omega,h,zS (by omega)]
  have e2:Fra.low (-t) (-b)=((-t) / Fra.gd t b,(-b) / Fra.gd t b):=by
   unfold Fra.low
   rw[show Fra.gd (-t) (-b)=Fra.gd t b by unfold Fra.gd;simp]
  rw[e2,←e1,←e1] at k
  exact⟨⟨by show(0-Fra.gd t b)≠0;omega,gn⟩,⟨by show(0-Fra.gd t b)≠0;omega,gn⟩,k⟩
 ·have c:=xlq c
  rw[vm (by omega)] at k
  refine⟨⟨by show Fra.gd t b≠0;omega,gb⟩,⟨by show Fra.gd t b≠0;omega,gb⟩,?_⟩
  show KK (.tup [.int (t.fdiv (Fra.gd t b)),.int (b.fdiv (Fra.gd t b))])
  rw[zS (by omega),zS (by omega)]
  exact k
theorem gO (B:Blt mg bn)(F:Fun K "_law_crossing" "_law_crossing" uG f fd)(m:mg "_law_crossing" = some (.ref f))(b:Binds K fd ["_law_one", "_law_other"] [])(yr:Own P w K mg base 2 "_law_low" ["_law_top", "_law_bottom"] (spT 2 false false lI)) :
  Own P w K mg base 3 "_law_crossing" ["_law_one", "_law_other"] (spT 2 false false ar):=by
 refine xA F uo m b rfl (fun _ _ _ _ _ _ hr=>⟨_,_,
  (xc (yC 2 uo.nd (xG zF (xG xK (xm K 0) (xm K 1)) (xG xK (xm K 0) (xm K 1))))
  (xc (yE (xO (zI hr.units) (pv 2) xg (xR _)) (xh (xE ju)) xV)
  (xc (yC 3 uo.nd (xo yr hr (xU (xG zF (xG xK (xm K 0) (xm K 1)) (xG xK (xm K 0) (xm K 1))) (pv 2))))
  (xh (xE (yb (xU (pv 3) (xo yr hr (xU (xG zF (xG xK (xm K 0) (xm K 1)) (xG xK (xm K 0) (xm K 1))) (pv 2)))))))))),
  (xj (xM (xi zM (xi x8 xn xn) (xi x8 xn xn)))
  (xj (yg (xD (xi os_eq xa xr)) (xB (xad (t:=Tr.non))) xN)
  (xj (xM (xy (xx (xi zM (xi x8 xn xn) (xi x8 xn xn)) xa)))
  (xB (yc (b:=true) (xx xa (xy (xx (xi zM (xi x8 xn xn) (xi x8 xn xn)) xa)))))))),fun ts KK hl h=>?_⟩)
 obtain⟨s,t,rfl,hs,ht,k⟩:=h
 refine⟨⟨hs.1.1.bd,ht.1.2.bd⟩,⟨hs.1.2.bd,ht.1.1.bd⟩,?_⟩
 refine xS (b:=decide (Pol.turn s t=0)) (fun c=>?_) (fun c=>?_)
 ·rw[mJ (xlr c)] at k
  exact k
 ·have c:=xlq c
  have bt:Bd (Pol.turn s t):=((hs.1.1.mul ht.1.2).sub (hs.1.2.mul ht.1.1)).bd
  rw[sO c,cT c] at k
  exact⟨⟨hs.2.bd,ht.1.2.bd⟩,⟨hs.1.2.bd,ht.2.bd⟩,_,_,rfl,c,bt,⟨hs.1.1.bd,ht.2.bd⟩,⟨hs.2.bd,ht.1.1.bd⟩,_,_,rfl,c,bt,k⟩
theorem tF (B:Blt mg bn)(F:Fun K "_law_value" "_law_value" qB f fd)(m:mg "_law_value" = some (.ref f))(b:Binds K fd ["_law_row", "_law_place"] [])(yr:Own P w K mg base 2 "_law_low" ["_law_top", "_law_bottom"] (spT 2 false false lI)) :
  Own P w K mg base 3 "_law_value" ["_law_row", "_law_place"] (spT 2 false false xav):=by
 refine xA F qg m b rfl (fun _ _ _ _ _ _ hr=>⟨_,_,
  (xc (wH (pv 1) (yt K (n:=2) rfl (xu (yG 2 qg.nd) (xu (yG 3 qg.nd) yo))))
  (xh (xE (xo yr hr (xU (xG wa (xG xK (xG xK (xm K 0) (xm K 2)) (xm K 3)) (xG xK (xG xK (xm K 0) (xm K 3)) (xm K 2))) (xG xK (xm K 2) (xm K 3))))))),
  (xj (zK xa (yw (xl xk (xl xk ye))).g)
  (xB (xy (xx (xi uW (xi x8 (xi x8 xn xn) xn) (xi x8 (xi x8 xn xn) xn)) (xi x8 xn xn))))),fun ts KK hl h=>?_⟩)
 obtain⟨a,c,x,p,rfl,ha,hc,hx,hy,k⟩:=h
 exact⟨rfl,⟨ha.bd,hx.top.bd⟩,⟨(ha.mul hx.top).bd,hy.bot.bd⟩,⟨hc.bd,hy.top.bd⟩,⟨(hc.mul hy.top).bd,hx.bot.bd⟩,⟨hx.bot.bd,hy.bot.bd⟩,_,_,rfl,by have:=Pol.pp hx.pos hy.pos;omega,(hx.bot.mul hy.bot).bd,k⟩
theorem rO (B:Blt mg bn)(F:Fun K "_law_keeps" "_law_keeps" qO f fd)(m:mg "_law_keeps" = some (.ref f))(b:Binds K fd ["_law_row", "_law_place"] [])(wc:Own P w K mg base 3 "_law_value" ["_law_row", "_law_place"] (spT 2 false false xav)) :
  Own P w K mg base 4 "_law_keeps" ["_law_row", "_law_place"] (spT 2 false false xaB):=by
 refine xA F jG m b rfl (fun _ _ _ _ _ _ hr=>⟨_,_,
  (xc (yC 2 jG.nd (xo wc hr (xU (pv 0) (pv 1))))
  (xh (xE (zq aV (xm K 2) (xG xK (xm K 0) (xm K 2)) (xR _))))),
  (xj (xM (xy (xx xa xa)))
  (xB (xi aJ xn (xi x8 xn xn)))),fun ts KK hl h=>?_⟩)
 obtain⟨r,p,rfl,hr,hx,hy,k⟩:=h
 exact⟨r.1,r.2.1,[.int r.2.2],p,rfl,hr.1.1,hr.1.2,hx,hy,⟨hr.2.bd,(show Bd (qo r p).2 from xcE hx hy hr)⟩,k⟩
theorem md (B:Blt mg bn)(F:Fun K "_law_less" "_law_less" jo f fd)(m:mg "_law_less" = some (.ref f))(b:Binds K fd ["_law_one", "_law_other"] [])  :
  Own P w K mg base 1 "_law_less" ["_law_one", "_law_other"] (spT 2 false false xbR):=by
 refine xA F nG m b rfl (fun _ _ _ _ _ _ hr=>⟨_,_,
  (xh (xE (zq (qG K hr.units) (xG xK (xm K 0) (xm K 1)) (xG xK (xm K 1) (xm K 0)) (xR _)))),
  (xB (xi qw (xi x8 xn xn) (xi x8 xn xn))),fun ts KK hl h=>?_⟩)
 obtain⟨f,g,rfl,hf,hg,k⟩:=h
 exact⟨⟨hf.top.bd,hg.bot.bd⟩,⟨hg.top.bd,hf.bot.bd⟩,k⟩
theorem rS (B:Blt mg bn)(F:Fun K "_law_minus" "_law_minus" qE f fd)(m:mg "_law_minus" = some (.ref f))(b:Binds K fd ["_law_one", "_law_other"] [])(yr:Own P w K mg base 2 "_law_low" ["_law_top", "_law_bottom"] (spT 2 false false lI)) :
  Own P w K mg base 3 "_law_minus" ["_law_one", "_law_other"] (spT 2 false false xao):=by
 refine xA F td m b rfl (fun _ _ _ _ _ _ hr=>⟨_,_,
  (xh (xE (xo yr hr (xU (xG zF (xG xK (xm K 0) (xm K 1)) (xG xK (xm K 1) (xm K 0))) (xG xK (xm K 0) (xm K 1)))))),
  (xB (xy (xx (xi zM (xi x8 xn xn) (xi x8 xn xn)) (xi x8 xn xn)))),fun ts KK hl h=>?_⟩)
 obtain⟨f,g,rfl,hf,hg,k⟩:=h
 exact⟨⟨hf.top.bd,hg.bot.bd⟩,⟨hg.top.bd,hf.bot.bd⟩,⟨hf.bot.bd,hg.bot.bd⟩,_,_,rfl,by have:=Pol.pp hf.pos hg.pos;omega,(hf.bot.mul hg.bot).bd,k⟩
theorem rG (B:Blt mg bn)(F:Fun K "_law_cross" "_law_cross" qt f fd)(m:mg "_law_cross" = some (.ref f))(b:Binds K fd ["_law_one", "_law_other", "_law_third"] [])(zA:Own P w K mg base 3 "_law_times" ["_law_one", "_law_other"] (spT 2 false false bL))(zj:Own P w K mg base 3 "_law_minus" ["_law_one", "_law_other"] (spT 2 false false xao)) :
  Own P w K mg base 4 "_law_cross" ["_law_one", "_law_other", "_law_third"] (spT 3 false false xam):=by
 refine xA F jL m b rfl (fun _ _ _ _ _ _ hr=>⟨_,_,
  (xc (yC 3 jL.nd (xo zA hr (xU (xo zj hr (xU (xm K 1) (xm K 0))) (xo zj hr (xU (xm K 2) (xm K 0))))))
  (xh (xE (zV (yJ K) (xo zj hr (xU (pv 3) (xo zA hr (xU (xo zj hr (xU (xm K 1) (xm K 0))) (xo zj hr (xU (xm K 2) (xm K 0))))))) xg (fun _ _=>rfl))))),
  (xj (xM (xy (xx (xy (xx xn xn)) (xy (xx xn xn)))))
  (xB (vR (xy (xx xa (xy (xx (xy (xx xn xn)) (xy (xx xn xn)))))) xr))),fun ts KK hl h=>?_⟩)
 obtain⟨p,q,w,rfl,hp,hq,hw,k⟩:=h
 have m:∀ {f g:F2},Fk 200 f→Fk 200 g→Fk 401 (fmin f g):=fun h1 h2=>h1.min h2
 have t:∀ {f g:F2},Fk 401 f→Fk 401 g→Fk 900 (n_ f g):=fun h1 h2=>(h1.tim h2).mono (by decide)
 have u:∀ {k:Nat} {f:F2},Fk k f→k≤900→Fk 900 f:=fun h hk=>h.mono hk
 exact⟨q.1,p.1,rfl,u hq.1 (by decide),u hp.1 (by decide),w.2,p.2,rfl,u hw.2 (by decide),u hp.2 (by decide),_,_,rfl,u (m hq.1 hp.1) (by decide),u (m hw.2 hp.2) (by decide),
  q.2,p.2,rfl,u hq.2 (by decide),u hp.2 (by decide),w.1,p.1,rfl,u hw.1 (by decide),u hp.1 (by decide),_,_,rfl,u (m hq.2 hp.2) (by decide),u (m hw.1 hp.1) (by decide),
  _,_,rfl,t (m hq.1 hp.1) (m hw.2 hp.2),t (m hq.2 hp.2) (m hw.1 hp.1),k⟩
theorem nk (B:Blt mg bn)(F:Fun K "_law_ring" "_law_ring" wI f fd)(m:mg "_law_ring" = some (.ref f))(b:Binds K fd ["_law_places"] [])(zW:Own P w K mg base 1 "_law_less" ["_law_one", "_law_other"] (spT 2 false false xbR))(uE:Own P w K mg base 5 "_law_all_left" ["_law_here", "_law_place", "_law_some"] (spT 3 false false dE)) :
  Own P w K mg base 6 "_law_ring" ["_law_places"] (spT 1 false false xdU):=by
 refine xA F yQ m b rfl (fun _ _ _ _ _ _ hr=>⟨_,_,
  (xc (uf (i:=1) yQ.nd rfl (Or.inr rfl) (zb uV))
  (xc (zY PassesOwn.never rfl (yN K (pv 0)) (xY (i:=2) yQ.nd rfl (Or.inr rfl)) (xc (wQ (i:=3) yQ.nd rfl (Or.inl rfl) (yf (N:=["_law_one", "_law_place"]) (tau:=[none,some 2]) (XN:=["_law_places", "_law_some", "_law_place", "_law_ahead", "_law_found", "_law_k", "_law_here"]) (xs:=xf wI) (by decide +kernel) rfl rfl) rfl (zL rfl) (yN K (pv 1)) (fun _ _ _ _=>(xY (i:=0) (show(["_law_one", "_law_place"]:List Str).Nodup by decide +kernel) rfl (Or.inl rfl))) (fun _ _ _ _=>(uM (yX (xo zW hr (xU (xm K 0) (xm K 1)))))) (fun _ _ _ _=>(pv 0)))
  (xc (yC 3 yQ.nd (xG aj (pv 3) (zU (yf (N:=["_law_one", "_law_place"]) (tau:=[none,some 2]) (XN:=["_law_places", "_law_some", "_law_place", "_law_ahead", "_law_found", "_law_k", "_law_here"]) (xs:=xf wI) (by decide +kernel) rfl rfl) rfl (zL rfl) (yN K (pv 1)) (fun _ _ _ _=>(xY (i:=0) (show(["_law_one", "_law_place"]:List Str).Nodup by decide +kernel) rfl (Or.inl rfl))) (fun _ _ _ _=>(uM (PW.pt (jy (xO (zI hr.units) (xm K 0) (xm K 1) (xR _)) (v5 (yX (xo zW hr (xU (xm K 0) (xm K 1))))))))) (fun _ _ _ _=>(pv 0)))))
  (xh (yE (xO (cG hr.units) (pv 2) (pv 1) (by with_unfolding_all rfl)) (xh (vj (aZ PySem.F.plainAttrs_list PySem.F.slot_list_insert PySem.F.type_list_insert xbj (pv 1) (xU (xF (yB K) rfl (B.get "len") ug (yZ (pv 3))) (pv 2))))) xV)))))
  (xc (yE (xO (qG K hr.units) (xF (yB K) rfl (B.get "len") ug (yZ (pv 1))) xg (xR _)) (xh (xE (pv 1))) xV)
  (xc (uf (i:=4) yQ.nd rfl (Or.inr rfl) (u_ (oF K) (pv 1) qY (qS xg)))
  (xc (zY PassesOwn.never rfl (uH rfl (B.get "range") (yZ (xG zF (xF (yB K) rfl (B.get "len") ug (yZ (pv 1))) xg))) (yG 5 yQ.nd) (xc (uf (i:=6) yQ.nd rfl (Or.inr rfl) (zV (yJ K) (pv 4) (vo zO xg) (fun _ _=>rfl)))
  (xh (uf (i:=4) yQ.nd rfl (Or.inr rfl) (xG (xeG K) (pv 4) (u_ (oF K) (zU (yf (N:=["_law_place", "_law_found", "_law_here", "_law_some"]) (tau:=[none,some 4,some 6,some 1]) (XN:=["_law_places", "_law_some", "_law_place", "_law_ahead", "_law_found", "_law_k", "_law_here"]) (xs:=xf wI) (by decide +kernel) rfl rfl) rfl (zL rfl) (yN K (pv 1)) (fun _ _ _ _=>(xY (i:=0) (show(["_law_place", "_law_found", "_law_here", "_law_some"]:List Str).Nodup by decide +kernel) rfl (Or.inl rfl))) (fun _ _ _ _=>(uM (PW.pt (jy (xO (cG hr.units) (pv 0) (pv 1) (by with_unfolding_all rfl)) (v5 (yX (xo uE hr (xQ (pv 2) (xU (pv 0) (pv 3)))))))))) (fun _ _ _ _=>(pv 0))) qY (qS xg)))))))
  (xh (xE (pv 4)))))))),
  (xj (zC (kj um))
  (xj (yU (yx xa) xk.g (xj (xM (OkF.e (yu fH xk (yy (xy (xx xn xn))) xa)))
  (xj (xM (OkF.e (c9 xa (OkF.e (yu fH xk (v_ (xD (xi os_eq xn xn)) (yy (xy (xx xn xn)))) xa)))))
  (yg (xD (xi xfE xa fC)) (xeF (yM uD (xZ xa)) xa) xN))))
  (xj (yg (xD (xi qw (yM uD (xZ fC)) xr)) tw xN)
  (xj (xaK (i:=1) (xM (pO xa va (ve xr))))
  (xj (yU (wK (xZ (xi zM (yM uD (xZ xa)) xr))) xk.g (xj (xM (vR xa (zN xr)))
  (xM (xfl xa (pO (OkF.e (yu (yx xa).c xk (v_ (xD (xi xfE xa xa)) (yy (xy (xJ xa (xx xa xa))))) xa)) va (ve xr))))))
  (xB xa)))))),fun ts KK hl h=>?_⟩)
 obtain⟨ps,l,rfl,hm,hl',hr,k⟩:=h
 have inl:∀ {i v},v∈ps.take i→v∈l:=fun hv=>(hm _).mp (xkN hv)
 have pk:∀ {v},v∈l→Pk 190 (plc v):=fun {v} hv=>xbg (hr.pos v hv) (hr.sm v hv)
 refine zD (all:=ps.map yW) (fun i τ=>∃(ss:List Pol.R3) (x2 x3 x4 x5 x6:TV),τ=[.fz (.lst (ps.map yW)),.ow (ss.map yW),x2,x3,x4,x5,x6]∧fM ss (ps.take i)∧ss.length≤i)
  ⟨[],_,_,_,_,_,rfl,⟨List.nodup_nil,fun v=>by simp,fun h t e=>by cases e⟩,xk7 _⟩ ?_ ?_
 ·rintro i x τ N hx ⟨ss,x2,x3,x4,x5,x6,rfl,hs,hlen⟩ hN
  obtain⟨p,hp,rfl⟩:=wM hx
  have hpl:=(hm p).mp (xkM hp)
  have hi:=(xkg.mp hp).1
  have tk:ps.take (i+1)=ps.take i++[p]:=by rw[xk3,hp];rfl
  have sl:∀v∈ss,v∈l:=fun v hv=>inl ((hs.mem v).mp hv)
  have sp:∀v∈ss,0<v.2.2:=fun v hv=>hr.pos v (sl v hv)
  have z:∀n,n≤2000→n<sizeLine:=fun n hn=>sqz (by omega)
  have fk1:∀ {v},v∈l→Fk 1000 (plc v).1:=fun hv=>(pk hv).1.mono (by decide)
  have fk2:∀ {v},v∈l→Fk 1000 (plc v).2:=fun hv=>(pk hv).2.mono (by decide)
  refine⟨by rw[xkr];exact z _ (by omega),yH (f:=yW) (fun v=>uF (plc v).1 (plc p).1) yW (fun v hv N M h1 h0=>?_) ?_⟩
  ·exact⟨(plc v).1,(plc p).1,rfl,fk1 (sl v hv),fk1 hpl,xS h1 h0⟩
  refine⟨by rw[xkr];exact z _ (by omega),yH (f:=yW) (fun v=>decide ((plc v).1=(plc p).1)&&uF (plc v).2 (plc p).2) yW (fun v hv N M h1 h0=>?_) ?_⟩
  ·refine⟨⟨rfl,rfl,by show min 1 1≤64;decide⟩,?_⟩
   refine xS (b:=teq (fT (plc v).1) (fT (plc p).1)) (fun c=>?_) (fun c=>?_)
   ·rw[ni] at c
    refine⟨(plc v).2,(plc p).2,rfl,fk2 (sl v hv),fk2 hpl,?_⟩
    exact xS (fun d=>h1 (by rw[c,d];rfl)) (fun d=>h0 (by rw[c,d];rfl))
   ·rw[ni] at c
    exact bc (h0 (by rw[c];rfl))
  have f1:=xkq (fun v=>uF (plc v).1 (plc p).1) ss
  have f2:=xkq (fun v=>decide ((plc v).1=(plc p).1)&&uF (plc v).2 (plc p).2) ss
  refine⟨xfQ (by rw[xkr,xkr];omega),?_⟩
  refine⟨⟨rfl,fq ss,by show(2:Nat)≤60;decide⟩,?_⟩
  refine xS (b := !((ss.map yW).any fun u=>teq u (yW p))) (fun c=>?_) (fun c=>?_)
  ·rw[pQ hr.pos hr.prim sl hpl] at c
   have c:p∉ss:=by simpa using c
   refine⟨zo ss p,?_,?_,?_,?_⟩
   ·unfold zo
    rw[xkm,xkr,xkr]
   ·rw[xkr];exact xbh
   ·rw[xkr];exact z _ (by omega)
   ·have hh:=hs.ins sp (hr.pos p hpl) c
    rw[←tk] at hh
    have e:(ss.map yW).take (zo ss p)++[yW p]++(ss.map yW).drop (zo ss p)=(ss.take (zo ss p)++[p]++ss.drop (zo ss p)).map yW:=by
     rw[xky,xky,List.map_take,List.map_drop];rfl
    rw[e]
    refine hN _ ⟨_,_,_,_,_,_,rfl,hh,?_⟩
    rw[xkm,xkm,xkw,xko,xkv];omega
  ·rw[pQ hr.pos hr.prim sl hpl] at c
   have c:p∈ss:=by simpa using c
   have hh:=hs.stay c
   rw[←tk] at hh
   exact hN _ ⟨ss,_,_,_,_,_,rfl,hh,by omega⟩
 ·rintro τ ⟨ss,x2,x3,x4,x5,x6,rfl,hs,hlen⟩
  rw[xkr,xk2 (xk7 _)] at hs
  have hml:∀v,v∈ss↔v∈l:=fun v=>(hs.mem v).trans (hm v)
  have eqlen:=Pol.az hs.nd hr.ccw.nd hml
  refine xS (b:=decide (((ss.map yW).length:Int)<3)) (fun c=>?_) (fun c=>?_)
  ·have c:=xlr c
   rw[xkr] at c
   rw[←l7 hr hs.nd hml hs.least (by omega)] at k
   exact k
  ·have c:=xlq c
   rw[xkr] at c
   have hh:=nB hr hml hs.least
   have tk1:(ss.map yW).take 1=(l.take 1).map yW:=by
    rw[←List.map_take]
    congr 1
    cases ss with
    | nil=>simp at c
    | cons a t =>
     cases l with
     | nil=>simp at eqlen
     | cons b u=>simp at hh;rw[hh];rfl
   have z:∀n,n≤2000→n<sizeLine:=fun n hn=>sqz (by omega)
   have hln:=hr.len
   have sl:∀v∈ss,v∈l:=fun v hv=>(hml v).mp hv
   have pk2:∀ {v},v∈l→Pk 200 (plc v):=fun hv=>⟨(pk hv).1.mono (by decide),(pk hv).2.mono (by decide)⟩
   have rn:(((ss.map yW).length:Int)-1).toNat=l.length-1:=by rw[xkr];omega
   have main:xce (eName 5) (xfN (xht 6 (d2 fIx (bh 4) (d1 xif (dC (Tr.int 1)))))
             (xht 4
              (d2 xcS (bh 4)
               (dSl
                (xgR [none,some 4,some 6,some 1] (xiy (bh 1)) (eName 0)
                 (xil (xhe (d2 (fIn true) (bh 0) (bh 1)))
                  (xhe (xct dE (rg (bh 2) (rg (bh 0) (rg (bh 3) xfv))))))
                 (bh 0))
                bT (xfn (dC (Tr.int 1))))))) { nx:=xhm (bh 4) { nx:=fun x=>false=false∧KK Tr.non,rt:=KK },rt:=KK } (xfd 0 (l.length-1))
         [.fz (.lst (ps.map yW)),.fz (.lst (ss.map yW)),x2,x3,.fz (.lst ((l.take 1).map yW)),x5,x6]:=by
    refine zD (fun i τ=>∃(x5 x6:TV),τ=[.fz (.lst (ps.map yW)),.fz (.lst (ss.map yW)),x2,x3,.fz (.lst ((l.take (i+1)).map yW)),x5,x6]) ⟨_,_,rfl⟩ ?_ ?_
    ·rintro i x τ N hx ⟨x5,x6,rfl⟩ hN
     have hi:i<l.length-1:=by have:=(xkg.mp hx).1;rw[wm] at this;exact this
     have ha:l[i]? = some l[i]:=xke (by omega)
     have hb:l[i+1]? = some l[i+1]:=xke (by omega)
     generalize ea:l[i]=a at ha
     generalize eb:l[i+1]=b at hb
     have ham:=xkM ha
     have t1:l.take (i+1)=l.take i++[a]:=by rw[xk3,ha];rfl
     have t2:l.take (i+1+1)=l.take (i+1)++[b]:=by rw[xk3,hb];rfl
     have last:atT ((l.take (i+1)).map yW) (-1)=some (yW a):=by rw[t1,xky];exact tQ _ _
     show tU (atT ((l.take (i+1)).map yW) (-1)) _
     rw[last]
     refine⟨by rw[xkr];exact z _ (by omega),?_⟩
     refine yH (f:=yW) (fun v=>!decide (plc v∈(l.take (i+1)).map plc)&&(ss.map plc).all fun w=>!decide (gC (plc a) (plc v) w<0)) yW (fun v hv N M h1 h0=>?_) ?_
     ·refine⟨⟨rfl,fq _,by show(2:Nat)≤60;decide⟩,?_⟩
      refine xS (b := !(((l.take (i+1)).map yW).any fun u=>teq u (yW v))) (fun d=>?_) (fun d=>?_)
      ·rw[gX,km,xbG] at d
       refine⟨plc a,plc v,ss.map plc,by rw[←gX];rfl,pk2 ham,pk2 (sl v hv),fun w hw=>?_,by rw[xkr];omega,?_⟩
       ·obtain⟨y,hy,rfl⟩:=xkK.mp hw
        exact pk2 (sl y hy)
       ·exact xS (fun e=>h1 (by rw[d,e];rfl)) (fun e=>h0 (by rw[d,e];rfl))
      ·rw[gX,km,xbG] at d
       exact bc (h0 (by rw[d];rfl))
     ·rw[xb1 hr hs.nd hml ha hb]
      have e1:dJ (List.map yW [b]) none (some 1)=[yW b]:=pZ _ 1
      dsimp only[bT,xfn,dC]
      rw[e1]
      rw[t2] at hN
      refine⟨xfQ (by simp;omega),hN _ ⟨.fz x,.fz (yW a),?_⟩⟩
      rw[xky];rfl
    ·rintro τ ⟨x5,x6,rfl⟩
     rw[wm,show l.length-1+1=l.length by omega,xk2 (xk7 _)]
     exact k
   refine⟨⟨by have:=hr.len;simp;omega,by have:=hr.len;simp;omega⟩,?_⟩
   rw[rn]
   have e1:dJ (ss.map yW) none (some 1)=(l.take 1).map yW:=(pZ _ 1).trans tk1
   rw[←e1] at main
   exact main
theorem gM (B:Blt mg bn)(F:Fun K "_law_all_left" "_law_all_left" we f fd)(m:mg "_law_all_left" = some (.ref f))(b:Binds K fd ["_law_here", "_law_place", "_law_some"] [])(qH:Own P w K mg base 4 "_law_cross" ["_law_one", "_law_other", "_law_third"] (spT 3 false false xam)) :
  Own P w K mg base 5 "_law_all_left" ["_law_here", "_law_place", "_law_some"] (spT 3 false false dE):=by
 refine xA F gL m b rfl (fun _ _ _ _ _ _ hr=>⟨_,_,
  (xh (xE (zq (zI hr.units) (zU (yf (N:=["_law_one", "_law_here", "_law_place"]) (tau:=[none,some 0,some 1]) (XN:=["_law_here", "_law_place", "_law_some"]) (xs:=xf we) (by decide +kernel) rfl rfl) rfl (zL rfl) (yN K (pv 2)) (fun _ _ _ _=>(xY (i:=0) (show(["_law_one", "_law_here", "_law_place"]:List Str).Nodup by decide +kernel) rfl (Or.inl rfl))) (fun _ _ _ _=>(uM (xO (qG K hr.units) (xo qH hr (xQ (pv 1) (xU (pv 2) (pv 0)))) xg (xR _)))) (fun _ _ _ _=>(pv 0))) (zb uV) (xR _)))),
  (xB (xi os_eq (OkF.e (yu (yx xa).c xk (xD (xi qw (xy (xJ xa (xx xa xa))) xr)) xa)) (uR (b:=true) um))),fun ts KK hl h=>?_⟩)
 obtain⟨p,q,ws,rfl,hp,hq,hw,hl',k⟩:=h
 refine⟨by rw[xkr];exact sqz (by omega),yH (fun w=>decide (gC p q w<0)) pT (fun w hwm N M h1 h0=>?_) ?_⟩
 ·refine⟨p,q,w,rfl,hp,hq,hw w hwm,?_⟩
  exact xS (b:=decide (gC p q w<0)) h1 h0
 ·refine bU (xbC _) ?_
  rw[List.isEmpty_map,filter_empty]
  exact k
theorem fW (B:Blt mg bn)(F:Fun K "_law_corners" "_law_corners" w_ f fd)(m:mg "_law_corners" = some (.ref f))(b:Binds K fd ["_law_rows"] [])(jf:Own P w K mg base 6 "_law_ring" ["_law_places"] (spT 1 false false xdU))(uT:Own P w K mg base 3 "_law_crossing" ["_law_one", "_law_other"] (spT 2 false false ar))(qR:Own P w K mg base 4 "_law_keeps" ["_law_row", "_law_place"] (spT 2 false false xaB)) :
  Own P w K mg base 7 "_law_corners" ["_law_rows"] (spT 1 false false nA):=by
 refine xA F zz m b rfl (fun _ _ _ _ _ _ hr=>⟨_,_,
  (xc (yC 1 zz.nd (zb uV))
  (xc (zY PassesOwn.never rfl (uH rfl (B.get "range") (yZ (xF (yB K) rfl (B.get "len") ug (yZ (pv 0))))) (yG 2 zz.nd) (xh (zY PassesOwn.never rfl (yN K (u_ (oF K) (pv 0) (qS (xG wa (pv 2) xg)) qY)) (yG 3 zz.nd) (xc (uf (i:=4) zz.nd rfl (Or.inr rfl) (xo uT hr (xU (zV (yJ K) (pv 0) (pv 2) (fun _ _=>rfl)) (pv 3))))
  (xh (yE (PW.pt (jy (jC (bO (pv 4))) (v5 (xO (zI hr.units) (zU (yf (N:=["_law_row", "_law_place"]) (tau:=[none,some 4]) (XN:=["_law_rows", "_law_found", "_law_at", "_law_other", "_law_place"]) (xs:=xf w_) (by decide +kernel) rfl rfl) rfl (zL rfl) (yN K (pv 0)) (fun _ _ _ _=>(xY (i:=0) (show(["_law_row", "_law_place"]:List Str).Nodup by decide +kernel) rfl (Or.inl rfl))) (fun _ _ _ _=>(uM (zH (yX (xo qR hr (xU (pv 0) (pv 1))))))) (fun _ _ _ _=>(pv 0))) (zb uV) (xR _))))) (xh (vj (aZ PySem.F.plainAttrs_list PySem.F.slot_list_append PySem.F.type_list_append uc (pv 1) (yZ (pv 4))))) xV))))))
  (xh (xE (xo jf hr (yZ (pv 1))))))),
  (xj (zC (kj um))
  (xj (yU (wK (xZ (yM uD (xZ xa)))) xk.g (yU (yx (pO xa (ve (xi uW xa xr)) va)) xk.g (xj (xM (xy (xx (vR xa xa) xa)))
  (yg (v_ (yy (bp xa)) (xD (xi os_eq (OkF.e (yu (yx xa).c xk (yO (yy (xy (xx xa xa)))) xa)) (uR (b:=true) um)))) (qx xa) xN))))
  (xB (xy (xZ fC))))),fun ts KK hl h=>?_⟩)
 obtain⟨rows,rfl,hr,k⟩:=h
 have ring:=hr.ring
 have rl:=hr.len
 have r3:∀r∈rows,B3k 10 r:=fun r hm=>uh (hr.fine.fr r hm)
 have cl:(wd rows).length≤900:=ring.len
 let W:Nat→Nat→List Pol.R3→Prop:=fun i j ps=>(∀v∈ps,v∈wd rows)∧ps.length≤i*8+j∧∀v∈wd rows,∀a b s t,a<b→rows[a]? = some s→rows[b]? = some t→Pol.val s v=0→Pol.val t v=0→Pol.turn s t≠0→(a<i∨a=i∧b<i+1+j)→v∈ps
 refine⟨⟨by rw[xkr];omega,by rw[xkr];omega⟩,?_⟩
 rw[xkr,xjR]
 refine zD (fun i τ=>∃(ps:List Pol.R3) (x2 x3 x4:TV),τ=[.fz (.tup (rows.map trR)),.ow (ps.map yW),x2,x3,x4]∧W i 0 ps) ⟨[],_,_,_,rfl,by simp,by simp,?_⟩ ?_ ?_
 ·intro v hv a b s t hab ha hb e1 e2 hn hc
  omega
 ·rintro i x τ N hx ⟨ps,x2,x3,x4,rfl,hW⟩ hN
  have hi:i<rows.length:=by have:=(xkg.mp hx).1;rw[wm] at this;exact this
  rw[g6 hi] at hx
  cases hx
  have es:rows[i]? = some rows[i]:=xke hi
  generalize egen:rows[i]=s at es
  have hs:=xkM es
  show xce _ _ _ (dJ (rows.map trR) (some ((0:Int)+i+1)) none) _
  rw[show(0:Int)+(i:Int)+1=((i+1:Nat):Int) by omega,aK,←List.map_drop]
  refine zD (fun j τ=>∃(ps:List Pol.R3) (x3 x4:TV),τ=[.fz (.tup (rows.map trR)),.ow (ps.map yW),.fz (.int ((0:Int)+i)),x3,x4]∧W i j ps) ⟨ps,_,_,rfl,hW⟩ ?_ ?_
  ·rintro j y τ N2 hy ⟨ps,x3,x4,rfl,hW⟩ hN2
   obtain⟨t,ht,rfl⟩:=wM hy
   rw[List.getElem?_drop] at ht
   have htm:=xkM ht
   have hj:=(xkg.mp ht).1
   have at0:atT (rows.map trR) ((0:Int)+i)=some (trR s):=by rw[show(0:Int)+(i:Int)=((i:Nat):Int) by omega,dR,xkh,es];rfl
   show tU (atT (rows.map trR) ((0:Int)+i)) _
   rw[at0]
   have step:∀qs:List Pol.R3,(∀v∈qs,v∈wd rows)→(∀v∈ps,v∈qs)→qs.length≤ps.length+1→(∀v∈wd rows,Pol.val s v=0→Pol.val t v=0→Pol.turn s t≠0→v∈qs)→W i (j+1) qs:=fun qs h1 h2 h3 h4=>by
    refine⟨h1,by have:=hW.2.1;omega,fun v hv a b s' t' hab ha hb e1 e2 hn hc=>?_⟩
    by_cases q:a=i∧b=i+1+j
    ·obtain⟨rfl,rfl⟩:=q
     rw[es] at ha;rw[ht] at hb
     cases ha;cases hb
     exact h4 v hv e1 e2 hn
    ·exact h2 v (hW.2.2 v hv a b s' t' hab ha hb e1 e2 hn (by omega))
   refine⟨s,t,rfl,(r3 s hs).mono (by decide),(r3 t htm).mono (by decide),?_⟩
   by_cases hn:Pol.turn s t=0
   ·rw[mJ hn]
    exact hN2 _ ⟨ps,_,_,rfl,step ps hW.1 (fun v h=>h) (by omega) (fun v hv e1 e2 h=>absurd hn h)⟩
   ·rw[sO hn]
    obtain⟨cz,c1,c2⟩:=Pol.uA hn
    have cb:B3k 21 (Pol.yh s t):=by
     have S:=r3 s hs
     have T:=r3 t htm
     have m:∀ {x y z w:Int},Bk 10 x→Bk 10 y→Bk 10 z→Bk 10 w→Bk 21 (x*y-z*w):=fun h1 h2 h3 h4=>(h1.mul h2).sub (h3.mul h4)
     unfold Pol.yh Pol.turn
     split
     ·exact⟨⟨(m S.2 T.1.2 S.1.2 T.2).neg,(m S.1.1 T.2 S.2 T.1.1).neg⟩,(m S.1.1 T.1.2 S.1.2 T.1.1).neg⟩
     ·exact⟨⟨m S.2 T.1.2 S.1.2 T.2,m S.1.1 T.2 S.2 T.1.1⟩,m S.1.1 T.1.2 S.1.2 T.1.1⟩
    have pk:=xbg cz cb
    refine⟨by rw[xkr];exact sqz (by omega),yH (f:=trR) (fun r=>!dm r (plc (Pol.yh s t))) trR (fun r hm N M h1 h0=>?_) ?_⟩
    ·refine⟨r,plc (Pol.yh s t),rfl,(r3 r hm).mono (by decide),pk.1.mono (by decide),pk.2.mono (by decide),?_⟩
     exact xS (b := !dm r (plc (Pol.yh s t))) h1 h0
    ·dsimp only[xhl,xfv]
     refine bU (uB trR bS _) ?_
     rw[List.isEmpty_map,filter_empty]
     have ek:(rows.all fun r=>!!dm r (plc (Pol.yh s t)))=true↔∀r∈rows,Pol.val r (Pol.yh s t)≤0:=by
      rw[xjV]
      refine⟨fun h r hm=>?_,fun h r hm=>?_⟩
      ·have:=h r hm
       rw[Bool.not_not,sT r cz] at this
       exact xlr this
      ·rw[Bool.not_not,sT r cz]
       exact xln (h r hm)
     refine xS (b:=rows.all fun r=>!!dm r (plc (Pol.yh s t))) (fun c=>?_) (fun c=>?_)
     ·have c:=ek.mp c
      obtain⟨v,hv,e⟩:=hr.crossing hs htm hn c
      refine⟨by rw[xkr];exact sqz (by have:=hW.2.1;omega),?_⟩
      have e2:ps.map yW++[yW (Pol.yh s t)]=(ps++[v]).map yW:=by rw[e,xky];rfl
      show N2 _
      rw[e2]
      refine hN2 _ ⟨ps++[v],_,_,rfl,step _ ?_ (fun w hw=>xkC _ hw) (by simp) (fun w hw e1 e2 _=>?_)⟩
      ·intro w hw
       rcases xkB.mp hw with q | q
       ·exact hW.1 w q
       ·rw[xkP.mp q];exact hv
      ·have e3:=(hr.tightPt hw hn e1 e2).1
       have:w=v:=by
        have p1:=hr.corner hw
        have p2:=hr.corner hv
        refine tM p1.1.1 p2.1.1 p1.1.2.1 p2.1.2.1 ?_
        have e4:yW w=yW v:=e3.symm.trans e
        exact xgN e4
       rw[this];simp
     ·exact hN2 _ ⟨ps,_,_,rfl,step ps hW.1 (fun v h=>h) (by omega) (fun v hv e1 e2 _=>by
       have:=ek.mpr (hr.tightPt hv hn e1 e2).2
       rw[c] at this;cases this)⟩
  ·rintro τ ⟨ps,x3,x4,rfl,hW⟩
   refine hN _ ⟨ps,_,_,_,rfl,hW.1,?_,fun v hv a b s' t' hab ha hb e1 e2 hn hc=>?_⟩
   ·have:=hW.2.1
    rw[xkr,xko] at this
    omega
   ·refine hW.2.2 v hv a b s' t' hab ha hb e1 e2 hn ?_
    have:=(xkg.mp hb).1
    rw[xkr,xko]
    omega
 ·rintro τ ⟨ps,x2,x3,x4,rfl,hW⟩
  rw[wm] at hW
  refine⟨ps,wd rows,rfl,fun v=>⟨hW.1 v,fun hv=>?_⟩,by have:=hW.2.1;omega,ring,k⟩
  obtain⟨⟨_,_,hc⟩,_⟩:=hr.corner hv
  obtain⟨s,hs,t,ht,e1,e2,hn⟩:=hc.two
  obtain⟨a,ha,ea⟩:=xkJ.mp hs
  obtain⟨b,hb,eb⟩:=xkJ.mp ht
  have ha':rows[a]? = some s:=by rw[xke ha,ea]
  have hb':rows[b]? = some t:=by rw[xke hb,eb]
  rcases Nat.lt_trichotomy a b with q | q | q
  ·exact hW.2.2 v hv a b s t q ha' hb' e1 e2 hn (.inl ha)
  ·subst q
   rw[ha'] at hb'
   cases hb'
   unfold Pol.turn at hn
   grind
  ·exact hW.2.2 v hv b a t s q hb' ha' e2 e1 (fun z=>hn (by unfold Pol.turn at *;grind)) (.inl hb)
theorem gR (B:Blt mg bn)(F:Fun K "_law_greatest" "_law_greatest" uC f fd)(m:mg "_law_greatest" = some (.ref f))(b:Binds K fd ["_law_places", "_law_a", "_law_b"] [])(wc:Own P w K mg base 3 "_law_value" ["_law_row", "_law_place"] (spT 2 false false xav))(zW:Own P w K mg base 1 "_law_less" ["_law_one", "_law_other"] (spT 2 false false xbR)) :
  Own P w K mg base 4 "_law_greatest" ["_law_places", "_law_a", "_law_b"] (spT 3 false false sL):=by
 refine xA F za m b rfl (fun _ _ _ _ _ _ hr=>⟨_,_,
  (xc (yC 3 za.nd ju)
  (xc (zY PassesOwn.never rfl (yN K (pv 0)) (yG 4 za.nd) (xc (yC 5 za.nd (xo wc hr (xU (yb (xU (pv 1) (pv 2))) (pv 4))))
  (xh (yE (PW.pt (u5 (jC (aB (pv 3))) (uQ (yX (xo zW hr (xU (pv 3) (pv 5))))))) (xh (yC 3 za.nd (pv 5))) xV))))
  (xh (xE (pv 3))))),
  (xj (xM (xad (t:=Tr.non)))
  (xj (yU (yx xa) xk.g (xj (xM (xy (xx (yc (b:=true) (xx xa xa)) xa)))
  (yg (zG (yy (sS xa)) (yy (xy (xx xa xa)))) (xM xa) xN)))
  (xB xa))),fun ts KK hl h=>?_⟩)
 obtain⟨ps,a,c,rfl,ha,hc,hp,k⟩:=h
 refine x_ (fun τ=>τ=[.fz (.lst (ps.map pT)),.fz (.int a),.fz (.int c),.fz .non,.un,.un]) ?_ (fun N hN=>hN _ rfl)
 rintro _ rfl
 refine x_ (fun τ=>∃x4 x5:TV,τ=[.fz (.lst (ps.map pT)),.fz (.int a),.fz (.int c),.fz (xh6 (jT a c ps)),x4,x5]) ?_ (fun N hN=>?_)
 ·rintro _ ⟨x4,x5,rfl⟩
  exact k
 refine vX (ps.map pT) (fun i τ=>∃x4 x5:TV,τ=[.fz (.lst (ps.map pT)),.fz (.int a),.fz (.int c),.fz (xh6 (jT a c (ps.take i))),x4,x5]) (fun KK h=>h) ⟨_,_,rfl⟩ ?_ (fun τ ⟨x4,x5,e⟩=>hN _ ⟨x4,x5,by rw[e,xkr,xk2 (xk7 _)]⟩)
 rintro i x τ N2 hx ⟨x4,x5,rfl⟩ hN2
 obtain⟨p,hv,rfl⟩:=wM hx
 have hpm:=xkM hv
 have fold:=cN a c hv
 have fk:=nu (a:=a) (b:=c) ha hc (ps:=ps.take i) (fun p h=>hp p (xkN h))
 have vk:Fk 1000 (qo (a,c,0) p):=pY ha hc (hp p hpm)
 refine⟨a,c,[],p,rfl,ha.mono (by decide),hc.mono (by decide),(hp p hpm).1.mono (by decide),(hp p hpm).2.mono (by decide),?_⟩
 cases e:jT a c (ps.take i) with
 | none =>
  rw[e] at fold
  exact hN2 _ ⟨_,_,by rw[fold];rfl⟩
 | some f =>
  rw[e] at fold
  refine⟨f,_,rfl,fk f e,vk,?_⟩
  refine xS (b:=uF f (qo (a,c,0) p)) (fun d=>hN2 _ ⟨_,_,by rw[fold,xdQ d];rfl⟩) (fun d=>hN2 _ ⟨_,_,by rw[fold,xgk d];rfl⟩)
end
end K11
namespace K11
open PySem L2 Trn
section
variable {P:Program} {w:World} {K:PySem.W.Frag} {mg:Str→Option Value} {base:Heap} {f:Addr} {fd:FuncData}
theorem m9 (B:Blt mg bn)(F:Fun K "_law_plus" "_law_plus" js f fd)(m:mg "_law_plus" = some (.ref f))(b:Binds K fd ["_law_one", "_law_other"] [])(yr:Own P w K mg base 2 "_law_low" ["_law_top", "_law_bottom"] (spT 2 false false lI)) :
  Own P w K mg base 3 "_law_plus" ["_law_one", "_law_other"] (spT 2 false false xen):=by
 refine xA F mh m b rfl (fun _ _ _ _ _ _ hr=>⟨_,_,
  (xh (xE (xo yr hr (xU (xG wa (xG xK (xm K 0) (xm K 1)) (xG xK (xm K 1) (xm K 0))) (xG xK (xm K 0) (xm K 1)))))),
  (xB (xy (xx (xi uW (xi x8 xn xn) (xi x8 xn xn)) (xi x8 xn xn)))),fun ts KK hl h=>?_⟩)
 obtain⟨f,g,rfl,hf,hg,k⟩:=h
 exact⟨⟨hf.top.bd,hg.bot.bd⟩,⟨hg.top.bd,hf.bot.bd⟩,⟨hf.bot.bd,hg.bot.bd⟩,_,_,rfl,by have:=Pol.pp hf.pos hg.pos;omega,(hf.bot.mul hg.bot).bd,k⟩
theorem sj (B:Blt mg bn)(F:Fun K "_law_summed" "_law_summed" vN f fd)(m:mg "_law_summed" = some (.ref f))(b:Binds K fd ["_law_rows", "_law_weights"] [])(jk:Own P w K mg base 3 "_law_plus" ["_law_one", "_law_other"] (spT 2 false false xen))(zA:Own P w K mg base 3 "_law_times" ["_law_one", "_law_other"] (spT 2 false false bL)) :
  Own P w K mg base 4 "_law_summed" ["_law_rows", "_law_weights"] (spT 2 false false p7):=by
 refine xA F zQ m b rfl (fun _ _ _ _ _ _ hr=>⟨_,_,
  (xc (yC 2 zQ.nd (zb (xQ (yb (xU xg xg)) (xU (yb (xU xg xg)) (yb (xU xg xg))))))
  (xc (zY PassesOwn.never rfl (rL K rfl (B.get "zip") (xU (pv 0) (pv 1))) (yt K (n:=2) rfl (xu (yG 3 zQ.nd) (xu (yG 4 zQ.nd) yo))) (xh (zY PassesOwn.never rfl (uH rfl (B.get "range") (yZ xg)) (yG 5 zQ.nd) (xh (wH (xo jk hr (xU (zV (yJ K) (pv 2) (pv 5) (fun _ _=>rfl)) (xo zA hr (xU (pv 4) (yb (xU (zV (yJ K) (pv 3) (pv 5) (fun _ _=>rfl)) xg)))))) (m_ (pv 2) (pv 5) set_list))))))
  (xh (xE (kE (uK K) rfl (B.get "tuple") wC (yZ (pv 2))))))),
  (xj (zC (kj (xJ (yc (b:=true) (xx xr xr)) (xx (yc (b:=true) (xx xr xr)) (yc (b:=true) (xx xr xr))))))
  (xj (yU (g_ (xx xa xa)) (yw (xl xk (xl xk ye))).g (yU (wK (xZ xr)) xk.g (zK (xy (xx (oX xa) (xy (xx xa (yc (b:=true) (xx (vR xa xa) xr)))))) (cP xa))))
  (xB xbp))),fun ts KK hl h=>?_⟩)
 obtain⟨rows,ws,rfl,H0,k⟩:=h
 have hl8:=H0.l100
 have hlen:=H0.len
 have zl:(rows.zip ws).length=rows.length:=by rw[List.length_zip];omega
 have hz:=fun x hx=>H0.zip (x:=x) hx
 refine x_ (fun τ=>τ=[.fz (.tup (rows.map trR)),.fz (.tup (ws.map fT)),.ow [fT (0,1),fT (0,1),fT (0,1)],.un,.un,.un]) ?_ (fun N hN=>hN _ rfl)
 rintro _ rfl
 refine x_ (fun τ=>∃x3 x4 x5:TV,τ=[.fz (.tup (rows.map trR)),.fz (.tup (ws.map fT)),.ow [fT (wsum k0 (rows.zip ws)),fT (wsum k1 (rows.zip ws)),fT (wsum k2 (rows.zip ws))],x3,x4,x5]) ?_ (fun N hN=>?_)
 ·rintro _ ⟨x3,x4,x5,rfl⟩
  exact k
 show xh9 _ _ _ _ _
 have zt:xac (rows.map trR) (ws.map fT)=(rows.zip ws).map rwT:=rA trR fT rows ws
 refine vX ((rows.zip ws).map rwT) (fun i τ=>∃x3 x4 x5:TV,τ=[.fz (.tup (rows.map trR)),.fz (.tup (ws.map fT)),.ow [fT (wsum k0 ((rows.zip ws).take i)),fT (wsum k1 ((rows.zip ws).take i)),fT (wsum k2 ((rows.zip ws).take i))],x3,x4,x5]) (fun KK h=>by rw[←zt] at h;exact h) ⟨_,_,_,rfl⟩ ?_ (fun τ ⟨x3,x4,x5,e⟩=>hN _ ⟨x3,x4,x5,by rw[e,xkr,xk1]⟩)
 rintro i x τ N2 hx ⟨x3,x4,x5,rfl⟩ hN2
 obtain⟨y,hy,rfl⟩:=wM hx
 have il:=(xkg.mp hy).1
 obtain⟨hr,hw⟩:=hz y (xkM hy)
 have tk1:(rows.zip ws).take (i+1)=(rows.zip ws).take i++[y]:=by rw[xk3,hy];rfl
 have fk:∀(k:Pol.R3→Int),(∀r,B3k 10 r→Bk 10 (k r))→Fk 900 (wsum k ((rows.zip ws).take i)):=fun k hk =>
  (xaZ k _ fun x hx=>⟨(hz x (xkN hx)).2.sm,hk _ (hz x (xkN hx)).1⟩).mono (by rw[xkw];omega)
 have f0:=fk k0 fun r h=>h.1.1
 have f1:=fk k1 fun r h=>h.1.2
 have f2:=fk k2 fun r h=>h.2
 rw[tk1,wsum_snoc,wsum_snoc,wsum_snoc] at hN2
 generalize wsum k0 ((rows.zip ws).take i)=A0 at f0 hN2
 generalize wsum k1 ((rows.zip ws).take i)=A1 at f1 hN2
 generalize wsum k2 ((rows.zip ws).take i)=A2 at f2 hN2
 refine⟨rfl,?_⟩
 have one9:∀ {n:Int},Bk 10 n→Fk 900 (n,1):=fun h=>⟨h.mono (by decide),by show Bk 900 1;unfold Bk;decide,by show(0:Int)<1;decide⟩
 have w9:Fk 900 y.2:=hw.sm.mono (by decide)
 have t9:∀ {n:Int},Bk 10 n→Fk 900 (n_ y.2 (n,1)):=fun h=>(hw.sm.timI h).mono (by decide)
 refine⟨⟨by decide,by decide⟩,?_⟩
 refine⟨y.2,(y.1.1,1),rfl,w9,one9 hr.1.1,A0,_,rfl,f0,t9 hr.1.1,?_⟩
 refine⟨y.2,(y.1.2.1,1),rfl,w9,one9 hr.1.2,A1,_,rfl,f1,t9 hr.1.2,?_⟩
 refine⟨y.2,(y.1.2.2,1),rfl,w9,one9 hr.2,A2,_,rfl,f2,t9 hr.2,?_⟩
 exact hN2 _ ⟨_,_,_,rfl⟩
theorem tO (B:Blt mg bn)(F:Fun K "_law_times" "_law_times" qy f fd)(m:mg "_law_times" = some (.ref f))(b:Binds K fd ["_law_one", "_law_other"] [])(yr:Own P w K mg base 2 "_law_low" ["_law_top", "_law_bottom"] (spT 2 false false lI)) :
  Own P w K mg base 3 "_law_times" ["_law_one", "_law_other"] (spT 2 false false bL):=by
 refine xA F aL m b rfl (fun _ _ _ _ _ _ hr=>⟨_,_,
  (xh (xE (xo yr hr (xU (xG xK (xm K 0) (xm K 1)) (xG xK (xm K 0) (xm K 1)))))),
  (xB (xy (xx (xi x8 xn xn) (xi x8 xn xn)))),fun ts KK hl h=>?_⟩)
 obtain⟨f,g,rfl,hf,hg,k⟩:=h
 exact⟨⟨hf.top.bd,hg.top.bd⟩,⟨hf.bot.bd,hg.bot.bd⟩,_,_,rfl,by have:=Pol.pp hf.pos hg.pos;omega,(hf.bot.mul hg.bot).bd,k⟩
theorem bV (B:Blt mg bn)(F:Fun K "_law_cut" "_law_cut" j2 f fd)(m:mg "_law_cut" = some (.ref f))(b:Binds K fd ["_law_rows", "_law_weights"] [])(vZ:Own P w K mg base 4 "_law_summed" ["_law_rows", "_law_weights"] (spT 2 false false p7)) :
  Own P w K mg base 5 "_law_cut" ["_law_rows", "_law_weights"] (spT 2 false false xgt):=by
 refine xA F vQ m b rfl (fun _ _ _ _ _ _ hr=>⟨_,_,
  (xc (wH (xo vZ hr (xU (pv 0) (pv 1))) (yt K (n:=3) rfl (xu (yG 2 vQ.nd) (xu (yG 3 vQ.nd) (xu (yG 4 vQ.nd) yo)))))
  (xc (yE (PW.pt (u5 (xO (zX hr.units) (xm K 2) xg (xR _)) (u5 (xO (zX hr.units) (xm K 3) xg (xR _)) (uQ (PW.pt (jy (xO (zI hr.units) (xm K 2) xg (xR _)) (v5 (xO (zI hr.units) (xm K 3) xg (xR _))))))))) (xh (xE ju)) xV)
  (xh (xE (yb (xQ (xm K 2) (xU (xm K 3) (xG uj (xm K 4) (xm K 4))))))))),
  (xj (zK (xy (xx xa xa)) (yw (xl xk (xl xk (xl xk ye)))).g)
  (xj (yg (zG (xD (xi vC xn xr)) (zG (xD (xi vC xn xr)) (v_ (xD (xi os_eq xn xr)) (xD (xi os_eq xn xr))))) (xB (xad (t:=Tr.non))) xN)
  (xB (yc (b:=true) (xJ xn (xx xn (xi qm xn xn))))))),fun ts KK hl h=>?_⟩)
 obtain⟨rows,ws,rfl,H0,k⟩:=h
 obtain⟨p0,pb⟩:=H0.bot
 refine⟨rows,ws,rfl,H0,?_⟩
 refine⟨rfl,?_⟩
 have cn:(wsum k2 (rows.zip ws)).2≠0:=by omega
 have ce:xaN (rows.zip ws)=trR ((wsum k0 (rows.zip ws)).1,(wsum k1 (rows.zip ws)).1,(wsum k2 (rows.zip ws)).1.fdiv (wsum k2 (rows.zip ws)).2):=rfl
 rw[ce] at k
 generalize wsum k0 (rows.zip ws)=a at *
 generalize wsum k1 (rows.zip ws)=b' at *
 generalize wsum k2 (rows.zip ws)=c at *
 have no:¬nY a b'→KK .non:=fun h=>by rw[if_neg h] at k;exact k
 have yes:nY a b'→KK (trR (a.1,b'.1,c.1.fdiv c.2)):=fun h=>by rw[if_pos h] at k;exact k
 refine xS (b := !decide (a.2=1)) (fun z=>no fun y=>?_) (fun z1=>?_)
 ·simp[y.1] at z
 have z1:a.2=1:=by simpa using z1
 refine xS (b := !decide (b'.2=1)) (fun z=>no fun y=>?_) (fun z2=>?_)
 ·simp[y.2.1] at z
 have z2:b'.2=1:=by simpa using z2
 refine xS (b:=decide (a.1=0)) (fun z=>?_) (fun z3=>?_)
 ·have z3:=xlr z
  refine xS (b:=decide (b'.1=0)) (fun z4=>?_) (fun z4=>?_)
  ·exact no fun y=>y.2.2 ⟨z3,xlr z4⟩
  ·exact⟨⟨cn,pb⟩,yes ⟨z1,z2,fun y=>xlq z4 y.2⟩⟩
 ·exact⟨⟨cn,pb⟩,yes ⟨z1,z2,fun y=>xlq z3 y.1⟩⟩
theorem rq (B:Blt mg bn)(F:Fun K "_law_whole" "_law_whole" qU f fd)(m:mg "_law_whole" = some (.ref f))(b:Binds K fd ["_law_thing"] [])  :
  Own P w K mg base 1 "_law_whole" ["_law_thing"] (spT 1 false false oi):=by
 refine xA F rj m b rfl (fun _ _ _ _ _ _ hr=>⟨_,_,
  (xh (xE (nr (xF wX rfl (B.get "isinstance") xP (xU (pv 0) (uX (v:=V.ty "int") rfl (B.get "int") xec rfl))) (dX (xdM (xF wX rfl (B.get "isinstance") xP (xU (pv 0) (uX (v:=V.ty "bool") rfl (B.get "bool") xbQ rfl)))))))),
  (xB (fU (kW xa) (xar (kW xa)))),fun ts KK hl h=>?_⟩)
 obtain⟨t,rfl,k⟩:=h
 cases t<;>exact k
theorem jh (B:Blt mg bn)(F:Fun K "_law_is_fraction" "_law_is_fraction" wo f fd)(m:mg "_law_is_fraction" = some (.ref f))(b:Binds K fd ["_law_thing"] [])(vc:Own P w K mg base 1 "_law_whole" ["_law_thing"] (spT 1 false false oi))(ze:Own P w K mg base 1 "_law_divisor" ["_law_one", "_law_other"] (spT 2 false false xey)) :
  Own P w K mg base 2 "_law_is_fraction" ["_law_thing"] (spT 1 false false xdZ):=by
 refine xA F jm m b rfl (fun _ _ _ _ _ _ hr=>⟨_,_,
  (xc (yE (PW.pt (u5 (zH (yX (xF wX rfl (B.get "isinstance") xP (xU (pv 0) (uX (v:=V.ty "tuple") rfl (B.get "tuple") wC rfl))))) (u5 (xO (zX hr.units) (xF (yB K) rfl (B.get "len") ug (yZ (pv 0))) xg (xR _)) (u5 (zH (yX (xo vc hr (yZ (xm K 0))))) (uQ (zH (yX (xo vc hr (yZ (xm K 0)))))))))) (xh (xE vT)) xV)
  (xh (xE (nr (zq cQ (xm K 0) xg (xR _)) (dX (zq (zI hr.units) (xo ze hr (xU (xm K 0) (xm K 0))) xg (xR _))))))),
  (xj (yg (zG (yO (yy (kW xa))) (zG (xD (xi vC (yM uD (xZ xa)) xr)) (zG (yO (yy (xy (xZ xn)))) (yO (yy (xy (xZ xn))))))) (xB kD) xN)
  (xB (fU (xi pF xn xr) (xi os_eq (xy (xx xn xn)) xr)))),fun ts KK hl h=>?_⟩)
 obtain⟨t,rfl,k⟩:=h
 cases t with
 | tup us =>
  refine xS (b := !decide ((us.length:Int)=2)) (fun c=>?_) (fun c=>?_)
  ·have c:¬(us.length:Int)=2:=by simpa using c
   have e:lu (.tup us)=false:=by
    unfold lu
    split
    ·rename_i z;injection z with z;rw[z] at c;exact absurd rfl c
    ·rfl
   rw[e] at k
   exact k
  ·have c:us.length=2:=by simp at c;omega
   obtain⟨x,y,rfl⟩:∃x y,us=[x,y]:=by
    match us,c with
    | [x,y],_=>exact⟨x,y,rfl⟩
   refine⟨x,rfl,?_⟩
   cases x with
   | int a =>
    refine⟨y,rfl,?_⟩
    cases y with
    | int b =>
     have e:lu (.tup [.int a,.int b])=(decide (1≤b)&&decide (Int.gcd a b=1)):=rfl
     rw[e] at k
     refine xS (b:=decide (0<b)) (fun c1=>?_) (fun c1=>?_)
     ·have c1:=xlr c1
      rw[xln (show 1≤b by omega),Bool.true_and] at k
      refine⟨a,b,rfl,?_⟩
      have e2:decide (((Int.gcd a b:Nat):Int)=1)=decide (Int.gcd a b=1):=by rw[xll];omega
      show KK (.bl (decide (((Int.gcd a b:Nat):Int)=1)))
      rw[e2];exact k
     ·have c1:=xlq c1
      rw[xlm (show ¬1≤b by omega),Bool.false_and] at k;exact k
    | _=>exact k
   | _=>exact k
 | _=>exact k
end
end K11
namespace K11
open PySem L2 Trn
section
variable {P:Program} {w:World} {K:PySem.W.Frag} {mg:Str→Option Value} {base:Heap} {f:Addr} {fd:FuncData}
theorem rz (B:Blt mg bn)(F:Fun K "_law_right" "_law_right" ue f fd)(m:mg "_law_right" = some (.ref f))(b:Binds K fd ["_law_field_here", "_law_some", "_law_a", "_law_b"] [])(uS:Own P w K mg base 4 "_law_greatest" ["_law_places", "_law_a", "_law_b"] (spT 3 false false sL))(qj:Own P w K mg base 10 "cut_towards" ["field", "a", "b"] (spT 3 false false xcd))(gm:Own P w K mg base 5 "_law_cut" ["_law_rows", "_law_weights"] (spT 2 false false xgt))(wk:Own P w K mg base 2 "_law_is_fraction" ["_law_thing"] (spT 1 false false xdZ)) :
  Own P w K mg base 11 "_law_right" ["_law_field_here", "_law_some", "_law_a", "_law_b"] (spT 4 false false nQ):=by
 refine xA F uy m b rfl (fun _ _ _ _ _ _ hr=>⟨_,_,
  (xc (yC 4 uy.nd (xo uS hr (xQ (pv 1) (xU (pv 2) (pv 3)))))
  (xc (yC 5 uy.nd (xo qj hr (xQ (pv 0) (xU (pv 2) (pv 3)))))
  (xc (yE (PW.pt (u5 (zH (yX (xF wX rfl (B.get "isinstance") xP (xU (pv 5) (uX (v:=V.ty "tuple") rfl (B.get "tuple") wC rfl))))) (u5 (xO (zX hr.units) (xF (yB K) rfl (B.get "len") ug (yZ (pv 5))) xg (xR _)) (uQ (xO (zX hr.units) (xm K 5) (yb (xQ (pv 2) (xU (pv 3) (xG uj (xm K 4) (xm K 4))))) (xR _)))))) (xh (xE vT)) xV)
  (xc (yC 6 uy.nd (xm K 5))
  (xc (yE (PW.pt (u5 (zH (yX (xF wX rfl (B.get "isinstance") xP (xU (pv 6) (uX (v:=V.ty "tuple") rfl (B.get "tuple") wC rfl))))) (uQ (xO (zX hr.units) (xF (yB K) rfl (B.get "len") ug (yZ (pv 6))) (xF (yB K) rfl (B.get "len") ug (yZ (pv 0))) (xR _))))) (xh (xE vT)) xV)
  (xc (yE (xO (zX hr.units) (zU (yf (N:=["_law_one"]) (tau:=[none]) (XN:=["_law_field_here", "_law_some", "_law_a", "_law_b", "_law_most", "_law_found", "_law_weights"]) (xs:=xf ue) (by decide +kernel) rfl rfl) rfl (zL rfl) (yN K (pv 6)) (fun _ _ _ _=>(xY (i:=0) (show(["_law_one"]:List Str).Nodup by decide +kernel) rfl (Or.inl rfl))) (fun _ _ _ _=>(uM (PW.pt (u5 (zH (yX (xo wk hr (yZ (pv 0))))) (uQ (xO (qG K hr.units) (xm K 0) xg (xR _))))))) (fun _ _ _ _=>(pv 0))) (zb uV) (xR _)) (xh (xE vT)) xV)
  (xc (yE (xO cQ (xF (yB K) rfl (B.get "len") ug (yZ (zU (yf (N:=["_law_one"]) (tau:=[none]) (XN:=["_law_field_here", "_law_some", "_law_a", "_law_b", "_law_most", "_law_found", "_law_weights"]) (xs:=xf ue) (by decide +kernel) rfl rfl) rfl (zL rfl) (yN K (pv 6)) (fun _ _ _ _=>(xY (i:=0) (show(["_law_one"]:List Str).Nodup by decide +kernel) rfl (Or.inl rfl))) (fun _ _ _ _=>(uM (xO (zX hr.units) (xm K 0) xg (xR _)))) (fun _ _ _ _=>(pv 0))))) xg (xR _)) (xh (xE vT)) xV)
  (xh (xE (zq (zI hr.units) (xo gm hr (xU (pv 0) (pv 6))) (xm K 5) (xR _))))))))))),
  (xj (xM (xy (xJ xa (xx xa xa))))
  (xj (xM (xy (xJ xa (xx xa xa))))
  (xj (yg (zG (yO (yy (kW xa))) (zG (xD (xi vC (yM uD (xZ xa)) xr)) (xD (xi vC xn (yc (b:=true) (xJ xa (xx xa (xi qm xn xn)))))))) (xB kD) xN)
  (xj (xM xn)
  (xj (yg (zG (yO (yy (kW xa))) (xD (xi vC (yM uD (xZ xa)) (yM uD (xZ xa))))) (xB kD) xN)
  (xj (yg (xD (xi vC (OkF.e (yu (yx xa).c xk (zG (yO (yy (xy (xZ xa)))) (xD (xi qw xn xr))) xa)) (uR (b:=true) um))) (xB kD) xN)
  (xj (yg (xD (xi pF (yM uD (xZ (OkF.e (yu (yx xa).c xk (xD (xi vC xn xr)) xa)))) xr)) (xB kD) xN)
  (xB (xi os_eq (xy (xx xa xa)) xn))))))))),fun ts KK hl h=>?_⟩)
 obtain⟨rows,d,rfl,hf,FR,ne,⟨bx,nz⟩,k⟩:=h
 have l8:=(sY hf).1.2
 have ml:(rows.map trR).length=rows.length:=xkr _
 obtain⟨f,ef⟩:=cU (a:=d.1) (b:=d.2) (ps:=(wd rows).map plc) (by simpa using ne)
 have ba:Bk 100 d.1:=xdE (by unfold Bx at bx;omega)
 have bb:Bk 100 d.2:=xdE (by unfold Bx at bx;omega)
 have fk:=nu ba bb (fun p hp=>FR.pkm hp) f ef
 refine x_ (fun τ=>τ=[.fz (.tup (rows.map trR)),.fz (.lst ((wd rows).map yW)),.fz (.int d.1),.fz (.int d.2),.fz (fT f),.un,.un]) ?_ (fun N hN=>⟨(wd rows).map plc,d.1,d.2,by rw[xkA];rfl,ba,bb,fun p hp=>FR.pkm hp,by rw[ef];exact hN _ rfl⟩)
 rintro _ rfl
 refine x_ (fun τ=>∃(v:Pol.R3) (x:SX),v∈wd rows∧x.1∈vb rows (tV rows (plc v))∧uq rows x∧x.2=d∧τ=[.fz (.tup (rows.map trR)),.fz (.lst ((wd rows).map yW)),.fz (.int d.1),.fz (.int d.2),.fz (fT f),.fz (xe6 rows x),.un]) ?_ (fun N hN=>⟨rows,d,rfl,hf,FR,ne,⟨bx,nz⟩,fun v x hv hx G e=>hN _ ⟨v,x,hv,hx,G,e,rfl⟩⟩)
 rintro _ ⟨v,x,hv,hx,G,rfl,rfl⟩
 have gf:=cK hf FR hv hx G ef
 have g:=G.gw hf
 have WSx:=sY.ws hf g
 have wl:((kR rows x).map fT).length=rows.length:=by rw[xkr];exact g.1
 refine x_ (fun τ=>τ=[.fz (.tup (rows.map trR)),.fz (.lst ((wd rows).map yW)),.fz (.int x.2.1),.fz (.int x.2.2),.fz (fT f),.fz (xe6 rows x),.un]) ?_ (fun N hN=>?_)
 rotate_left
 ·have fp:=fk.pos
  refine⟨⟨by show f.2≠0;omega,fk.bot.bd⟩,⟨rfl,rfl,by show min 1 1≤64;decide⟩,?_⟩
  have e:teq (trR (xcf rows x)) (trR (x.2.1,x.2.2,f.1.fdiv f.2))=true:=by
   rw[gf,aM];exact xln rfl
  exact xS (b := !teq (trR (xcf rows x)) (trR (x.2.1,x.2.2,f.1.fdiv f.2))) (fun c=>by rw[e] at c;cases c) (fun _=>hN _ rfl)
 rintro _ rfl
 refine x_ (fun τ=>τ=[.fz (.tup (rows.map trR)),.fz (.lst ((wd rows).map yW)),.fz (.int x.2.1),.fz (.int x.2.2),.fz (fT f),.fz (xe6 rows x),.fz (wsT (kR rows x))]) ?_ (fun N hN=>hN _ rfl)
 rintro _ rfl
 refine x_ (fun τ=>τ=[.fz (.tup (rows.map trR)),.fz (.lst ((wd rows).map yW)),.fz (.int x.2.1),.fz (.int x.2.2),.fz (fT f),.fz (xe6 rows x),.fz (wsT (kR rows x))]) ?_ (fun N hN=>?_)
 rotate_left
 ·refine xS (b := !decide ((((kR rows x).map fT).length:Int)=((rows.map trR).length:Nat))) (fun c=>?_) (fun c=>hN _ rfl)
  have c:¬(((kR rows x).map fT).length:Int)=((rows.map trR).length:Nat):=by simpa using c
  exact absurd (by rw[wl,ml]) c
 rintro _ rfl
 refine x_ (fun τ=>τ=[.fz (.tup (rows.map trR)),.fz (.lst ((wd rows).map yW)),.fz (.int x.2.1),.fz (.int x.2.2),.fz (fT f),.fz (xe6 rows x),.fz (wsT (kR rows x))]) ?_ (fun N hN=>?_)
 rotate_left
 ·refine⟨by rw[wl];exact sqz (by omega),yH (fun _=>false) fT (fun w' hw N M h1 h0=>?_) ?_⟩
  ·have W':=g.2 w' hw
   have e:=W'.isFr
   have nn:=W'.nn
   refine⟨_,rfl,?_⟩
   refine xS (b := !lu (fT w')) (fun c=>by rw[e] at c;cases c) (fun _=>?_)
   exact xS (b:=decide (w'.1<0)) (fun c=>by have:=xlr c;omega) (fun _=>h0 rfl)
  ·dsimp only[xhl,xfv]
   rw[show(kR rows x).filter (fun _=>false)=[] from xj8.mpr fun _ _=>xji]
   exact bU rfl (hN _ rfl)
 rintro _ rfl
 refine x_ (fun τ=>τ=[.fz (.tup (rows.map trR)),.fz (.lst ((wd rows).map yW)),.fz (.int x.2.1),.fz (.int x.2.2),.fz (fT f),.fz (xe6 rows x),.fz (wsT (kR rows x))]) ?_ (fun N hN=>?_)
 rotate_left
 ·refine⟨by rw[wl];exact sqz (by omega),yH (fun w:F2=>!decide (w.1=0)) fT (fun w' hw N M h1 h0=>xS h1 h0) ?_⟩
  have two:=xcY G
  refine xS (b:=decide ((((((kR rows x).filter fun w=>!decide (w.1=0)).map fT).length:Nat):Int)>2)) (fun c=>?_) (fun _=>hN _ rfl)
  have c:=xlr c
  rw[xkr] at c
  omega
 rintro _ rfl
 refine⟨rows,kR rows x,rfl,WSx,?_⟩
 rw[if_pos (G.cut hf)]
 refine⟨⟨rfl,rfl,by show min 1 1≤64;decide⟩,?_⟩
 have e:teq (xaN (rows.zip (kR rows x))) (trR (xcf rows x))=true:=by
  show teq (trR (xcf rows x)) (trR (xcf rows x))=true
  rw[aM];exact xln rfl
 show KK (.bl (teq (xaN (rows.zip (kR rows x))) (trR (xcf rows x))))
 rw[e]
 exact k
end
end K11
namespace K11
open PySem L2 Trn
section
variable {P:Program} {w:World} {K:PySem.W.Frag} {mg:Str→Option Value} {base:Heap} {f:Addr} {fd:FuncData}
theorem xha (B:Blt mg bn)(F:Fun K "law" "law" sr f fd)(qI:Own P w K mg base 2 "_law_state" ["_law_script", "_law_k"] (bH K))(qQ:Own P w K mg base 2 "_law_field" ["_law_state_here"] (spT 0 true false xa7))(vq:Own P w K mg base 7 "_law_corners" ["_law_rows"] (spT 1 false false nA))(xT:Own P w K mg base 1 "_law_take" ["_law_state_here", "_law_many"] (spT 1 true false xcA)){a_Nothing:Addr}(y4:∀base,Mod K mg base→Own P w K mg base 12 "_law_refused" ["_law_call"] (xcw P w K mg base 11 a_Nothing 3))(kb:Own P w K mg base 11 "_law_right" ["_law_field_here", "_law_some", "_law_a", "_law_b"] (spT 4 false false nQ))(ox_cut_towards__Nothing:∀base,Mod K mg base→xd0 P w K mg base 10 "cut_towards" ["field", "a", "b"] (spX 3 a_Nothing xb8)){c T:Addr}(hfd:fd.code=.ref c)(hT:xfL K=some (T,("law.<locals>.<lambda>" : Str)))(hTg:mainGlobals≠T)(hC:PySem.W.CodeHd base c T)(hB:base.BuiltinsAt mg T) :
  aD P w K mg base CX0 13 f fd ["_law_script"] (dA K):=by
 refine xaR F hfd kh rfl (fun A outer s H E hr=>⟨_,_,
  (xc (zY PassesOwn.never rfl (uH rfl (B.get "range") (yZ (xF (xbf rfl) rfl (B.get "max") xfU (xU xg (xF (xbd rfl) rfl (B.get "min") xfW (xU (xF (yB K) rfl (B.get "len") ug (yZ (pv 0))) xg)))))) (yG 1 kh.nd) (xc (yC 2 kh.nd (xo qI hr (xU (pv 0) (pv 1))))
  (xc (uf (i:=3) kh.nd rfl (Or.inr rfl) (xo qQ hr (yZ (pv 2))))
  (xc (yC 4 kh.nd (xo vq hr (yZ (pv 3))))
  (xh (zY PassesOwn.never rfl (uH rfl (B.get "range") (yZ xg)) (yG 5 kh.nd) (xc (wH (yb (xU (xG zF (xo xT hr (xU (pv 2) xg)) xg) (xG zF (xo xT hr (xU (pv 2) xg)) xg))) (yt K (n:=2) rfl (xu (xY (i:=6) kh.nd rfl (Or.inr rfl)) (xu (xY (i:=7) kh.nd rfl (Or.inr rfl)) yo))))
  (xc (yE (xO (zI hr.units) (pv 5) xg (xR _)) (xh (wH (zV (yJ K) (zb (xQ (yb (xU xg (vo zO xg))) (xQ (yb (xU (vo zO xg) xg)) (xU (u_ (oF K) (xm K 3) qY (qS xg)) (yb (xU xg xg)))))) (xo xT hr (xU (pv 2) xg)) (fun _ _=>rfl)) (yt K (n:=2) rfl (xu (xY (i:=6) kh.nd rfl (Or.inr rfl)) (xu (xY (i:=7) kh.nd rfl (Or.inr rfl)) yo))))) xV)
  (xc (yE (PW.pt (jy (xO (zI hr.units) (pv 6) xg (xR _)) (v5 (xO (zI hr.units) (pv 7) xg (xR _))))) (xh (uf (i:=7) kh.nd rfl (Or.inr rfl) (vo zO xg))) xV)
  (xh (yE (xO (zI hr.units) (pv 4) (zb uV) (xR _)) (xh (yE (xO (zX hr.units) (lU (N:=["_law_field_here", "_law_a", "_law_b"]) (tau:=[3,6,7]) y4 hr (fun _ _ _ _ _ _ _ _ _ M hr'=>xfo (ox_cut_towards__Nothing _ M) hr' xck (xQ (pv 0) (xU (pv 1) (pv 2)))) (by kernel_rfl) rfl hC hTg hB rfl rfl rfl rfl (by repeat' constructor) (fun _=>rfl) (fun _ _ _=>rfl) (by decide) (by decide) rfl rfl rfl) (zb (yZ xg)) (xR _)) (xh (xE vT)) xV)) (xh (yE (zH (yX (xo kb hr (xQ (pv 3) (xQ (pv 4) (xU (pv 6) (pv 7))))))) (xh (xE vT)) xV)))))))))))))
  (xh (xE vT))),
  (xj (yU (wK (xZ (yM xft (xx xr (yM xfj (xx xci xr)))))) xk.g (xj (xbw xa)
  (xj (xM (yS (b:=true) um))
  (xj (xM (xy (xZ xa)))
  (yU (wK (xZ xr)) xk.g (xj (zK (yc (b:=true) (xx (xi zM (yS (xZ xr)) xr) (xi zM (yS (xZ xr)) xr))) (yw (xl xk (xl xk ye))).g)
  (xj (yg (xD (xi os_eq xa xr)) (zK (vR (uR (b:=true) (xJ (yc (b:=true) (xx xr (zN xr))) (xJ (yc (b:=true) (xx (zN xr) xr)) (xx (pO xn va (ve xr)) (yc (b:=true) (xx xr xr)))))) (yS (xZ xr))) (yw (xl xk (xl xk ye))).g) xN)
  (xj (yg (v_ (xD (xi os_eq xa xr)) (xD (xi os_eq xa xr))) (xM (zN xr)) xN)
  (yg (xD (xi os_eq xa (uR (b:=true) um))) (yg (xD (xi vC (OkF.e (cI hT (xJ xa (xx xa xa)))) (uR (b:=true) (xZ xr)))) (xB kD) xN) (yg (yO (yy (xy (xJ xa (xJ xa (xx xa xa)))))) (xB kD) xN))))))))))
  (xB kD)),fun ns hl=>?_⟩)
 refine x_ (fun τ=>True) (fun τ _=>rfl) (fun N hN=>?_)
 refine vX _ (fun i τ=>∃(x1 x2 x3 x4 x5 x6 x7:TV),τ=[.sc ns,x1,x2,x3,x4,x5,x6,x7]) (fun KK h=>fun _=>⟨⟨by split<;>split<;>omega,by split<;>split<;>omega⟩,h⟩) ⟨_,_,_,_,_,_,_,rfl⟩ ?_ (fun τ _=>hN _ trivial)
 rintro i x τ N2 hx ⟨x1,x2,x3,x4,x5,x6,x7,rfl⟩ hN2
 have hi:=(xkg.mp hx).1
 rw[wm] at hi
 rw[g6 hi] at hx
 cases hx
 dsimp only[xeO,cj,eName,xgc]
 have hk:(0:Int)≤(0:Int)+i:=by omega
 generalize (0:Int)+i=kk at hk
 show xfN _ _ _ ([.sc ns,.fz (.int kk),x2,x3,x4,x5,x6,x7]:TSt)
 refine x_ (fun τ=>τ=[.sc ns,.fz (.int kk),.st,x3,x4,x5,x6,x7]) ?_ (fun N hN=>⟨hk,hN _ rfl⟩)
 rintro _ rfl
 refine x_ (fun τ=>∃rows,LF rows∧τ=[.sc ns,.fz (.int kk),.st,.fz (.tup (rows.map trR)),x4,x5,x6,x7]) ?_ (fun N hN=>⟨rfl,fun rows hF=>hN _ ⟨rows,hF,rfl⟩⟩)
 rintro _ ⟨rows,hF,rfl⟩
 have FR:=hF.fine
 have hf:=hF.isf
 refine x_ (fun τ=>τ=[.sc ns,.fz (.int kk),.st,.fz (.tup (rows.map trR)),.fz (.lst ((wd rows).map yW)),x5,x6,x7]) ?_ (fun N hN=>⟨rows,rfl,FR,hN _ rfl⟩)
 rintro _ rfl
 refine vX _ (fun i τ=>∃(y5 y6 y7:TV),τ=[.sc ns,.fz (.int kk),.st,.fz (.tup (rows.map trR)),.fz (.lst ((wd rows).map yW)),y5,y6,y7]) (fun KK h=>⟨⟨by decide,by decide⟩,h⟩) ⟨_,_,_,rfl⟩ ?_ (fun τ ⟨y5,y6,y7,e⟩=>hN2 _ ⟨_,_,_,_,_,_,_,e⟩)
 rintro j y τ N3 hy ⟨y5,y6,y7,rfl⟩ hN3
 have hj:=(xkg.mp hy).1
 rw[wm] at hj
 rw[g6 hj] at hy
 cases hy
 dsimp only[xeO,cj,eName,xgc]
 generalize (0:Int)+j=tt
 show xfN _ _ _ ([.sc ns,.fz (.int kk),.st,.fz (.tup (rows.map trR)),.fz (.lst ((wd rows).map yW)),.fz (.int tt),y6,y7]:TSt)
 refine x_ (fun τ=>∃d:D2,Bx 1000 d∧τ=[.sc ns,.fz (.int kk),.st,.fz (.tup (rows.map trR)),.fz (.lst ((wd rows).map yW)),.fz (.int tt),.fz (.int d.1),.fz (.int d.2)]) ?_ (fun N hN=>⟨tk (by decide),fun r r0 r1=>⟨tk (by decide),fun q q0 q1=>⟨rfl,hN _ ⟨(r-40,q-40),by unfold Bx;simp only;omega,rfl⟩⟩⟩⟩)
 rintro _ ⟨d,bx,rfl⟩
 refine x_ (fun τ=>∃d:D2,Bx 1000 d∧τ=[.sc ns,.fz (.int kk),.st,.fz (.tup (rows.map trR)),.fz (.lst ((wd rows).map yW)),.fz (.int tt),.fz (.int d.1),.fz (.int d.2)]) ?_ (fun N hN=>?_)
 rotate_left
 ·refine xS (b:=decide (tt=4)) (fun _=>?_) (fun _=>hN _ ⟨d,bx,rfl⟩)
  obtain⟨⟨l3,_⟩,_⟩:=sY hf
  have b0:=ku hf (i:=0) (by omega)
  cases rows with
  | nil=>simp at l3
  | cons r rs =>
   have b0:Bx 30 (r.1,r.2.1):=b0
   refine⟨tk (by decide),fun q q0 q1=>?_⟩
   have go:∀l:List D2,l.length=4→(∀d∈l,Bx 1000 d)→tU (atT (l.map drD) q) (fun t=>xhR 2 (cj (eName 6) (cj (eName 7) xgc)) t ([.sc ns,.fz (.int kk),.st,.fz (.tup ((r::rs).map trR)),.fz (.lst ((wd (r::rs)).map yW)),.fz (.int tt),.fz (.int d.1),.fz (.int d.2)]:TSt) N):=fun l hl hb=>by
    rw[xgh q0,xkh]
    have:q.toNat<l.length:=by omega
    rw[xke this]
    exact⟨rfl,hN _ ⟨_,hb _ (xkl this),rfl⟩⟩
   refine go [(1000,-999),(-1000,7),(r.1,r.2.1),(0,1000)] rfl fun d hd=>?_
   simp only[xkE,xkT,xls] at hd
   unfold Bx at *
   rcases hd with rfl | rfl | rfl | rfl<;>simp only at *<;>omega
 rintro _ ⟨d,bx,rfl⟩
 refine x_ (fun τ=>∃d:D2,xhh d∧τ=[.sc ns,.fz (.int kk),.st,.fz (.tup (rows.map trR)),.fz (.lst ((wd rows).map yW)),.fz (.int tt),.fz (.int d.1),.fz (.int d.2)]) ?_ (fun N hN=>?_)
 rotate_left
 ·refine xS (b:=decide (d.1=0)) (fun c=>xS (b:=decide (d.2=0)) (fun c2=>?_) (fun c2=>?_)) (fun c=>?_)
  ·exact hN _ ⟨(d.1,-2),⟨by unfold Bx at *;simp only;omega,fun z=>by have:=xlk Prod.snd z;simp at this⟩,rfl⟩
  ·exact hN _ ⟨d,⟨bx,fun z=>xlq c2 (by rw[z])⟩,rfl⟩
  ·exact hN _ ⟨d,⟨bx,fun z=>xlq c (by rw[z])⟩,rfl⟩
 rintro _ ⟨d,db,rfl⟩
 cases e:wd rows with
 | nil =>
  exact⟨aX rfl,⟨_,rfl⟩,rfl,⟨rows,_,_,rfl,hf,FR,e⟩,xcu 3,hN3 _ ⟨_,_,_,by rw[e]⟩⟩
 | cons v vs =>
  exact⟨aX (uB yW (fun v=>xag (plc v)) _),rows,d,by rw[e],hf,FR,by rw[e];simp,db,hN3 _ ⟨_,_,_,by rw[e]⟩⟩
end
end K11
namespace K11
open PySem L2 Trn
theorem all_mk {l:PySem.W.OpenLaw}{w:World}{K:PySem.W.Frag}{h:Heap}{mg:Str→Option Value}{fa:Addr}{fn c T:Addr}{od an:Option Addr}{sl:Array (Option Value)}{oc kV dc pm ct:Value}{a_CutError a_NoField a_NoWeights a_NoCut a_Nothing a_NoTurn a_NoCorner a_NoNumber a_NoText a_NoLine a_NoDeed:Addr}{tc1:Tok}(X:K.In h)(G:h.Ns mainGlobals mg)(hfa:mg "law" = some (.ref fa))
  (d1:DD K "is_whole" gk) (d2:DD K "greatest_divisor" wD) (d3:DD K "beyond" aO) (d4:DD K "is_ahead" gj) (d5:DD K "turn_to" dw) (d6:DD K "is_near" jD) (d7:DD K "direction_of" vp) (d8:DD K "cut_of" rW) (d9:DD K "_law_cell_at" vx) (d10:DD K "_law_take" kY) (d11:DD K "_law_divisor" vv) (d12:DD K "_law_less" jo) (d13:DD K "_law_whole" qU) (d14:DD K "are_whole" vW) (d15:DD K "lowest" r6) (d16:DD K "where_crossed" wy) (d17:DD K "from_least" qN) (d18:DD K "furthest" j8) (d19:DD K "points_back" qd) (d20:DD K "need_turn" k_) (d21:DD K "next_to_the_left" wg) (d22:DD K "whole_sum" uN) (d23:DD K "_law_state" q9) (d24:DD K "_law_field" ud) (d25:DD K "_law_low" jX) (d26:DD K "_law_is_fraction" wo) (d27:DD K "plus" xa8) (d28:DD K "times" bR) (d29:DD K "places_of" v8) (d30:DD K "cut_piece" k8) (d31:DD K "is_row" a_) (d32:DD K "go_round" j5) (d33:DD K "is_direction" vh) (d34:DD K "sides_among" vV) (d35:DD K "sum_of" ff) (d36:DD K "_law_crossing" uG) (d37:DD K "_law_value" qB) (d38:DD K "_law_minus" qE) (d39:DD K "_law_times" qy) (d40:DD K "_law_plus" js) (d41:DD K "cut_down" j_) (d42:DD K "value" pC) (d43:DD K "is_field_row" vn) (d44:DD K "parts" cO) (d45:DD K "paper_of" gu) (d46:DD K "_law_keeps" qO) (d47:DD K "_law_cross" qt) (d48:DD K "_law_greatest" uC) (d49:DD K "_law_summed" vN) (d50:DD K "piece_left" qM) (d51:DD K "is_tight" j0) (d52:DD K "weights_towards" wN) (d53:DD K "_law_all_left" we) (d54:DD K "_law_cut" j2) (d55:DD K "corners_left" vy) (d56:DD K "tight_numbers" wx) (d57:DD K "_law_ring" wI) (d58:DD K "is_field" vH) (d59:DD K "sides_at" jW) (d60:DD K "_law_corners" w_) (d61:DD K "need_field" kF) (d62:DD K "corners" dS) (d63:DD K "cut_towards" y_) (d64:DD K "_law_right" ue) (d65:DD K "_law_refused" wY)
  (aN:PySem.W.nsIn K mainGlobals "law" = some (some (.ref fn))) (ln:K.lookup fn=some ⟨oc,od,.func (PySem.W.fnOf "law" "law" (wO sr) (yV sr) (xf sr) .none kV dc pm an (.ref c) ct),sl⟩) (cn:PySem.W.codeIn K (.ref c) "law" = true) (kn:PySem.W.keepIn K (.ref fn)=true)
  (z1:PySem.W.nsIn K mainGlobals "len" = some none)
  (z2:PySem.W.nsIn K mainGlobals "range" = some none)
  (z3:PySem.W.nsIn K mainGlobals "max" = some none)
  (z4:PySem.W.nsIn K mainGlobals "min" = some none)
  (z5:PySem.W.nsIn K mainGlobals "abs" = some none)
  (z6:PySem.W.nsIn K mainGlobals "isinstance" = some none)
  (z7:PySem.W.nsIn K mainGlobals "tuple" = some none)
  (z8:PySem.W.nsIn K mainGlobals "list" = some none)
  (z9:PySem.W.nsIn K mainGlobals "int" = some none)
  (z10:PySem.W.nsIn K mainGlobals "bool" = some none)
  (z11:PySem.W.nsIn K mainGlobals "str" = some none)
  (z12:PySem.W.nsIn K mainGlobals "dict" = some none)
  (z13:PySem.W.nsIn K mainGlobals "all" = some none)
  (z14:PySem.W.nsIn K mainGlobals "zip" = some none)
  (z15:PySem.W.nsIn K mainGlobals "enumerate" = some none)
  (z16:PySem.W.nsIn K mainGlobals "ValueError" = some none)
  (y1:PySem.W.nsIn K mainGlobals "FAR" = some (some (.int 60001 tc1)))
  (k_CutError:PySem.W.nsIn K mainGlobals "CutError" = some (some (.ref a_CutError)))
  (k_NoField:PySem.W.nsIn K mainGlobals "NoField" = some (some (.ref a_NoField)))
  (k_NoWeights:PySem.W.nsIn K mainGlobals "NoWeights" = some (some (.ref a_NoWeights)))
  (k_NoCut:PySem.W.nsIn K mainGlobals "NoCut" = some (some (.ref a_NoCut)))
  (k_Nothing:PySem.W.nsIn K mainGlobals "Nothing" = some (some (.ref a_Nothing)))
  (k_NoTurn:PySem.W.nsIn K mainGlobals "NoTurn" = some (some (.ref a_NoTurn)))
  (k_NoCorner:PySem.W.nsIn K mainGlobals "NoCorner" = some (some (.ref a_NoCorner)))
  (k_NoNumber:PySem.W.nsIn K mainGlobals "NoNumber" = some (some (.ref a_NoNumber)))
  (k_NoText:PySem.W.nsIn K mainGlobals "NoText" = some (some (.ref a_NoText)))
  (k_NoLine:PySem.W.nsIn K mainGlobals "NoLine" = some (some (.ref a_NoLine)))
  (k_NoDeed:PySem.W.nsIn K mainGlobals "NoDeed" = some (some (.ref a_NoDeed)))
  (Z_Nothing:lM K a_Nothing) (e_Nothing:PySem.W.exmOne K (.ref a_Nothing) (.ref a_CutError)=some true) (v_Nothing:PySem.W.kitOne K (.ref a_Nothing) (.type "ValueError")=some true) (x_Nothing:PySem.W.excIn K a_Nothing xiO "ValueError.__new__" = true)
  (i_Nothing_NoField:PySem.W.kitOne K (.ref a_Nothing) (.ref a_NoField)=some (decide (3=0))) (i_Nothing_NoWeights:PySem.W.kitOne K (.ref a_Nothing) (.ref a_NoWeights)=some (decide (3=1))) (i_Nothing_NoCut:PySem.W.kitOne K (.ref a_Nothing) (.ref a_NoCut)=some (decide (3=2))) (i_Nothing_Nothing:PySem.W.kitOne K (.ref a_Nothing) (.ref a_Nothing)=some (decide (3=3))) (i_Nothing_NoTurn:PySem.W.kitOne K (.ref a_Nothing) (.ref a_NoTurn)=some (decide (3=4))) (i_Nothing_NoCorner:PySem.W.kitOne K (.ref a_Nothing) (.ref a_NoCorner)=some (decide (3=5))) (i_Nothing_NoNumber:PySem.W.kitOne K (.ref a_Nothing) (.ref a_NoNumber)=some (decide (3=6))) (i_Nothing_NoText:PySem.W.kitOne K (.ref a_Nothing) (.ref a_NoText)=some (decide (3=7))) (i_Nothing_NoLine:PySem.W.kitOne K (.ref a_Nothing) (.ref a_NoLine)=some (decide (3=8))) (i_Nothing_NoDeed:PySem.W.kitOne K (.ref a_Nothing) (.ref a_NoDeed)=some (decide (3=9)))
  (hct:xfL K=some (T,("law.<locals>.<lambda>" : Str))) (hTg:mainGlobals≠T) (cC:∀h,K.In h→PySem.W.CodeHd h c T) (bA:∀h,Mod K mg h→h.BuiltinsAt mg T) :
  ∃fd:FuncData,(∀(s:Shared) (v:Value),BindsTo s fd ⟨[v],[]⟩ [("_law_script", v)])∧∀base:Heap,Mod K mg base→aD l.prog w K mg base CX0 13 fa fd ["_law_script"] (dA K):=by
 have e:=hfa.symm.trans (PySem.W.mg_of X G aN)
 cases e
 obtain⟨f1,e1,a1,F1⟩:=d1
 obtain⟨f2,e2,a2,F2⟩:=d2
 obtain⟨f3,e3,a3,F3⟩:=d3
 obtain⟨f4,e4,a4,F4⟩:=d4
 obtain⟨f5,e5,a5,F5⟩:=d5
 obtain⟨f6,e6,a6,F6⟩:=d6
 obtain⟨f7,e7,a7,F7⟩:=d7
 obtain⟨f8,e8,a8,F8⟩:=d8
 obtain⟨f9,e9,a9,F9⟩:=d9
 obtain⟨f10,e10,a10,F10⟩:=d10
 obtain⟨f11,e11,a11,F11⟩:=d11
 obtain⟨f12,e12,a12,F12⟩:=d12
 obtain⟨f13,e13,a13,F13⟩:=d13
 obtain⟨f14,e14,a14,F14⟩:=d14
 obtain⟨f15,e15,a15,F15⟩:=d15
 obtain⟨f16,e16,a16,F16⟩:=d16
 obtain⟨f17,e17,a17,F17⟩:=d17
 obtain⟨f18,e18,a18,F18⟩:=d18
 obtain⟨f19,e19,a19,F19⟩:=d19
 obtain⟨f20,e20,a20,F20⟩:=d20
 obtain⟨f21,e21,a21,F21⟩:=d21
 obtain⟨f22,e22,a22,F22⟩:=d22
 obtain⟨f23,e23,a23,F23⟩:=d23
 obtain⟨f24,e24,a24,F24⟩:=d24
 obtain⟨f25,e25,a25,F25⟩:=d25
 obtain⟨f26,e26,a26,F26⟩:=d26
 obtain⟨f27,e27,a27,F27⟩:=d27
 obtain⟨f28,e28,a28,F28⟩:=d28
 obtain⟨f29,e29,a29,F29⟩:=d29
 obtain⟨f30,e30,a30,F30⟩:=d30
 obtain⟨f31,e31,a31,F31⟩:=d31
 obtain⟨f32,e32,a32,F32⟩:=d32
 obtain⟨f33,e33,a33,F33⟩:=d33
 obtain⟨f34,e34,a34,F34⟩:=d34
 obtain⟨f35,e35,a35,F35⟩:=d35
 obtain⟨f36,e36,a36,F36⟩:=d36
 obtain⟨f37,e37,a37,F37⟩:=d37
 obtain⟨f38,e38,a38,F38⟩:=d38
 obtain⟨f39,e39,a39,F39⟩:=d39
 obtain⟨f40,e40,a40,F40⟩:=d40
 obtain⟨f41,e41,a41,F41⟩:=d41
 obtain⟨f42,e42,a42,F42⟩:=d42
 obtain⟨f43,e43,a43,F43⟩:=d43
 obtain⟨f44,e44,a44,F44⟩:=d44
 obtain⟨f45,e45,a45,F45⟩:=d45
 obtain⟨f46,e46,a46,F46⟩:=d46
 obtain⟨f47,e47,a47,F47⟩:=d47
 obtain⟨f48,e48,a48,F48⟩:=d48
 obtain⟨f49,e49,a49,F49⟩:=d49
 obtain⟨f50,e50,a50,F50⟩:=d50
 obtain⟨f51,e51,a51,F51⟩:=d51
 obtain⟨f52,e52,a52,F52⟩:=d52
 obtain⟨f53,e53,a53,F53⟩:=d53
 obtain⟨f54,e54,a54,F54⟩:=d54
 obtain⟨f55,e55,a55,F55⟩:=d55
 obtain⟨f56,e56,a56,F56⟩:=d56
 obtain⟨f57,e57,a57,F57⟩:=d57
 obtain⟨f58,e58,a58,F58⟩:=d58
 obtain⟨f59,e59,a59,F59⟩:=d59
 obtain⟨f60,e60,a60,F60⟩:=d60
 obtain⟨f61,e61,a61,F61⟩:=d61
 obtain⟨f62,e62,a62,F62⟩:=d62
 obtain⟨f63,e63,a63,F63⟩:=d63
 obtain⟨f64,e64,a64,F64⟩:=d64
 obtain⟨f65,e65,a65,F65⟩:=d65
 have FL:=xdN (st:=sr) ln cn kn
 have b1:=zJ (p1 := "thing") F1 fun _ _ _ _ _ _ _=>rfl
 have b2:=yF (p1 := "one") (p2 := "other") F2 fun _ _ _ _ _ _ _ _=>rfl
 have b3:=yF (p1 := "row") (p2 := "corner") F3 fun _ _ _ _ _ _ _ _=>rfl
 have b4:=yF (p1 := "one") (p2 := "other") F4 fun _ _ _ _ _ _ _ _=>rfl
 have b5:=yF (p1 := "one") (p2 := "other") F5 fun _ _ _ _ _ _ _ _=>rfl
 have b6:=zJ (p1 := "place") F6 fun _ _ _ _ _ _ _=>rfl
 have b7:=zJ (p1 := "row") F7 fun _ _ _ _ _ _ _=>rfl
 have b8:=zJ (p1 := "totals") F8 fun _ _ _ _ _ _ _=>rfl
 have b9:=yF (p1 := "_law_script") (p2 := "_law_k") F9 fun _ _ _ _ _ _ _ _=>rfl
 have b10:=yF (p1 := "_law_state_here") (p2 := "_law_many") F10 fun _ _ _ _ _ _ _ _=>rfl
 have b11:=yF (p1 := "_law_one") (p2 := "_law_other") F11 fun _ _ _ _ _ _ _ _=>rfl
 have b12:=yF (p1 := "_law_one") (p2 := "_law_other") F12 fun _ _ _ _ _ _ _ _=>rfl
 have b13:=zJ (p1 := "_law_thing") F13 fun _ _ _ _ _ _ _=>rfl
 have b14:=zJ (p1 := "things") F14 fun _ _ _ _ _ _ _=>rfl
 have b15:=yF (p1 := "top") (p2 := "bottom") F15 fun _ _ _ _ _ _ _ _=>rfl
 have b16:=jR (p1 := "row") (p2 := "one") (p3 := "other") F16 fun _ _ _ _ _ _ _ _ _=>rfl
 have b17:=zJ (p1 := "piece") F17 fun _ _ _ _ _ _ _=>rfl
 have b18:=jR (p1 := "first") (p2 := "rows") (p3 := "sign") F18 fun _ _ _ _ _ _ _ _ _=>rfl
 have b19:=yF (p1 := "first") (p2 := "rows") F19 fun _ _ _ _ _ _ _ _=>rfl
 have b20:=yF (p1 := "one") (p2 := "other") F20 fun _ _ _ _ _ _ _ _=>rfl
 have b21:=jR (p1 := "rows") (p2 := "numbers") (p3 := "number") F21 fun _ _ _ _ _ _ _ _ _=>rfl
 have b22:=yF (p1 := "rows") (p2 := "weights") F22 fun _ _ _ _ _ _ _ _=>rfl
 have b23:=yF (p1 := "_law_script") (p2 := "_law_k") F23 fun _ _ _ _ _ _ _ _=>rfl
 have b24:=zJ (p1 := "_law_state_here") F24 fun _ _ _ _ _ _ _=>rfl
 have b25:=yF (p1 := "_law_top") (p2 := "_law_bottom") F25 fun _ _ _ _ _ _ _ _=>rfl
 have b26:=zJ (p1 := "_law_thing") F26 fun _ _ _ _ _ _ _=>rfl
 have b27:=yF (p1 := "one") (p2 := "other") F27 fun _ _ _ _ _ _ _ _=>rfl
 have b28:=yF (p1 := "whole") (p2 := "fraction") F28 fun _ _ _ _ _ _ _ _=>rfl
 have b29:=zJ (p1 := "piece") F29 fun _ _ _ _ _ _ _=>rfl
 have b30:=yF (p1 := "piece") (p2 := "row") F30 fun _ _ _ _ _ _ _ _=>rfl
 have b31:=zJ (p1 := "thing") F31 fun _ _ _ _ _ _ _=>rfl
 have b32:=zJ (p1 := "rows") F32 fun _ _ _ _ _ _ _=>rfl
 have b33:=zJ (p1 := "thing") F33 fun _ _ _ _ _ _ _=>rfl
 have b34:=yF (p1 := "rows") (p2 := "numbers") F34 fun _ _ _ _ _ _ _ _=>rfl
 have b35:=yF (p1 := "rows") (p2 := "weights") F35 fun _ _ _ _ _ _ _ _=>rfl
 have b36:=yF (p1 := "_law_one") (p2 := "_law_other") F36 fun _ _ _ _ _ _ _ _=>rfl
 have b37:=yF (p1 := "_law_row") (p2 := "_law_place") F37 fun _ _ _ _ _ _ _ _=>rfl
 have b38:=yF (p1 := "_law_one") (p2 := "_law_other") F38 fun _ _ _ _ _ _ _ _=>rfl
 have b39:=yF (p1 := "_law_one") (p2 := "_law_other") F39 fun _ _ _ _ _ _ _ _=>rfl
 have b40:=yF (p1 := "_law_one") (p2 := "_law_other") F40 fun _ _ _ _ _ _ _ _=>rfl
 have b41:=yF (p1 := "piece") (p2 := "rows") F41 fun _ _ _ _ _ _ _ _=>rfl
 have b42:=yF (p1 := "row") (p2 := "place") F42 fun _ _ _ _ _ _ _ _=>rfl
 have b43:=zJ (p1 := "thing") F43 fun _ _ _ _ _ _ _=>rfl
 have b44:=jR (p1 := "one") (p2 := "other") (p3 := "thing") F44 fun _ _ _ _ _ _ _ _ _=>rfl
 have b45:=yF (p1 := "field") (p2 := "weights") F45 fun _ _ _ _ _ _ _ _=>rfl
 have b46:=yF (p1 := "_law_row") (p2 := "_law_place") F46 fun _ _ _ _ _ _ _ _=>rfl
 have b47:=jR (p1 := "_law_one") (p2 := "_law_other") (p3 := "_law_third") F47 fun _ _ _ _ _ _ _ _ _=>rfl
 have b48:=jR (p1 := "_law_places") (p2 := "_law_a") (p3 := "_law_b") F48 fun _ _ _ _ _ _ _ _ _=>rfl
 have b49:=yF (p1 := "_law_rows") (p2 := "_law_weights") F49 fun _ _ _ _ _ _ _ _=>rfl
 have b50:=zJ (p1 := "rows") F50 fun _ _ _ _ _ _ _=>rfl
 have b51:=yF (p1 := "row") (p2 := "place") F51 fun _ _ _ _ _ _ _ _=>rfl
 have b52:=jR (p1 := "field") (p2 := "pair") (p3 := "direction") F52 fun _ _ _ _ _ _ _ _ _=>rfl
 have b53:=jR (p1 := "_law_here") (p2 := "_law_place") (p3 := "_law_some") F53 fun _ _ _ _ _ _ _ _ _=>rfl
 have b54:=yF (p1 := "_law_rows") (p2 := "_law_weights") F54 fun _ _ _ _ _ _ _ _=>rfl
 have b55:=zJ (p1 := "rows") F55 fun _ _ _ _ _ _ _=>rfl
 have b56:=yF (p1 := "rows") (p2 := "place") F56 fun _ _ _ _ _ _ _ _=>rfl
 have b57:=zJ (p1 := "_law_places") F57 fun _ _ _ _ _ _ _=>rfl
 have b58:=zJ (p1 := "thing") F58 fun _ _ _ _ _ _ _=>rfl
 have b59:=yF (p1 := "field") (p2 := "place") F59 fun _ _ _ _ _ _ _ _=>rfl
 have b60:=zJ (p1 := "_law_rows") F60 fun _ _ _ _ _ _ _=>rfl
 have b61:=zJ (p1 := "thing") F61 fun _ _ _ _ _ _ _=>rfl
 have b62:=zJ (p1 := "field") F62 fun _ _ _ _ _ _ _=>rfl
 have b63:=jR (p1 := "field") (p2 := "a") (p3 := "b") F63 fun _ _ _ _ _ _ _ _ _=>rfl
 have b64:=xgw (p1 := "_law_field_here") (p2 := "_law_some") (p3 := "_law_a") (p4 := "_law_b") F64 fun _ _ _ _ _ _ _ _ _ _=>rfl
 have b65:=zJ (p1 := "_law_call") F65 fun _ _ _ _ _ _ _=>rfl
 have B:Blt mg bn:=⟨fun x hx=>by
  simp only[bn,xkE,xkT,xls] at hx
  rcases hx with rfl | rfl | rfl | rfl | rfl | rfl | rfl | rfl | rfl | rfl | rfl | rfl | rfl | rfl | rfl | rfl
  ·exact PySem.W.mg_none_of X G z1
  ·exact PySem.W.mg_none_of X G z2
  ·exact PySem.W.mg_none_of X G z3
  ·exact PySem.W.mg_none_of X G z4
  ·exact PySem.W.mg_none_of X G z5
  ·exact PySem.W.mg_none_of X G z6
  ·exact PySem.W.mg_none_of X G z7
  ·exact PySem.W.mg_none_of X G z8
  ·exact PySem.W.mg_none_of X G z9
  ·exact PySem.W.mg_none_of X G z10
  ·exact PySem.W.mg_none_of X G z11
  ·exact PySem.W.mg_none_of X G z12
  ·exact PySem.W.mg_none_of X G z13
  ·exact PySem.W.mg_none_of X G z14
  ·exact PySem.W.mg_none_of X G z15
  ·exact PySem.W.mg_none_of X G z16⟩
 have dZ:=PySem.W.mg_of X G y1
 have m_CutError:=PySem.W.mg_of X G k_CutError
 have m_NoField:=PySem.W.mg_of X G k_NoField
 have m_NoWeights:=PySem.W.mg_of X G k_NoWeights
 have m_NoCut:=PySem.W.mg_of X G k_NoCut
 have m_Nothing:=PySem.W.mg_of X G k_Nothing
 have m_NoTurn:=PySem.W.mg_of X G k_NoTurn
 have m_NoCorner:=PySem.W.mg_of X G k_NoCorner
 have m_NoNumber:=PySem.W.mg_of X G k_NoNumber
 have m_NoText:=PySem.W.mg_of X G k_NoText
 have m_NoLine:=PySem.W.mg_of X G k_NoLine
 have m_NoDeed:=PySem.W.mg_of X G k_NoDeed
 refine⟨PySem.W.fnOf "law" "law" (wO sr) (yV sr) (xf sr) .none kV dc pm an (.ref c) ct,fun s v=>.of_eq rfl,fun base M=>?_⟩
 have h_:=fun z (M:Mod K mg z)=>pI (P:=l.prog) (w:=w) (base:=z) B F1 (PySem.W.mg_of X G a1) b1
 have ya:=fun z (M:Mod K mg z)=>jn (P:=l.prog) (w:=w) (base:=z) B F2 (PySem.W.mg_of X G a2) b2
 have ur:=fun z (M:Mod K mg z)=>xaL (P:=l.prog) (w:=w) (base:=z) B F3 (PySem.W.mg_of X G a3) b3
 have j4:=fun z (M:Mod K mg z)=>cS (P:=l.prog) (w:=w) (base:=z) B F4 (PySem.W.mg_of X G a4) b4
 have yk:=fun z (M:Mod K mg z)=>lg (P:=l.prog) (w:=w) (base:=z) B F5 (PySem.W.mg_of X G a5) b5
 have fu:=fun z (M:Mod K mg z)=>l6 (P:=l.prog) (w:=w) (base:=z) B F6 (PySem.W.mg_of X G a6) b6
 have wZ:=fun z (M:Mod K mg z)=>fX (P:=l.prog) (w:=w) (base:=z) B F7 (PySem.W.mg_of X G a7) b7
 have rP:=fun z (M:Mod K mg z)=>xbl (P:=l.prog) (w:=w) (base:=z) B F8 (PySem.W.mg_of X G a8) b8
 have vt:=fun z (M:Mod K mg z)=>fV (P:=l.prog) (w:=w) (base:=z) B F9 (PySem.W.mg_of X G a9) b9
 have xT:=fun(base:Heap) (M:Mod K mg base)=>xa6 (nI (P:=l.prog) (w:=w) (base:=base) F10 (PySem.W.mg_of X G a10) b10)
 have ze:=fun z (M:Mod K mg z)=>dQ (P:=l.prog) (w:=w) (base:=z) B F11 (PySem.W.mg_of X G a11) b11
 have zW:=fun z (M:Mod K mg z)=>md (P:=l.prog) (w:=w) (base:=z) B F12 (PySem.W.mg_of X G a12) b12
 have vc:=fun z (M:Mod K mg z)=>rq (P:=l.prog) (w:=w) (base:=z) B F13 (PySem.W.mg_of X G a13) b13
 have wR:=fun z (M:Mod K mg z)=>nM (P:=l.prog) (w:=w) (base:=z) B F14 (PySem.W.mg_of X G a14) b14 (h_ z M)
 have yR:=fun z (M:Mod K mg z)=>xbk (P:=l.prog) (w:=w) (base:=z) B F15 (PySem.W.mg_of X G a15) b15 (ya z M)
 have uL:=fun z (M:Mod K mg z)=>gQ (P:=l.prog) (w:=w) (base:=z) B F16 (PySem.W.mg_of X G a16) b16 (ya z M) (ur z M)
 have qW:=fun z (M:Mod K mg z)=>rB (P:=l.prog) (w:=w) (base:=z) B F17 (PySem.W.mg_of X G a17) b17 (j4 z M)
 have kH:=fun z (M:Mod K mg z)=>br (P:=l.prog) (w:=w) (base:=z) B F18 (PySem.W.mg_of X G a18) b18 (yk z M)
 have qh:=fun z (M:Mod K mg z)=>sf (P:=l.prog) (w:=w) (base:=z) B F19 (PySem.W.mg_of X G a19) b19 (yk z M)
 have jd:=fun z (M:Mod K mg z)=>nh (P:=l.prog) (w:=w) (base:=z) B F20 (PySem.W.mg_of X G a20) b20 (yk z M)
 have wB:=fun z (M:Mod K mg z)=>jl (P:=l.prog) (w:=w) (base:=z) B F21 (PySem.W.mg_of X G a21) b21 (yk z M)
 have jb:=fun z (M:Mod K mg z)=>t8 (P:=l.prog) (w:=w) (base:=z) B F22 (PySem.W.mg_of X G a22) b22 (ya z M)
 have qI:=fun z (M:Mod K mg z)=>aW (P:=l.prog) (w:=w) (base:=z) F23 (PySem.W.mg_of X G a23) b23 (vt z M)
 have qQ:=fun z (M:Mod K mg z)=>rZ (P:=l.prog) (w:=w) (base:=z) B F24 (PySem.W.mg_of X G a24) b24 (xT z M)
 have yr:=fun z (M:Mod K mg z)=>cf (P:=l.prog) (w:=w) (base:=z) B F25 (PySem.W.mg_of X G a25) b25 (ze z M)
 have wk:=fun z (M:Mod K mg z)=>jh (P:=l.prog) (w:=w) (base:=z) B F26 (PySem.W.mg_of X G a26) b26 (vc z M) (ze z M)
 have xbx:=fun z (M:Mod K mg z)=>xeV (P:=l.prog) (w:=w) (base:=z) B F27 (PySem.W.mg_of X G a27) b27 (yR z M)
 have rE:=fun z (M:Mod K mg z)=>xcR (P:=l.prog) (w:=w) (base:=z) B F28 (PySem.W.mg_of X G a28) b28 (yR z M)
 have jj:=fun z (M:Mod K mg z)=>nV (P:=l.prog) (w:=w) (base:=z) B F29 (PySem.W.mg_of X G a29) b29 (yR z M) (qW z M)
 have je:=fun z (M:Mod K mg z)=>nZ (P:=l.prog) (w:=w) (base:=z) B F30 (PySem.W.mg_of X G a30) b30 (uL z M) (ur z M)
 have aQ:=fun z (M:Mod K mg z)=>xb3 (P:=l.prog) (w:=w) (base:=z) B F31 (PySem.W.mg_of X G a31) b31 (wR z M)
 have hZ:=fun z (M:Mod K mg z)=>pB (P:=l.prog) (w:=w) (base:=z) B F32 (PySem.W.mg_of X G a32) b32 (kH z M) (qh z M) (yk z M)
 have vA:=fun z (M:Mod K mg z)=>du (P:=l.prog) (w:=w) (base:=z) B F33 (PySem.W.mg_of X G a33) b33 (wR z M)
 have vY:=fun z (M:Mod K mg z)=>si (P:=l.prog) (w:=w) (base:=z) B F34 (PySem.W.mg_of X G a34) b34 (wB z M)
 have r_:=fun z (M:Mod K mg z)=>xbr (P:=l.prog) (w:=w) (base:=z) B F35 (PySem.W.mg_of X G a35) b35 (jb z M) (yR z M)
 have uT:=fun z (M:Mod K mg z)=>gO (P:=l.prog) (w:=w) (base:=z) B F36 (PySem.W.mg_of X G a36) b36 (yr z M)
 have wc:=fun z (M:Mod K mg z)=>tF (P:=l.prog) (w:=w) (base:=z) B F37 (PySem.W.mg_of X G a37) b37 (yr z M)
 have zj:=fun z (M:Mod K mg z)=>rS (P:=l.prog) (w:=w) (base:=z) B F38 (PySem.W.mg_of X G a38) b38 (yr z M)
 have zA:=fun z (M:Mod K mg z)=>tO (P:=l.prog) (w:=w) (base:=z) B F39 (PySem.W.mg_of X G a39) b39 (yr z M)
 have jk:=fun z (M:Mod K mg z)=>m9 (P:=l.prog) (w:=w) (base:=z) B F40 (PySem.W.mg_of X G a40) b40 (yr z M)
 have j3:=fun z (M:Mod K mg z)=>cW (P:=l.prog) (w:=w) (base:=z) B F41 (PySem.W.mg_of X G a41) b41 (je z M)
 have bM:=fun z (M:Mod K mg z)=>xc9 (P:=l.prog) (w:=w) (base:=z) B F42 (PySem.W.mg_of X G a42) b42 (xbx z M) (rE z M)
 have vg:=fun z (M:Mod K mg z)=>dB (P:=l.prog) (w:=w) (base:=z) B F43 (PySem.W.mg_of X G a43) b43 (aQ z M)
 have cg:=fun z (M:Mod K mg z)=>xc6 (P:=l.prog) (w:=w) (base:=z) B F44 (PySem.W.mg_of X G a44) b44 (jd z M) (vA z M) (yk z M) (yR z M)
 have hX:=fun z (M:Mod K mg z)=>bB (P:=l.prog) (w:=w) (base:=z) B F45 (PySem.W.mg_of X G a45) b45 (rP z M) (r_ z M)
 have qR:=fun z (M:Mod K mg z)=>rO (P:=l.prog) (w:=w) (base:=z) B F46 (PySem.W.mg_of X G a46) b46 (wc z M)
 have qH:=fun z (M:Mod K mg z)=>rG (P:=l.prog) (w:=w) (base:=z) B F47 (PySem.W.mg_of X G a47) b47 (zA z M) (zj z M)
 have uS:=fun z (M:Mod K mg z)=>gR (P:=l.prog) (w:=w) (base:=z) B F48 (PySem.W.mg_of X G a48) b48 (wc z M) (zW z M)
 have vZ:=fun z (M:Mod K mg z)=>sj (P:=l.prog) (w:=w) (base:=z) B F49 (PySem.W.mg_of X G a49) b49 (jk z M) (zA z M)
 have qA:=fun z (M:Mod K mg z)=>aY (P:=l.prog) (w:=w) (base:=z) B F50 (PySem.W.mg_of X G a50) b50 dZ (j3 z M)
 have hJ:=fun z (M:Mod K mg z)=>cE (P:=l.prog) (w:=w) (base:=z) B F51 (PySem.W.mg_of X G a51) b51 (bM z M)
 have wU:=fun z (M:Mod K mg z)=>jH (P:=l.prog) (w:=w) (base:=z) B F52 (PySem.W.mg_of X G a52) b52 (cg z M) (wZ z M)
 have uE:=fun z (M:Mod K mg z)=>gM (P:=l.prog) (w:=w) (base:=z) B F53 (PySem.W.mg_of X G a53) b53 (qH z M)
 have gm:=fun z (M:Mod K mg z)=>bV (P:=l.prog) (w:=w) (base:=z) B F54 (PySem.W.mg_of X G a54) b54 (vZ z M)
 have zf:=fun z (M:Mod K mg z)=>fE (P:=l.prog) (w:=w) (base:=z) B F55 (PySem.W.mg_of X G a55) b55 (jj z M) (qA z M)
 have uO:=fun z (M:Mod K mg z)=>gN (P:=l.prog) (w:=w) (base:=z) B F56 (PySem.W.mg_of X G a56) b56 (hJ z M)
 have jf:=fun z (M:Mod K mg z)=>nk (P:=l.prog) (w:=w) (base:=z) B F57 (PySem.W.mg_of X G a57) b57 (zW z M) (uE z M)
 have gc:=fun z (M:Mod K mg z)=>bF (P:=l.prog) (w:=w) (base:=z) B F58 (PySem.W.mg_of X G a58) b58 (hZ z M) (fu z M) (zf z M) (vg z M)
 have gv:=fun z (M:Mod K mg z)=>cA (P:=l.prog) (w:=w) (base:=z) B F59 (PySem.W.mg_of X G a59) b59 (vY z M) (uO z M)
 have vq:=fun z (M:Mod K mg z)=>fW (P:=l.prog) (w:=w) (base:=z) B F60 (PySem.W.mg_of X G a60) b60 (jf z M) (uT z M) (qR z M)
 have qu:=fun z (M:Mod K mg z)=>tP (P:=l.prog) (w:=w) (base:=z) B F61 (PySem.W.mg_of X G a61) b61 (gc z M)
 have vB:=fun z (M:Mod K mg z)=>lX (P:=l.prog) (w:=w) (base:=z) B F62 (PySem.W.mg_of X G a62) b62 (qu z M) (zf z M)
 have qj:=fun z (M:Mod K mg z)=>sk (P:=l.prog) (w:=w) (base:=z) B F63 (PySem.W.mg_of X G a63) b63 (vB z M) (hX z M) (wU z M) (gv z M)
 have ox_cut_towards__Nothing:=fun(base:Heap) (M:Mod K mg base)=>vL (P:=l.prog) (w:=w) (base:=base) B F63 (PySem.W.mg_of X G a63) b63 (xaq M m_Nothing x_Nothing) (vB base M)
 have kb:=fun z (M:Mod K mg z)=>rz (P:=l.prog) (w:=w) (base:=z) B F64 (PySem.W.mg_of X G a64) b64 (uS z M) (qj z M) (gm z M) (wk z M)
 have y4:=fun z (M:Mod K mg z)=>dM (kl:=11) (j:=3) (P:=l.prog) (w:=w) (base:=z) B F65 (PySem.W.mg_of X G a65) b65 (by decide) Z_Nothing m_CutError e_Nothing v_Nothing m_NoField i_Nothing_NoField m_NoWeights i_Nothing_NoWeights m_NoCut i_Nothing_NoCut m_Nothing i_Nothing_Nothing m_NoTurn i_Nothing_NoTurn m_NoCorner i_Nothing_NoCorner m_NoNumber i_Nothing_NoNumber m_NoText i_Nothing_NoText m_NoLine i_Nothing_NoLine m_NoDeed i_Nothing_NoDeed
 exact xha B FL (qI base M) (qQ base M) (vq base M) (xT base M) y4 (kb base M) ox_cut_towards__Nothing rfl hct hTg (cC base M.kin) (bA base M)
end K11
namespace K11
open PySem L2 Trn
def ke (k:Str)(t:Nat)(v:Value):Str×Nat×Value:=(k,t,v)
def kd (P:Params)(n:Nat)(l:List (Str×Nat×Value)):Obj:=⟨.type "dict", none,.dict ⟨l.map fun e=>⟨PyData.keyHash P e.1,.str e.1 e.2.1,e.2.2⟩⟩ n,#[]⟩
def kf (x:Str)(st:Stmt)(cd:Nat)(m:Str)(t:Nat):Obj:=⟨.type "function", none,.func (PySem.W.fnOf x x (wO st) (yV st) (xf st) .none .none .none (.str m t) none (.ref cd) .none),#[]⟩
def kp (x:Str)(st:Stmt):Obj:=⟨.none,none,.func { name:=x,qualname:=x,params:=wO st,body:=.stmts (yV st),scope:=xf st,globals:=0,closure:=[],defaults:=.none,kwdefaults:=.none },#[]⟩
def kc (x:Str)(a l n m c d:Nat)(u v:Value)(e t f:Nat):Obj:=⟨.type "code", none,.fields ⟨[.str x a,.str x (a+1),.str "/claim/cut.py" (a+2),.int l 0,.int n 0,.int 0 0,.int 0 0,.int m 0,.ref c,.bool true,.int 181 0,.ref d,.none,u,v,.ref e,.int t 0,.int l 0,.str "/claim/cut.py" f]⟩,#[]⟩
def k0:Obj:=⟨.none,none,.fields ⟨[]⟩,#[]⟩
def k1 (l:List Value):Obj:=⟨.type "tuple", none,.seq ⟨l⟩ 0,#[]⟩
def tp (p:Program)(i:Nat):Stmt:=p.main.body.getD i (.Pass ⟨0,0,0,0⟩)
def tq:List (Int×Nat):=[(2,20),(4,33),(6,45),(8,57),(10,69),(12,81),(14,93),(16,105),(18,117),(20,129),(22,141),(25,153),(27,158),(29,165),(34,172),(37,179),(39,186),(43,193),(45,200),(47,207),(51,212),(53,219),(64,226),(68,231),(73,238),(79,245),(82,252),(86,259),(88,266),(91,273),(93,280),(102,287),(108,294),(114,299),(120,306),(125,311),(127,318),(131,325),(134,330),(137,337),(145,344),(150,351),(155,358),(157,365),(164,372),(171,379),(173,386),(182,391),(185,396),(195,403),(200,410),(202,415),(211,422),(215,429),(220,436),(229,441),(254,448),(258,455),(263,462),(269,469),(272,476),(275,483),(277,490),(279,497),(281,504),(284,509),(298,514),(300,519),(308,526),(315,533),(317,540),(323,547),(328,554),(330,561),(334,566),(347,571),(360,578)]
def tl (n:Nat):Obj:=⟨.none,none,.fields ⟨(tq.take n).flatMap fun x=>[.int x.1 0,.int 0 0,.ref x.2]⟩,#[]⟩
def kx (n:Str)(b a s m p q:Nat):Obj:=⟨.type "type", none,.cls { name:=n,bases:=[.ref b],mro:=[.ref a,.ref b,.type "ValueError", .type "Exception", .type "BaseException", .type "object"],ns:=s,qualname:=n,hasDict:=true,slotNames:=[],subclasses:=[],abstract:=false,hasDel:=false },⟨[some (.ref m),none,some (.str n p),some (.str n q),some (.builtin "ValueError.__new__"),some (.bool true)]⟩⟩
def ky (x:Str)(a b c:Nat)(l:Int)(d e:Nat)(i j:Int)(k:Nat):Obj:=⟨.type "code", none,.fields ⟨[.str x a,.str x b,.str "/claim/cut.py" c,.int l 0,.int 0 0,.int 0 0,.int 0 0,.int 0 0,.ref d,.bool false,.int 181 0,.ref e,.none,.none,.none,.none,.int i 0,.int j 0,.str "/claim/cut.py" k]⟩,#[]⟩
def kz (a b c:Nat)(x:Str)(d e:Nat):Obj:=⟨.type "frame", none,.plain,⟨[some (.ref a),some (.ref b),some (.ref c),none,some (.str x d),none,some (.ref e)]⟩⟩
def kv (x:String)(v:Value):Obj:=⟨.type "builtin_function_or_method", none,.fields ⟨[.builtin x,v]⟩,#[]⟩
def kq (a:Nat)(x:Str)(b c:Nat)(y:Str)(d e:Nat)(i:Int)(f g h:Nat):List (Str×Nat×Value):=ke "__module__" a (.str x b)::ke "__qualname__" c (.str y d)::ke "__firstlineno__" e (.int i f)::ke "__static_attributes__" g (.ref h)::[]
def kr (a:Nat)(x:Str)(b e:Nat)(i:Int)(f g h d:Nat):List (Str×Nat×Value):=ke "__module__" a (.str x b)::ke "__firstlineno__" e (.int i f)::ke "__static_attributes__" g (.ref h)::ke "__doc__" d .none::[]
def lw:Str := "law_roundcuts_k11_least_cuts_of_directions"
def lw1:Str := "roundcuts.errors"
def lw2:Str := "roundcuts.fields"
def lw3:Str := "roundcuts.fractions"
def lw4:Str := "roundcuts.pieces"
def lw5:Str := "roundcuts.rows"
def lw6:Str := "roundcuts.sides"
def lw7:Str := "roundcuts.sums"
def lw8:Str := "roundcuts.turns"
def mn:List (Str×Nat×Value):=ke "__name__" 165 (.str lw 730)::ke "__doc__" 166 .none::ke "__package__" 167 .none::ke "__loader__" 168 (.builtin "__main__.__loader__#opaque")::ke "__spec__" 169 .none::ke "__annotations__" 170 (.ref 6)::ke "__builtins__" 171 (.ref 4)::ke "__file__" 173 (.str "/claim/cut.py" 172)::ke "__cached__" 174 .none::ke "CutError" 206 (.ref 24)::ke "NoField" 222 (.ref 37)::ke "NoWeights" 238 (.ref 49)::ke "NoCut" 254 (.ref 61)::ke "Nothing" 270 (.ref 73)::ke "NoTurn" 286 (.ref 85)::ke "NoCorner" 302 (.ref 97)::ke "NoNumber" 318 (.ref 109)::ke "NoText" 334 (.ref 121)::ke "NoLine" 350 (.ref 133)::ke "NoDeed" 366 (.ref 145)::ke "is_whole" 375 (.ref 154)::ke "are_whole" 381 (.ref 159)::ke "greatest_divisor" 389 (.ref 166)::ke "lowest" 398 (.ref 173)::ke "plus" 406 (.ref 180)::ke "times" 414 (.ref 187)::ke "FAR" 418 (.int 60001 417)::ke "corners_left" 425 (.ref 194)::ke "piece_left" 432 (.ref 201)::ke "cut_down" 441 (.ref 208)::ke "places_of" 447 (.ref 213)::ke "cut_piece" 460 (.ref 220)::ke "beyond" 474 (.ref 227)::ke "where_crossed" 480 (.ref 232)::ke "from_least" 490 (.ref 239)::ke "is_ahead" 498 (.ref 246)::ke "is_row" 507 (.ref 253)::ke "value" 515 (.ref 260)::ke "is_tight" 525 (.ref 267)::ke "turn_to" 533 (.ref 274)::ke "go_round" 543 (.ref 281)::ke "furthest" 554 (.ref 288)::ke "points_back" 563 (.ref 295)::ke "is_field" 571 (.ref 300)::ke "is_field_row" 581 (.ref 307)::ke "is_near" 587 (.ref 312)::ke "need_field" 594 (.ref 319)::ke "corners" 603 (.ref 326)::ke "tight_numbers" 609 (.ref 331)::ke "parts" 623 (.ref 338)::ke "need_turn" 632 (.ref 345)::ke "is_direction" 639 (.ref 352)::ke "sides_at" 649 (.ref 359)::ke "sides_among" 660 (.ref 366)::ke "next_to_the_left" 671 (.ref 373)::ke "direction_of" 678 (.ref 380)::ke "weights_towards" 691 (.ref 387)::ke "sum_of" 699 (.ref 392)::ke "whole_sum" 705 (.ref 397)::ke "cut_of" 715 (.ref 404)::ke "paper_of" 723 (.ref 411)::ke "cut_towards" 729 (.ref 416)::ke "_law_cell_at" 739 (.ref 423)::ke "_law_state" 748 (.ref 430)::ke "_law_take" 758 (.ref 437)::ke "_law_field" 764 (.ref 442)::ke "_law_divisor" 772 (.ref 449)::ke "_law_low" 781 (.ref 456)::ke "_law_crossing" 791 (.ref 463)::ke "_law_value" 801 (.ref 470)::ke "_law_keeps" 810 (.ref 477)::ke "_law_less" 818 (.ref 484)::ke "_law_minus" 826 (.ref 491)::ke "_law_times" 834 (.ref 498)::ke "_law_cross" 844 (.ref 505)::ke "_law_ring" 850 (.ref 510)::ke "_law_all_left" 856 (.ref 515)::ke "_law_corners" 862 (.ref 520)::ke "_law_greatest" 874 (.ref 527)::ke "_law_plus" 882 (.ref 534)::ke "_law_summed" 894 (.ref 541)::ke "_law_cut" 905 (.ref 548)::ke "_law_whole" 912 (.ref 555)::ke "_law_is_fraction" 919 (.ref 562)::ke "_law_refused" 925 (.ref 567)::ke "_law_right" 931 (.ref 572)::ke "law" 945 (.ref 579)::[]
def ob (p:Program)(P:Params):List Obj:=k1 [] ::
 tl 77 ::
 ky "<module>" 182 183 184 1 11 12 185 1 186 ::
 kz 13 3 3 "__main__" 164 0 ::
 k1 [(.type "ValueError")] ::
 kv "type.__prepare__" (.type "type") ::
 kd P 4 (kq 196 lw1 187 198 "CutError" 197 200 2 199 201 22) ::
 k1 [] ::
 k0 ::
 ky "CutError" 191 192 193 2 18 19 194 2 195 ::
 kz 20 3 17 lw1 187 0 ::
 k1 [] ::
 kd P 3 (ke "__module__" 196 (.str lw1 187)::ke "__firstlineno__" 200 (.int 2 199)::ke "__static_attributes__" 201 (.ref 22)::ke "__weakref__" 203 (.ref 25)::ke "__doc__" 204 .none::[]) ::
 ⟨(.type "type"),none,.cls { name := "CutError", bases:=[(.type "ValueError")],mro:=[(.ref 24),(.type "ValueError"),(.type "Exception"),(.type "BaseException"),(.type "object")],ns:=23,qualname := "CutError", hasDict:=true,slotNames:=[],subclasses:=[(.ref 37),(.ref 49),(.ref 61),(.ref 73),(.ref 85),(.ref 97),(.ref 109),(.ref 121),(.ref 133),(.ref 145)],abstract:=false,hasDel:=false },⟨[some (.ref 15),none,some (.str "CutError" 189),some (.str "CutError" 197),some (.builtin "ValueError.__new__"),some (.bool true)]⟩⟩ ::
 ⟨(.type "getset_descriptor"),none,.fields ⟨[(.str "__weakref__" 202),(.ref 24),(.builtin "ExceptionGroup.__weakref__"),.none]⟩,#[]⟩ ::
 ⟨(.type "super"),none,.fields ⟨[(.ref 24),(.ref 24),(.ref 24)]⟩,#[]⟩ ::
 kv "object.__init_subclass__" (.ref 24) ::
 k1 [(.ref 24)] ::
 kv "type.__prepare__" (.type "type") ::
 kd P 4 (kq 214 lw1 187 216 "NoField" 215 218 4 217 219 35) ::
 k1 [] ::
 k0 ::
 ky "NoField" 209 210 211 4 31 32 212 4 213 ::
 kz 33 3 30 lw1 187 0 ::
 k1 [] ::
 kd P 2 (kr 214 lw1 187 218 4 217 219 35 220) ::
 kx "NoField" 24 37 36 28 207 215 ::
 ⟨(.type "super"),none,.fields ⟨[(.ref 37),(.ref 37),(.ref 37)]⟩,#[]⟩ ::
 kv "object.__init_subclass__" (.ref 37) ::
 k1 [(.ref 24)] ::
 kv "type.__prepare__" (.type "type") ::
 kd P 4 (kq 230 lw1 187 232 "NoWeights" 231 234 6 233 235 47) ::
 k1 [] ::
 k0 ::
 ky "NoWeights" 225 226 227 6 43 44 228 6 229 ::
 kz 45 3 42 lw1 187 0 ::
 k1 [] ::
 kd P 2 (kr 230 lw1 187 234 6 233 235 47 236) ::
 kx "NoWeights" 24 49 48 40 223 231 ::
 ⟨(.type "super"),none,.fields ⟨[(.ref 49),(.ref 49),(.ref 49)]⟩,#[]⟩ ::
 kv "object.__init_subclass__" (.ref 49) ::
 k1 [(.ref 24)] ::
 kv "type.__prepare__" (.type "type") ::
 kd P 4 (kq 246 lw1 187 248 "NoCut" 247 250 8 249 251 59) ::
 k1 [] ::
 k0 ::
 ky "NoCut" 241 242 243 8 55 56 244 8 245 ::
 kz 57 3 54 lw1 187 0 ::
 k1 [] ::
 kd P 2 (kr 246 lw1 187 250 8 249 251 59 252) ::
 kx "NoCut" 24 61 60 52 239 247 ::
 ⟨(.type "super"),none,.fields ⟨[(.ref 61),(.ref 61),(.ref 61)]⟩,#[]⟩ ::
 kv "object.__init_subclass__" (.ref 61) ::
 k1 [(.ref 24)] ::
 kv "type.__prepare__" (.type "type") ::
 kd P 4 (kq 262 lw1 187 264 "Nothing" 263 266 10 265 267 71) ::
 k1 [] ::
 k0 ::
 ky "Nothing" 257 258 259 10 67 68 260 10 261 ::
 kz 69 3 66 lw1 187 0 ::
 k1 [] ::
 kd P 2 (kr 262 lw1 187 266 10 265 267 71 268) ::
 kx "Nothing" 24 73 72 64 255 263 ::
 ⟨(.type "super"),none,.fields ⟨[(.ref 73),(.ref 73),(.ref 73)]⟩,#[]⟩ ::
 kv "object.__init_subclass__" (.ref 73) ::
 k1 [(.ref 24)] ::
 kv "type.__prepare__" (.type "type") ::
 kd P 4 (kq 278 lw1 187 280 "NoTurn" 279 282 12 281 283 83) ::
 k1 [] ::
 k0 ::
 ky "NoTurn" 273 274 275 12 79 80 276 12 277 ::
 kz 81 3 78 lw1 187 0 ::
 k1 [] ::
 kd P 2 (kr 278 lw1 187 282 12 281 283 83 284) ::
 kx "NoTurn" 24 85 84 76 271 279 ::
 ⟨(.type "super"),none,.fields ⟨[(.ref 85),(.ref 85),(.ref 85)]⟩,#[]⟩ ::
 kv "object.__init_subclass__" (.ref 85) ::
 k1 [(.ref 24)] ::
 kv "type.__prepare__" (.type "type") ::
 kd P 4 (kq 294 lw1 187 296 "NoCorner" 295 298 14 297 299 95) ::
 k1 [] ::
 k0 ::
 ky "NoCorner" 289 290 291 14 91 92 292 14 293 ::
 kz 93 3 90 lw1 187 0 ::
 k1 [] ::
 kd P 2 (kr 294 lw1 187 298 14 297 299 95 300) ::
 kx "NoCorner" 24 97 96 88 287 295 ::
 ⟨(.type "super"),none,.fields ⟨[(.ref 97),(.ref 97),(.ref 97)]⟩,#[]⟩ ::
 kv "object.__init_subclass__" (.ref 97) ::
 k1 [(.ref 24)] ::
 kv "type.__prepare__" (.type "type") ::
 kd P 4 (kq 310 lw1 187 312 "NoNumber" 311 314 16 313 315 107) ::
 k1 [] ::
 k0 ::
 ky "NoNumber" 305 306 307 16 103 104 308 16 309 ::
 kz 105 3 102 lw1 187 0 ::
 k1 [] ::
 kd P 2 (kr 310 lw1 187 314 16 313 315 107 316) ::
 kx "NoNumber" 24 109 108 100 303 311 ::
 ⟨(.type "super"),none,.fields ⟨[(.ref 109),(.ref 109),(.ref 109)]⟩,#[]⟩ ::
 kv "object.__init_subclass__" (.ref 109) ::
 k1 [(.ref 24)] ::
 kv "type.__prepare__" (.type "type") ::
 kd P 4 (kq 326 lw1 187 328 "NoText" 327 330 18 329 331 119) ::
 k1 [] ::
 k0 ::
 ky "NoText" 321 322 323 18 115 116 324 18 325 ::
 kz 117 3 114 lw1 187 0 ::
 k1 [] ::
 kd P 2 (kr 326 lw1 187 330 18 329 331 119 332) ::
 kx "NoText" 24 121 120 112 319 327 ::
 ⟨(.type "super"),none,.fields ⟨[(.ref 121),(.ref 121),(.ref 121)]⟩,#[]⟩ ::
 kv "object.__init_subclass__" (.ref 121) ::
 k1 [(.ref 24)] ::
 kv "type.__prepare__" (.type "type") ::
 kd P 4 (kq 342 lw1 187 344 "NoLine" 343 346 20 345 347 131) ::
 k1 [] ::
 k0 ::
 ky "NoLine" 337 338 339 20 127 128 340 20 341 ::
 kz 129 3 126 lw1 187 0 ::
 k1 [] ::
 kd P 2 (kr 342 lw1 187 346 20 345 347 131 348) ::
 kx "NoLine" 24 133 132 124 335 343 ::
 ⟨(.type "super"),none,.fields ⟨[(.ref 133),(.ref 133),(.ref 133)]⟩,#[]⟩ ::
 kv "object.__init_subclass__" (.ref 133) ::
 k1 [(.ref 24)] ::
 kv "type.__prepare__" (.type "type") ::
 kd P 4 (kq 358 lw1 187 360 "NoDeed" 359 362 22 361 363 143) ::
 k1 [] ::
 k0 ::
 ky "NoDeed" 353 354 355 22 139 140 356 22 357 ::
 kz 141 3 138 lw1 187 0 ::
 k1 [] ::
 kd P 2 (kr 358 lw1 187 362 22 361 363 143 364) ::
 kx "NoDeed" 24 145 144 136 351 359 ::
 ⟨(.type "super"),none,.fields ⟨[(.ref 145),(.ref 145),(.ref 145)]⟩,#[]⟩ ::
 kv "object.__init_subclass__" (.ref 145) ::
 k1 [] ::
 k0 ::
 k1 [(.str "thing" 372)] ::
 k1 [] ::
 kp "is_whole" (tp p 13) ::
 kc "is_whole" 369 25 1 3 148 149 (.ref 150) (.ref 151) 152 373 374 ::
 kf "is_whole" (tp p 13) 153 lw3 367 ::
 k1 [] ::
 k0 ::
 kp "are_whole" (tp p 14) ::
 kc "are_whole" 376 27 1 3 155 156 .none .none 157 379 380 ::
 kf "are_whole" (tp p 14) 158 lw3 367 ::
 k1 [] ::
 k0 ::
 k1 [(.str "one" 385),(.str "other" 386)] ::
 k1 [] ::
 kp "greatest_divisor" (tp p 15) ::
 kc "greatest_divisor" 382 29 2 3 160 161 (.ref 162) (.ref 163) 164 387 388 ::
 kf "greatest_divisor" (tp p 15) 165 lw3 367 ::
 k1 [] ::
 k0 ::
 k1 [(.str "top" 393),(.str "bottom" 394),(.str "shared" 395)] ::
 k1 [] ::
 kp "lowest" (tp p 16) ::
 kc "lowest" 390 34 2 3 167 168 (.ref 169) (.ref 170) 171 396 397 ::
 kf "lowest" (tp p 16) 172 lw3 367 ::
 k1 [] ::
 k0 ::
 k1 [(.str "one" 402),(.str "other" 403)] ::
 k1 [] ::
 kp "plus" (tp p 17) ::
 kc "plus" 399 37 2 3 174 175 (.ref 176) (.ref 177) 178 404 405 ::
 kf "plus" (tp p 17) 179 lw3 367 ::
 k1 [] ::
 k0 ::
 k1 [(.str "whole" 410),(.str "fraction" 411)] ::
 k1 [] ::
 kp "times" (tp p 18) ::
 kc "times" 407 39 2 3 181 182 (.ref 183) (.ref 184) 185 412 413 ::
 kf "times" (tp p 18) 186 lw3 367 ::
 k1 [] ::
 k0 ::
 k1 [(.str "rows" 422)] ::
 k1 [] ::
 kp "corners_left" (tp p 21) ::
 kc "corners_left" 419 43 1 3 188 189 (.ref 190) (.ref 191) 192 423 424 ::
 kf "corners_left" (tp p 21) 193 lw4 415 ::
 k1 [] ::
 k0 ::
 k1 [(.str "rows" 429)] ::
 k1 [] ::
 kp "piece_left" (tp p 22) ::
 kc "piece_left" 426 45 1 3 195 196 (.ref 197) (.ref 198) 199 430 431 ::
 kf "piece_left" (tp p 22) 200 lw4 415 ::
 k1 [] ::
 k0 ::
 k1 [(.str "piece" 436),(.str "rows" 437),(.str "row" 438)] ::
 k1 [] ::
 kp "cut_down" (tp p 23) ::
 kc "cut_down" 433 47 2 3 202 203 (.ref 204) (.ref 205) 206 439 440 ::
 kf "cut_down" (tp p 23) 207 lw4 415 ::
 k1 [] ::
 k0 ::
 kp "places_of" (tp p 24) ::
 kc "places_of" 442 51 1 3 209 210 .none .none 211 445 446 ::
 kf "places_of" (tp p 24) 212 lw4 415 ::
 k1 [] ::
 k0 ::
 k1 [(.str "piece" 451),(.str "row" 452),(.str "left" 453),(.str "at" 454),(.str "corner" 455),(.str "before" 456),(.str "crossing" 457)] ::
 k1 [] ::
 kp "cut_piece" (tp p 25) ::
 kc "cut_piece" 448 53 2 3 214 215 (.ref 216) (.ref 217) 218 458 459 ::
 kf "cut_piece" (tp p 25) 219 lw4 415 ::
 k1 [] ::
 k0 ::
 k1 [(.str "row" 464),(.str "corner" 465),(.str "a" 466),(.str "b" 467),(.str "c" 468),(.str "x" 469),(.str "y" 470),(.str "bottom" 471)] ::
 k1 [] ::
 kp "beyond" (tp p 26) ::
 kc "beyond" 461 64 2 3 221 222 (.ref 223) (.ref 224) 225 472 473 ::
 kf "beyond" (tp p 26) 226 lw4 415 ::
 k1 [] ::
 k0 ::
 kp "where_crossed" (tp p 27) ::
 kc "where_crossed" 475 68 3 3 228 229 .none .none 230 478 479 ::
 kf "where_crossed" (tp p 27) 231 lw4 415 ::
 k1 [] ::
 k0 ::
 k1 [(.str "piece" 484),(.str "start" 485),(.str "at" 486),(.str "corner" 487)] ::
 k1 [] ::
 kp "from_least" (tp p 28) ::
 kc "from_least" 481 73 1 3 233 234 (.ref 235) (.ref 236) 237 488 489 ::
 kf "from_least" (tp p 28) 238 lw4 415 ::
 k1 [] ::
 k0 ::
 k1 [(.str "one" 494),(.str "other" 495)] ::
 k1 [] ::
 kp "is_ahead" (tp p 29) ::
 kc "is_ahead" 491 79 2 3 240 241 (.ref 242) (.ref 243) 244 496 497 ::
 kf "is_ahead" (tp p 29) 245 lw4 415 ::
 k1 [] ::
 k0 ::
 k1 [(.str "thing" 504)] ::
 k1 [] ::
 kp "is_row" (tp p 31) ::
 kc "is_row" 501 82 1 3 247 248 (.ref 249) (.ref 250) 251 505 506 ::
 kf "is_row" (tp p 31) 252 lw5 499 ::
 k1 [] ::
 k0 ::
 k1 [(.str "row" 511),(.str "place" 512)] ::
 k1 [] ::
 kp "value" (tp p 32) ::
 kc "value" 508 86 2 3 254 255 (.ref 256) (.ref 257) 258 513 514 ::
 kf "value" (tp p 32) 259 lw5 499 ::
 k1 [] ::
 k0 ::
 k1 [(.str "row" 519),(.str "place" 520),(.str "top" 521),(.str "bottom" 522)] ::
 k1 [] ::
 kp "is_tight" (tp p 33) ::
 kc "is_tight" 516 88 2 3 261 262 (.ref 263) (.ref 264) 265 523 524 ::
 kf "is_tight" (tp p 33) 266 lw5 499 ::
 k1 [] ::
 k0 ::
 k1 [(.str "one" 529),(.str "other" 530)] ::
 k1 [] ::
 kp "turn_to" (tp p 34) ::
 kc "turn_to" 526 91 2 3 268 269 (.ref 270) (.ref 271) 272 531 532 ::
 kf "turn_to" (tp p 34) 273 lw5 499 ::
 k1 [] ::
 k0 ::
 k1 [(.str "rows" 537),(.str "first" 538),(.str "left" 539),(.str "right" 540)] ::
 k1 [] ::
 kp "go_round" (tp p 35) ::
 kc "go_round" 534 93 1 3 275 276 (.ref 277) (.ref 278) 279 541 542 ::
 kf "go_round" (tp p 35) 280 lw5 499 ::
 k1 [] ::
 k0 ::
 k1 [(.str "first" 547),(.str "rows" 548),(.str "sign" 549),(.str "last" 550),(.str "row" 551)] ::
 k1 [] ::
 kp "furthest" (tp p 36) ::
 kc "furthest" 544 102 3 3 282 283 (.ref 284) (.ref 285) 286 552 553 ::
 kf "furthest" (tp p 36) 287 lw5 499 ::
 k1 [] ::
 k0 ::
 k1 [(.str "first" 558),(.str "rows" 559),(.str "row" 560)] ::
 k1 [] ::
 kp "points_back" (tp p 37) ::
 kc "points_back" 555 108 2 3 289 290 (.ref 291) (.ref 292) 293 561 562 ::
 kf "points_back" (tp p 37) 294 lw5 499 ::
 k1 [] ::
 k0 ::
 kp "is_field" (tp p 39) ::
 kc "is_field" 566 114 1 3 296 297 .none .none 298 569 570 ::
 kf "is_field" (tp p 39) 299 lw2 564 ::
 k1 [] ::
 k0 ::
 k1 [(.str "thing" 575),(.str "a" 576),(.str "b" 577),(.str "c" 578)] ::
 k1 [] ::
 kp "is_field_row" (tp p 40) ::
 kc "is_field_row" 572 120 1 3 301 302 (.ref 303) (.ref 304) 305 579 580 ::
 kf "is_field_row" (tp p 40) 306 lw2 564 ::
 k1 [] ::
 k0 ::
 kp "is_near" (tp p 41) ::
 kc "is_near" 582 125 1 3 308 309 .none .none 310 585 586 ::
 kf "is_near" (tp p 41) 311 lw2 564 ::
 k1 [] ::
 k0 ::
 k1 [(.str "thing" 591)] ::
 k1 [] ::
 kp "need_field" (tp p 42) ::
 kc "need_field" 588 127 1 3 313 314 (.ref 315) (.ref 316) 317 592 593 ::
 kf "need_field" (tp p 42) 318 lw2 564 ::
 k1 [] ::
 k0 ::
 k1 [(.str "field" 600)] ::
 k1 [] ::
 kp "corners" (tp p 44) ::
 kc "corners" 597 131 1 3 320 321 (.ref 322) (.ref 323) 324 601 602 ::
 kf "corners" (tp p 44) 325 "roundcuts.corners" 595 ::
 k1 [] ::
 k0 ::
 kp "tight_numbers" (tp p 45) ::
 kc "tight_numbers" 604 134 2 3 327 328 .none .none 329 607 608 ::
 kf "tight_numbers" (tp p 45) 330 "roundcuts.corners" 595 ::
 k1 [] ::
 k0 ::
 k1 [(.str "one" 615),(.str "other" 616),(.str "thing" 617),(.str "turn" 618),(.str "of_one" 619),(.str "of_other" 620)] ::
 k1 [] ::
 kp "parts" (tp p 47) ::
 kc "parts" 612 137 3 3 332 333 (.ref 334) (.ref 335) 336 621 622 ::
 kf "parts" (tp p 47) 337 lw8 610 ::
 k1 [] ::
 k0 ::
 k1 [(.str "one" 627),(.str "other" 628),(.str "turn" 629)] ::
 k1 [] ::
 kp "need_turn" (tp p 48) ::
 kc "need_turn" 624 145 2 3 339 340 (.ref 341) (.ref 342) 343 630 631 ::
 kf "need_turn" (tp p 48) 344 lw8 610 ::
 k1 [] ::
 k0 ::
 k1 [(.str "thing" 636)] ::
 k1 [] ::
 kp "is_direction" (tp p 49) ::
 kc "is_direction" 633 150 1 3 346 347 (.ref 348) (.ref 349) 350 637 638 ::
 kf "is_direction" (tp p 49) 351 lw8 610 ::
 k1 [] ::
 k0 ::
 k1 [(.str "field" 645),(.str "place" 646)] ::
 k1 [] ::
 kp "sides_at" (tp p 51) ::
 kc "sides_at" 642 155 2 3 353 354 (.ref 355) (.ref 356) 357 647 648 ::
 kf "sides_at" (tp p 51) 358 lw6 640 ::
 k1 [] ::
 k0 ::
 k1 [(.str "rows" 653),(.str "numbers" 654),(.str "pairs" 655),(.str "number" 656),(.str "beside" 657)] ::
 k1 [] ::
 kp "sides_among" (tp p 52) ::
 kc "sides_among" 650 157 2 3 360 361 (.ref 362) (.ref 363) 364 658 659 ::
 kf "sides_among" (tp p 52) 365 lw6 640 ::
 k1 [] ::
 k0 ::
 k1 [(.str "rows" 664),(.str "numbers" 665),(.str "number" 666),(.str "nearest" 667),(.str "other" 668)] ::
 k1 [] ::
 kp "next_to_the_left" (tp p 53) ::
 kc "next_to_the_left" 661 164 3 3 367 368 (.ref 369) (.ref 370) 371 669 670 ::
 kf "next_to_the_left" (tp p 53) 372 lw6 640 ::
 k1 [] ::
 k0 ::
 k1 [(.str "row" 675)] ::
 k1 [] ::
 kp "direction_of" (tp p 54) ::
 kc "direction_of" 672 171 1 3 374 375 (.ref 376) (.ref 377) 378 676 677 ::
 kf "direction_of" (tp p 54) 379 lw6 640 ::
 k1 [] ::
 k0 ::
 k1 [(.str "field" 682),(.str "pair" 683),(.str "direction" 684),(.str "one" 685),(.str "other" 686),(.str "shares" 687),(.str "weights" 688)] ::
 k1 [] ::
 kp "weights_towards" (tp p 55) ::
 kc "weights_towards" 679 173 3 3 381 382 (.ref 383) (.ref 384) 385 689 690 ::
 kf "weights_towards" (tp p 55) 386 lw6 640 ::
 k1 [] ::
 k0 ::
 kp "sum_of" (tp p 57) ::
 kc "sum_of" 694 182 2 3 388 389 .none .none 390 697 698 ::
 kf "sum_of" (tp p 57) 391 lw7 692 ::
 k1 [] ::
 k0 ::
 kp "whole_sum" (tp p 58) ::
 kc "whole_sum" 700 185 2 3 393 394 .none .none 395 703 704 ::
 kf "whole_sum" (tp p 58) 396 lw7 692 ::
 k1 [] ::
 k0 ::
 k1 [(.str "totals" 709),(.str "a" 710),(.str "b" 711),(.str "c" 712)] ::
 k1 [] ::
 kp "cut_of" (tp p 59) ::
 kc "cut_of" 706 195 1 3 398 399 (.ref 400) (.ref 401) 402 713 714 ::
 kf "cut_of" (tp p 59) 403 lw7 692 ::
 k1 [] ::
 k0 ::
 k1 [(.str "field" 719),(.str "weights" 720)] ::
 k1 [] ::
 kp "paper_of" (tp p 60) ::
 kc "paper_of" 716 200 2 3 405 406 (.ref 407) (.ref 408) 409 721 722 ::
 kf "paper_of" (tp p 60) 410 lw7 692 ::
 k1 [] ::
 k0 ::
 kp "cut_towards" (tp p 61) ::
 kc "cut_towards" 724 202 3 3 412 413 .none .none 414 727 728 ::
 kf "cut_towards" (tp p 61) 415 lw7 692 ::
 k1 [] ::
 k0 ::
 k1 [(.str "_law_script" 735),(.str "_law_k" 736)] ::
 k1 [] ::
 kp "_law_cell_at" (tp p 63) ::
 kc "_law_cell_at" 732 211 2 3 417 418 (.ref 419) (.ref 420) 421 737 738 ::
 kf "_law_cell_at" (tp p 63) 422 lw 730 ::
 k1 [] ::
 k0 ::
 k1 [(.str "_law_script" 743),(.str "_law_k" 744),(.str "_law_cell" 745)] ::
 k1 [] ::
 kp "_law_state" (tp p 64) ::
 kc "_law_state" 740 215 2 3 424 425 (.ref 426) (.ref 427) 428 746 747 ::
 kf "_law_state" (tp p 64) 429 lw 730 ::
 k1 [] ::
 k0 ::
 k1 [(.str "_law_state_here" 752),(.str "_law_many" 753),(.str "_law_found" 754),(.str "_law_stirred" 755)] ::
 k1 [] ::
 kp "_law_take" (tp p 65) ::
 kc "_law_take" 749 220 2 3 431 432 (.ref 433) (.ref 434) 435 756 757 ::
 kf "_law_take" (tp p 65) 436 lw 730 ::
 k1 [] ::
 k0 ::
 kp "_law_field" (tp p 66) ::
 kc "_law_field" 759 229 1 3 438 439 .none .none 440 762 763 ::
 kf "_law_field" (tp p 66) 441 lw 730 ::
 k1 [] ::
 k0 ::
 k1 [(.str "_law_one" 768),(.str "_law_other" 769)] ::
 k1 [] ::
 kp "_law_divisor" (tp p 67) ::
 kc "_law_divisor" 765 254 2 3 443 444 (.ref 445) (.ref 446) 447 770 771 ::
 kf "_law_divisor" (tp p 67) 448 lw 730 ::
 k1 [] ::
 k0 ::
 k1 [(.str "_law_top" 776),(.str "_law_bottom" 777),(.str "_law_by" 778)] ::
 k1 [] ::
 kp "_law_low" (tp p 68) ::
 kc "_law_low" 773 258 2 3 450 451 (.ref 452) (.ref 453) 454 779 780 ::
 kf "_law_low" (tp p 68) 455 lw 730 ::
 k1 [] ::
 k0 ::
 k1 [(.str "_law_one" 785),(.str "_law_other" 786),(.str "_law_by" 787),(.str "_law_x" 788)] ::
 k1 [] ::
 kp "_law_crossing" (tp p 69) ::
 kc "_law_crossing" 782 263 2 3 457 458 (.ref 459) (.ref 460) 461 789 790 ::
 kf "_law_crossing" (tp p 69) 462 lw 730 ::
 k1 [] ::
 k0 ::
 k1 [(.str "_law_row" 795),(.str "_law_place" 796),(.str "_law_x" 797),(.str "_law_y" 798)] ::
 k1 [] ::
 kp "_law_value" (tp p 70) ::
 kc "_law_value" 792 269 2 3 464 465 (.ref 466) (.ref 467) 468 799 800 ::
 kf "_law_value" (tp p 70) 469 lw 730 ::
 k1 [] ::
 k0 ::
 k1 [(.str "_law_row" 805),(.str "_law_place" 806),(.str "_law_here" 807)] ::
 k1 [] ::
 kp "_law_keeps" (tp p 71) ::
 kc "_law_keeps" 802 272 2 3 471 472 (.ref 473) (.ref 474) 475 808 809 ::
 kf "_law_keeps" (tp p 71) 476 lw 730 ::
 k1 [] ::
 k0 ::
 k1 [(.str "_law_one" 814),(.str "_law_other" 815)] ::
 k1 [] ::
 kp "_law_less" (tp p 72) ::
 kc "_law_less" 811 275 2 3 478 479 (.ref 480) (.ref 481) 482 816 817 ::
 kf "_law_less" (tp p 72) 483 lw 730 ::
 k1 [] ::
 k0 ::
 k1 [(.str "_law_one" 822),(.str "_law_other" 823)] ::
 k1 [] ::
 kp "_law_minus" (tp p 73) ::
 kc "_law_minus" 819 277 2 3 485 486 (.ref 487) (.ref 488) 489 824 825 ::
 kf "_law_minus" (tp p 73) 490 lw 730 ::
 k1 [] ::
 k0 ::
 k1 [(.str "_law_one" 830),(.str "_law_other" 831)] ::
 k1 [] ::
 kp "_law_times" (tp p 74) ::
 kc "_law_times" 827 279 2 3 492 493 (.ref 494) (.ref 495) 496 832 833 ::
 kf "_law_times" (tp p 74) 497 lw 730 ::
 k1 [] ::
 k0 ::
 k1 [(.str "_law_one" 838),(.str "_law_other" 839),(.str "_law_third" 840),(.str "_law_first" 841)] ::
 k1 [] ::
 kp "_law_cross" (tp p 75) ::
 kc "_law_cross" 835 281 3 3 499 500 (.ref 501) (.ref 502) 503 842 843 ::
 kf "_law_cross" (tp p 75) 504 lw 730 ::
 k1 [] ::
 k0 ::
 kp "_law_ring" (tp p 76) ::
 kc "_law_ring" 845 284 1 3 506 507 .none .none 508 848 849 ::
 kf "_law_ring" (tp p 76) 509 lw 730 ::
 k1 [] ::
 k0 ::
 kp "_law_all_left" (tp p 77) ::
 kc "_law_all_left" 851 298 3 3 511 512 .none .none 513 854 855 ::
 kf "_law_all_left" (tp p 77) 514 lw 730 ::
 k1 [] ::
 k0 ::
 kp "_law_corners" (tp p 78) ::
 kc "_law_corners" 857 300 1 3 516 517 .none .none 518 860 861 ::
 kf "_law_corners" (tp p 78) 519 lw 730 ::
 k1 [] ::
 k0 ::
 k1 [(.str "_law_places" 866),(.str "_law_a" 867),(.str "_law_b" 868),(.str "_law_found" 869),(.str "_law_place" 870),(.str "_law_here" 871)] ::
 k1 [] ::
 kp "_law_greatest" (tp p 79) ::
 kc "_law_greatest" 863 308 3 3 521 522 (.ref 523) (.ref 524) 525 872 873 ::
 kf "_law_greatest" (tp p 79) 526 lw 730 ::
 k1 [] ::
 k0 ::
 k1 [(.str "_law_one" 878),(.str "_law_other" 879)] ::
 k1 [] ::
 kp "_law_plus" (tp p 80) ::
 kc "_law_plus" 875 315 2 3 528 529 (.ref 530) (.ref 531) 532 880 881 ::
 kf "_law_plus" (tp p 80) 533 lw 730 ::
 k1 [] ::
 k0 ::
 k1 [(.str "_law_rows" 886),(.str "_law_weights" 887),(.str "_law_found" 888),(.str "_law_row" 889),(.str "_law_weight" 890),(.str "_law_at" 891)] ::
 k1 [] ::
 kp "_law_summed" (tp p 81) ::
 kc "_law_summed" 883 317 2 3 535 536 (.ref 537) (.ref 538) 539 892 893 ::
 kf "_law_summed" (tp p 81) 540 lw 730 ::
 k1 [] ::
 k0 ::
 k1 [(.str "_law_rows" 898),(.str "_law_weights" 899),(.str "_law_a" 900),(.str "_law_b" 901),(.str "_law_c" 902)] ::
 k1 [] ::
 kp "_law_cut" (tp p 82) ::
 kc "_law_cut" 895 323 2 3 542 543 (.ref 544) (.ref 545) 546 903 904 ::
 kf "_law_cut" (tp p 82) 547 lw 730 ::
 k1 [] ::
 k0 ::
 k1 [(.str "_law_thing" 909)] ::
 k1 [] ::
 kp "_law_whole" (tp p 83) ::
 kc "_law_whole" 906 328 1 3 549 550 (.ref 551) (.ref 552) 553 910 911 ::
 kf "_law_whole" (tp p 83) 554 lw 730 ::
 k1 [] ::
 k0 ::
 k1 [(.str "_law_thing" 916)] ::
 k1 [] ::
 kp "_law_is_fraction" (tp p 84) ::
 kc "_law_is_fraction" 913 330 1 3 556 557 (.ref 558) (.ref 559) 560 917 918 ::
 kf "_law_is_fraction" (tp p 84) 561 lw 730 ::
 k1 [] ::
 k0 ::
 kp "_law_refused" (tp p 85) ::
 kc "_law_refused" 920 334 1 3 563 564 .none .none 565 923 924 ::
 kf "_law_refused" (tp p 85) 566 lw 730 ::
 k1 [] ::
 k0 ::
 kp "_law_right" (tp p 86) ::
 kc "_law_right" 926 347 4 3 568 569 .none .none 570 929 930 ::
 kf "_law_right" (tp p 86) 571 lw 730 ::
 k1 [] ::
 k0 ::
 k1 [(.str "_law_script" 935),(.str "_law_k" 936),(.str "_law_state_here" 937),(.str "_law_some" 938),(.str "_law_turn" 939)] ::
 k1 [(.str "_law_a" 940),(.str "_law_b" 941),(.str "_law_field_here" 942)] ::
 kp "law" (tp p 87) ::
 kc "law" 932 360 1 3 573 574 (.ref 575) (.ref 576) 577 943 944 ::
 kf "law" (tp p 87) 578 lw 730::[]
def hp (p:Program)(P:Params)(n:Nat)(m:List (Str×Nat×Value))(e:Nat)(c:List (Nat×Obj)):List Obj:=c.foldl (fun l x=>l.set x.1 x.2) ((PySem.W.boot_heap P).objs.toList.set 3 (kd P e m)++(ob p P).take n)
def sh (p:Program)(w:World)(os:OsState)(n:Nat)(m:List (Str×Nat×Value))(e:Nat)(c:List (Nat×Obj))(k:Nat):Shared:=⟨⟨⟨hp p w.params n m e c⟩,{}⟩,⟨[]⟩,{},k,os⟩
def hf (p:Program)(P:Params):Heap:=⟨⟨hp p P 569 mn 87 []⟩,{}⟩
abbrev as:List Addr:=[3,4,23,24,36,37,48,49,60,61,72,73,84,85,96,97,108,109,120,121,132,133,144,145,153,154,158,159,165,166,172,173,179,180,186,187,193,194,200,201,207,208,212,213,219,220,226,227,231,232,238,239,245,246,252,253,259,260,266,267,273,274,280,281,287,288,294,295,299,300,306,307,311,312,318,319,325,326,330,331,337,338,344,345,351,352,358,359,365,366,372,373,379,380,386,387,391,392,396,397,403,404,410,411,415,416,422,423,429,430,436,437,441,442,448,449,455,456,462,463,469,470,476,477,483,484,490,491,497,498,504,505,509,510,514,515,519,520,526,527,533,534,540,541,547,548,554,555,561,562,566,567,571,572,578,579]
def Kp (p:Program)(P:Params):PySem.W.Frag:=as.map fun a=>(a,(hp p P 569 mn 87 []).getD a k0)
abbrev pg:Program:=PySem.Challenge.pw_roundcuts_k11_least_cuts_of_directions
abbrev K (P:Params):PySem.W.Frag:=Kp pg P
abbrev ah:List Addr:=574::as
def Kh (p:Program)(P:Params):PySem.W.Frag:=ah.map fun a=>(a,(hp p P 569 mn 87 []).getD a k0)
theorem xhN (p:Program)(P:Params):ah=(Kh p P).map (·.1):=by unfold Kh;rw[xkA];exact(List.map_id _).symm
abbrev Hk (p:Program):PySem.W.Hook:=PySem.W.kHook (Kh p) ah (xhN p)
abbrev keep:List Nat:=[1,2,3,4,5,6,7,8,9,10,11,13,14,15,16,17,18,20,21,22,23,24,25,26,27,28,29,31,32,33,34,35,36,37,39,40,41,42,44,45,47,48,49,51,52,53,54,55,57,58,59,60,61,63,64,65,66,67,68,69,70,71,72,73,74,75,76,77,78,79,80,81,82,83,84,85,86,87]
abbrev vw:Program:=PySem.W.view pg keep
theorem dk {P:Params}{x:Str}{st:Stmt}{f cd t:Nat}{m:Str}(a:PySem.W.nsIn (K P) mainGlobals x=some (some (.ref f)))(l:(K P).lookup f=some (kf x st cd m t))(c:PySem.W.codeIn (K P) (.ref cd) x=true):DD (K P) x st :=
 dd a l c (by unfold PySem.W.keepIn;dsimp only;rw[l];rfl)
theorem dl {P:Params}{x:Str}{st:Stmt}(f cd:Nat)(m:Str)(t:Nat)(a:PySem.W.nsIn (K P) mainGlobals x=some (some (.ref f)):=by kernel_rfl)(l:(K P).lookup f=some (kf x st cd m t):=by kernel_rfl)(c:PySem.W.codeIn (K P) (.ref cd) x=true:=by kernel_rfl):DD (K P) x st:=dk a l c
end K11
set_option maxHeartbeats 0 in
lay_quick PySem.Challenge.pw_roundcuts_k11_least_cuts_of_directions
namespace K11
open PySem L2 Trn PySem.W
abbrev tb:=PySem.W.Fast.tw14364793385576792824
abbrev p':=PySem.W.Fast.tw9240792876590396110
abbrev v':=view p' keep
abbrev im:=PySem.W.Fast.tw5923862056798008813 p'.main.body
abbrev ann:Option Value:=some (.ref 6)
abbrev q:Pos:=⟨0,0,0,0⟩
abbrev bd:=behindTheImports p'
abbrev env:Env:={ scope:=p'.main.scope,locals:=mainNs,globals:=mainNs,cells:=[],code:=(.ref 13),frame:=some 14 }
abbrev cb:Code:=.body bd env
theorem r0 (w:World)(os:OsState):topGo tb p' w 11 ann 12 ⟨boot_heap w.params,⟨[]⟩,boot_drawn,boot_toks,os⟩ (topStub p')=some ((sh p' w os 4 ((mn.take 9).set 0 (ke "__name__" 165 (.str "__main__" 164))) 9 [(12,k0)] 187),⟨denote tb cb,cb,⟨0,0,0,0⟩,[topFrame q]⟩):=by kernel_rfl
theorem r1 (w:World)(os:OsState):segRun tb p' w 11 ann 1 1 (sh p' w os 4 ((mn.take 9).set 0 (ke "__name__" 165 (.str "__main__" 164))) 9 [(12,k0)] 187) (blockOf bd env cb ⟨0,0,0,0⟩ [topFrame q])=some (.next,(sh p' w os 4 ((mn.take 9).set 0 (ke "__name__" 165 (.str "__main__" 164))) 9 [(12,k0)] 187),cb,⟨0,0,0,0⟩):=by kernel_rfl
theorem c0 (w:World)(os:OsState):segRun tb p' w 11 ann 1 626 (sh p' w os 4 ((mn.take 9).set 0 (ke "__name__" 165 (.str "__main__" 164))) 9 [(12,k0)] 187) (piecesOf ((bd.drop 0).take 4) env cb ⟨0,0,0,0⟩ [topFrame q])=some (.next,(sh p' w os 41 ((mn.take 12).set 0 (ke "__name__" 165 (.str lw1 187))) 12 [(12,tl 3),(24,⟨(.type "type"),none,.cls { name := "CutError", bases:=[(.type "ValueError")],mro:=[(.ref 24),(.type "ValueError"),(.type "Exception"),(.type "BaseException"),(.type "object")],ns:=23,qualname := "CutError", hasDict:=true,slotNames:=[],subclasses:=[(.ref 37),(.ref 49)],abstract:=false,hasDel:=false },⟨[some (.ref 15),none,some (.str "CutError" 189),some (.str "CutError" 197),some (.builtin "ValueError.__new__"),some (.bool true)]⟩⟩)] 239),cb,⟨6,0,7,8⟩):=by kernel_rfl
theorem c1 (w:World)(os:OsState):segRun tb p' w 11 ann 1 643 (sh p' w os 41 ((mn.take 12).set 0 (ke "__name__" 165 (.str lw1 187))) 12 [(12,tl 3),(24,⟨(.type "type"),none,.cls { name := "CutError", bases:=[(.type "ValueError")],mro:=[(.ref 24),(.type "ValueError"),(.type "Exception"),(.type "BaseException"),(.type "object")],ns:=23,qualname := "CutError", hasDict:=true,slotNames:=[],subclasses:=[(.ref 37),(.ref 49)],abstract:=false,hasDel:=false },⟨[some (.ref 15),none,some (.str "CutError" 189),some (.str "CutError" 197),some (.builtin "ValueError.__new__"),some (.bool true)]⟩⟩)] 239) (piecesOf ((bd.drop 4).take 3) env cb ⟨6,0,7,8⟩ [topFrame q])=some (.next,(sh p' w os 77 ((mn.take 15).set 0 (ke "__name__" 165 (.str lw1 187))) 15 [(12,tl 6),(24,⟨(.type "type"),none,.cls { name := "CutError", bases:=[(.type "ValueError")],mro:=[(.ref 24),(.type "ValueError"),(.type "Exception"),(.type "BaseException"),(.type "object")],ns:=23,qualname := "CutError", hasDict:=true,slotNames:=[],subclasses:=[(.ref 37),(.ref 49),(.ref 61),(.ref 73),(.ref 85)],abstract:=false,hasDel:=false },⟨[some (.ref 15),none,some (.str "CutError" 189),some (.str "CutError" 197),some (.builtin "ValueError.__new__"),some (.bool true)]⟩⟩)] 287),cb,⟨12,0,13,8⟩):=by kernel_rfl
theorem c2 (w:World)(os:OsState):segRun tb p' w 11 ann 1 643 (sh p' w os 77 ((mn.take 15).set 0 (ke "__name__" 165 (.str lw1 187))) 15 [(12,tl 6),(24,⟨(.type "type"),none,.cls { name := "CutError", bases:=[(.type "ValueError")],mro:=[(.ref 24),(.type "ValueError"),(.type "Exception"),(.type "BaseException"),(.type "object")],ns:=23,qualname := "CutError", hasDict:=true,slotNames:=[],subclasses:=[(.ref 37),(.ref 49),(.ref 61),(.ref 73),(.ref 85)],abstract:=false,hasDel:=false },⟨[some (.ref 15),none,some (.str "CutError" 189),some (.str "CutError" 197),some (.builtin "ValueError.__new__"),some (.bool true)]⟩⟩)] 287) (piecesOf ((bd.drop 7).take 3) env cb ⟨12,0,13,8⟩ [topFrame q])=some (.next,(sh p' w os 113 ((mn.take 18).set 0 (ke "__name__" 165 (.str lw1 187))) 18 [(12,tl 9),(24,⟨(.type "type"),none,.cls { name := "CutError", bases:=[(.type "ValueError")],mro:=[(.ref 24),(.type "ValueError"),(.type "Exception"),(.type "BaseException"),(.type "object")],ns:=23,qualname := "CutError", hasDict:=true,slotNames:=[],subclasses:=[(.ref 37),(.ref 49),(.ref 61),(.ref 73),(.ref 85),(.ref 97),(.ref 109),(.ref 121)],abstract:=false,hasDel:=false },⟨[some (.ref 15),none,some (.str "CutError" 189),some (.str "CutError" 197),some (.builtin "ValueError.__new__"),some (.bool true)]⟩⟩)] 335),cb,⟨18,0,19,8⟩):=by kernel_rfl
theorem c3 (w:World)(os:OsState):segRun tb p' w 11 ann 1 701 (sh p' w os 113 ((mn.take 18).set 0 (ke "__name__" 165 (.str lw1 187))) 18 [(12,tl 9),(24,⟨(.type "type"),none,.cls { name := "CutError", bases:=[(.type "ValueError")],mro:=[(.ref 24),(.type "ValueError"),(.type "Exception"),(.type "BaseException"),(.type "object")],ns:=23,qualname := "CutError", hasDict:=true,slotNames:=[],subclasses:=[(.ref 37),(.ref 49),(.ref 61),(.ref 73),(.ref 85),(.ref 97),(.ref 109),(.ref 121)],abstract:=false,hasDel:=false },⟨[some (.ref 15),none,some (.str "CutError" 189),some (.str "CutError" 197),some (.builtin "ValueError.__new__"),some (.bool true)]⟩⟩)] 335) (piecesOf ((bd.drop 10).take 13) env cb ⟨18,0,19,8⟩ [topFrame q])=some (.next,(sh p' w os 191 ((mn.take 29).set 0 (ke "__name__" 165 (.str lw4 415))) 29 [(12,tl 19)] 433),cb,⟨45,0,46,91⟩):=by kernel_rfl
theorem c4 (w:World)(os:OsState):segRun tb p' w 11 ann 1 697 (sh p' w os 191 ((mn.take 29).set 0 (ke "__name__" 165 (.str lw4 415))) 29 [(12,tl 19)] 433) (piecesOf ((bd.drop 23).take 25) env cb ⟨45,0,46,91⟩ [topFrame q])=some (.next,(sh p' w os 328 ((mn.take 50).set 0 (ke "__name__" 165 (.str lw8 610))) 50 [(12,tl 40)] 624),cb,⟨137,0,144,57⟩):=by kernel_rfl
theorem c5 (w:World)(os:OsState):segRun tb p' w 11 ann 1 718 (sh p' w os 328 ((mn.take 50).set 0 (ke "__name__" 165 (.str lw8 610))) 50 [(12,tl 40)] 624) (piecesOf ((bd.drop 48).take 25) env cb ⟨137,0,144,57⟩ [topFrame q])=some (.next,(sh p' w os 474 (mn.take 72) 72 [(12,tl 62)] 819),cb,⟨275,0,276,68⟩):=by kernel_rfl
theorem c6 (w:World)(os:OsState):segRun tb p' w 11 ann 1 463 (sh p' w os 474 (mn.take 72) 72 [(12,tl 62)] 819) (piecesOf ((bd.drop 73).take 15) env cb ⟨275,0,276,68⟩ [topFrame q])=some (.next,(sh p' w os 569 mn 87 [] 946),cb,⟨360,0,376,15⟩):=by kernel_rfl
theorem xh7:bd=(((bd.drop 0).take 4)++(((bd.drop 4).take 3)++(((bd.drop 7).take 3)++(((bd.drop 10).take 13)++(((bd.drop 23).take 25)++(((bd.drop 48).take 25)++(((bd.drop 73).take 15)++[]))))))):=by kernel_rfl
theorem cl (w:World)(os:OsState):topRun tb p' w 11 ann 2 (sh p' w os 569 mn 87 [] 946) ⟨doneF .next,cb,⟨360,0,376,15⟩,[topFrame q]⟩=some (sh p' w os 569 mn 87 [] 946):=by kernel_rfl
theorem run (w:World)(os:OsState):topRun tb p' w 11 ann (12+(1+(626+(643+(643+(701+(697+(718+(463+2))))))))) ⟨boot_heap w.params,⟨[]⟩,boot_drawn,boot_toks,os⟩ (topStub p')=some ⟨hf p' w.params,⟨[]⟩,{},946,os⟩ :=
 go_top (r0 w os) (piece_block (r1 w os) (xh7▸(piece_app (c0 w os) (piece_app (c1 w os) (piece_app (c2 w os) (piece_app (c3 w os) (piece_app (c4 w os) (piece_app (c5 w os) (piece_app (c6 w os) (piece_nil (cl w os)))))))))))
theorem z0 (w:World):((boot_heap w.params).isNs mainGlobals&&(⟨[]⟩:Array GenState).size == 0,(boot_heap w.params).objs.size,(boot_heap w.params).nsMap mainGlobals "__annotations__")=(true,11,ann):=by kernel_rfl
theorem z1 (w:World)(os:OsState):(staticsOk im (boot_heap w.params) (hf p' w.params)&&namesBound p' (hf p' w.params)&&gensDone ⟨hf p' w.params,⟨[]⟩,{},946,os⟩&&laidKept (boot_heap w.params) (hf p' w.params))=true:=by kernel_rfl
abbrev zx (w:World)(os:OsState):=PySem.W.Fast.tw4187177175401517315 v' [] im (fun s=>xlAt v' [] s&&recOk [] s) true ⟨hf p' w.params,⟨[]⟩,{},946,os⟩
theorem z20 (w os):(zx w os).1=PyProof.Rows.expectedOf v':=by kernel_rfl
theorem z21 (w os):(zx w os).2.1=bltViewBooted:=by kernel_rfl
theorem z22 (w os):(zx w os).2.2.1=true:=by kernel_rfl
theorem z23 (w os):(zx w os).2.2.2.1=true:=by kernel_rfl
theorem z24 (w os):(zx w os).2.2.2.2.1=pinGoodD (PyProof.Rows.drecsOf v'):=by kernel_rfl
theorem z25 (w os):(zx w os).2.2.2.2.2.1=PyProof.Rows.plainGoodE v' (looseW v' []):=by kernel_rfl
theorem z26 (w os):(zx w os).2.2.2.2.2.2.1=PyProof.Rows.plainGoodD v' []:=by kernel_rfl
theorem z27 (w os):(zx w os).2.2.2.2.2.2.2.1=wideGood v':=by kernel_rfl
theorem z28 (w os):(zx w os).2.2.2.2.2.2.2.2=clsGoodW v' []:=by kernel_rfl
theorem z2 (w os):zx w os=openGood v' []:=Prod.ext (z20 w os) (Prod.ext (z21 w os) (Prod.ext (z22 w os) (Prod.ext (z23 w os) (Prod.ext (z24 w os) (Prod.ext (z25 w os) (Prod.ext (z26 w os) (Prod.ext (z27 w os) (z28 w os))))))))
theorem z3 (w:World)(os:OsState):Hook.obs (Hk p') ⟨hf p' w.params,⟨[]⟩,{},946,os⟩=Hook.val (Hk p') w:=by kernel_rfl
theorem xh1:LeftO p' v' [] (fun s=>xlAt v' [] s&&recOk [] s) (Hook.obs (Hk p')) (Hook.val (Hk p')) 8918:=by
 have h1:=run;have h2:=z1;have h3:=z2;unfold zx at h3
 rw[show tb=treeTable from PySem.W.Fast.te14364793385576792824.symm] at h1
 rw[show im=importedModules p'.main.body from congrFun PySem.W.Fast.te5923862056798008813.symm _] at h2 h3
 rw[show PySem.W.Fast.tw4187177175401517315=openSeen from PySem.W.Fast.te4187177175401517315.symm] at h3
 exact LeftO.of_pieces (boot_open rfl rfl fun _=>rfl) z0 h1 (by decide) fun w=>funext fun os=>by
  rw[h2 w os,h3 w os,z3 w os]
theorem xeM (p:Program)(h:p=p'):LeftO p (view p keep) [] (fun s=>xlAt (view p keep) [] s&&recOk [] s) (Hook.obs (Hk p)) (Hook.val (Hk p)) 8918:=by
 subst h;exact xh1
theorem left:LeftO pg vw [] (fun s=>xlAt vw [] s&&recOk [] s) (Hook.obs (Hk pg)) (Hook.val (Hk pg)) 8918:=xeM pg PySem.W.Fast.te9240792876590396110
end K11
namespace K11
open PySem L2 Trn
theorem code_at {P:Params}{h:Heap}(X:(K P).In h):PySem.W.CodeHd h 578 574 :=
 ⟨_,_,_,_,_,_,_,_,_,X 578 (kc "law" 932 360 1 3 573 574 (.ref 575) (.ref 576) 577 943 944) (by kernel_rfl),rfl,rfl,rfl,rfl,rfl,rfl,rfl,rfl,by decide⟩
theorem xgm {P:Params}{h:Heap}{mg:Str→Option Value}(M:Mod (K P) mg h):h.BuiltinsAt mg 574 :=
 ⟨4,⟨.type "module", some 0,.plain,#[]⟩,PySem.W.mg_of M.kin M.glob (by kernel_rfl),by decide,by decide,by decide,M.kin _ _ (by kernel_rfl),rfl,rfl,rfl⟩
theorem mC (P:Params):lM (K P) 73:=⟨by kernel_rfl,by kernel_rfl,by kernel_rfl,by kernel_rfl,by kernel_rfl,by kernel_rfl,by kernel_rfl,by kernel_rfl⟩
theorem there {l:PySem.W.OpenLaw}{w:World}{P:Params}{h:Heap}{mg:Str→Option Value}{fa:Addr}(X:(K P).In h)(G:h.Ns mainGlobals mg)(hfa:mg "law" = some (.ref fa)) :
  ∃fd:FuncData,(∀(s:Shared) (v:Value),BindsTo s fd ⟨[v],[]⟩ [("_law_script", v)])∧∀base:Heap,Mod (K P) mg base→aD l.prog w (K P) mg base CX0 13 fa fd ["_law_script"] (dA (K P)) :=
 all_mk (c:=578) (T:=574) (a_CutError:=24) (a_NoField:=37) (a_NoWeights:=49) (a_NoCut:=61) (a_Nothing:=73) (a_NoTurn:=85) (a_NoCorner:=97) (a_NoNumber:=109) (a_NoText:=121) (a_NoLine:=133) (a_NoDeed:=145) X G hfa (dl 154 153 lw3 367)
  (dl 166 165 lw3 367)
  (dl 227 226 lw4 415)
  (dl 246 245 lw4 415)
  (dl 274 273 lw5 499)
  (dl 312 311 lw2 564)
  (dl 380 379 lw6 640)
  (dl 404 403 lw7 692)
  (dl 423 422 lw 730)
  (dl 437 436 lw 730)
  (dl 449 448 lw 730)
  (dl 484 483 lw 730)
  (dl 555 554 lw 730)
  (dl 159 158 lw3 367)
  (dl 173 172 lw3 367)
  (dl 232 231 lw4 415)
  (dl 239 238 lw4 415)
  (dl 288 287 lw5 499)
  (dl 295 294 lw5 499)
  (dl 345 344 lw8 610)
  (dl 373 372 lw6 640)
  (dl 397 396 lw7 692)
  (dl 430 429 lw 730)
  (dl 442 441 lw 730)
  (dl 456 455 lw 730)
  (dl 562 561 lw 730)
  (dl 180 179 lw3 367)
  (dl 187 186 lw3 367)
  (dl 213 212 lw4 415)
  (dl 220 219 lw4 415)
  (dl 253 252 lw5 499)
  (dl 281 280 lw5 499)
  (dl 352 351 lw8 610)
  (dl 366 365 lw6 640)
  (dl 392 391 lw7 692)
  (dl 463 462 lw 730)
  (dl 470 469 lw 730)
  (dl 491 490 lw 730)
  (dl 498 497 lw 730)
  (dl 534 533 lw 730)
  (dl 208 207 lw4 415)
  (dl 260 259 lw5 499)
  (dl 307 306 lw2 564)
  (dl 338 337 lw8 610)
  (dl 411 410 lw7 692)
  (dl 477 476 lw 730)
  (dl 505 504 lw 730)
  (dl 527 526 lw 730)
  (dl 541 540 lw 730)
  (dl 201 200 lw4 415)
  (dl 267 266 lw5 499)
  (dl 387 386 lw6 640)
  (dl 515 514 lw 730)
  (dl 548 547 lw 730)
  (dl 194 193 lw4 415)
  (dl 331 330 "roundcuts.corners" 595)
  (dl 510 509 lw 730)
  (dl 300 299 lw2 564)
  (dl 359 358 lw6 640)
  (dl 520 519 lw 730)
  (dl 319 318 lw2 564)
  (dl 326 325 "roundcuts.corners" 595)
  (dl 416 415 lw7 692)
  (dl 572 571 lw 730)
  (dl 567 566 lw 730)
  (by kernel_rfl:PySem.W.nsIn (K P) mainGlobals "law" = some (some (.ref 579))) (by kernel_rfl:(K P).lookup 579=some (kf "law" sr 578 lw 730)) (by kernel_rfl:PySem.W.codeIn (K P) (.ref 578) "law" = true) (by kernel_rfl) (by kernel_rfl) (by kernel_rfl) (by kernel_rfl) (by kernel_rfl) (by kernel_rfl) (by kernel_rfl) (by kernel_rfl) (by kernel_rfl) (by kernel_rfl) (by kernel_rfl) (by kernel_rfl) (by kernel_rfl) (by kernel_rfl) (by kernel_rfl) (by kernel_rfl) (by kernel_rfl) (by kernel_rfl:PySem.W.nsIn (K P) mainGlobals "FAR" = some (some (.int 60001 417)))
  (by kernel_rfl) (by kernel_rfl) (by kernel_rfl) (by kernel_rfl) (by kernel_rfl) (by kernel_rfl) (by kernel_rfl) (by kernel_rfl) (by kernel_rfl) (by kernel_rfl) (by kernel_rfl)
  (mC P) (by kernel_rfl) (by kernel_rfl) (by kernel_rfl) (by kernel_rfl) (by kernel_rfl) (by kernel_rfl) (by kernel_rfl) (by kernel_rfl) (by kernel_rfl) (by kernel_rfl) (by kernel_rfl) (by kernel_rfl) (by kernel_rfl)
  (by kernel_rfl) (by decide) (fun _ X=>code_at X) (fun _ M=>xgm M)
theorem kin {P:Params}{h:Heap}(Y:(Kh pg P).In h):(K P).In h:=fun b o e=>Y b o (by
 show(((574,_)::K P):List _).lookup b=_
 rw[xkx]
 split
 ·rename_i q
  rw[beq_iff_eq.mp q] at e
  rw[show(K P).lookup 574=none by kernel_rfl] at e;cases e
 ·exact e)
theorem xjc {P:Params}{h:Heap}(Y:(Kh pg P).In h):h.get? 574=some { cls:=.none,data:=.fields #[] }:=Y _ _ (by kernel_rfl)
end K11
end
open PySem PySem.W PyProof.Rows
set_option maxRecDepth 100000 in
set_option maxHeartbeats 0 in
theorem PySem.Challenge.cw_roundcuts_k11_least_cuts_of_directions_holds : PySem.Challenge.rw_roundcuts_k11_least_cuts_of_directions.Holds := by
 w_on;o_law
 refine holds_open (q:=K11.vw) (XP:=XL K11.vw []) (YP:=Hook.says (K11.Hk _)) K11.left (Hook.of _) (Hook.keeps _) (fun s e=>xl_of s (Bool.and_eq_true_iff.mp e).1)
  XL.keeps rfl rfl rfl (fun s e=>recFacts_of (Bool.and_eq_true_iff.mp e).2) rfl (by assumption) (by decide +kernel) ⟨rfl,rfl,rfl,rfl,rfl,by decide +kernel⟩ ?hw ?hc
 case hw=>w_witness2
 exact L2.xco (l:=PySem.Challenge.rw_roundcuts_k11_least_cuts_of_directions) (k:=13) (K:=K11.K) (x := "_law_script") (q := "law.<locals>.<lambda>") (T:=574) rfl rfl ⟨rfl,by decide,by decide⟩ (fun w h Y=>K11.kin (PySem.W.kIn_of Y)) (fun P=>by kernel_rfl) (fun w h Y=>K11.xjc (PySem.W.kIn_of Y)) (fun P=>by kernel_rfl)
  (fun w h X=>(K11.code_at X).isTable) (fun w mg fa h X G e=>K11.there X G e)
