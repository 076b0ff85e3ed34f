import PyProof.Rows.All
import Wide.All
import OpenK.AllK
import Wide.FinOn
import Lean
import PyProof.EqAt
import PyProof.EqKinds
import PyProof.TupleCall
import PyProof.ZipIter
import PyProof.NeData
import PyProof.P3Eq
import PyProof.EnumFor
import PyProof.EnumMake
import PyProof.Draws
import KE.KTryMore
import KE.KIsAll
import PyProof.ExcAttrAll.ValueError
import KE.KLam
import PySem.Challenge.RW_roundcuts_k19_papers_of_broken_corners
set_option Elab.async false
set_option linter.all false
set_option maxRecDepth 100000
set_option maxHeartbeats 4000000
set_option exponentiation.threshold 3000
set_option bootstrap.genMatcherCode false
set_option genSizeOfSpec false
set_option genInjectivity false
abbrev xjm:=@Bool.and_eq_true
abbrev xjn:=@Bool.false_ne_true
abbrev xjo:=@Int.dvd_coe_gcd
abbrev xjp:=@Int.dvd_mul_right
abbrev xjq:=@Int.dvd_natAbs
abbrev xjr:=@Int.dvd_trans
abbrev xjs:=@Int.emod_lt_of_pos
abbrev xjt:=@Int.emod_nonneg
abbrev xju:=@Int.eq_of_mul_eq_mul_right
abbrev xjv:=@Int.fdiv_eq_ediv_of_nonneg
abbrev xjw:=@Int.fmod_nonneg_of_pos
abbrev xjx:=@Int.gcd_dvd_left
abbrev xjy:=@Int.gcd_dvd_right
abbrev xjz:=@Int.gcd_mul_left
abbrev xjA:=@Int.gcd_pos_of_ne_zero_right
abbrev xjB:=@Int.le_of_lt
abbrev xjC:=@Int.le_of_mul_le_mul_left
abbrev xjD:=@Int.le_of_mul_le_mul_right
abbrev xjE:=@Int.le_refl
abbrev xjF:=@Int.lt_of_mul_lt_mul_right
abbrev xjG:=@Int.lt_or_le
abbrev xjH:=@Int.lt_trichotomy
abbrev xjI:=@Int.mul_comm
abbrev xjJ:=@Int.mul_dvd_mul_left
abbrev xjK:=@Int.mul_ediv_cancel'
abbrev xjL:=@Int.mul_eq_zero
abbrev xjM:=@Int.mul_le_mul_of_nonneg_left
abbrev xjN:=@Int.mul_le_mul_of_nonneg_right
abbrev xjO:=@Int.mul_lt_mul_of_pos_right
abbrev xjP:=@Int.mul_neg_of_neg_of_pos
abbrev xjQ:=@Int.mul_neg_of_pos_of_neg
abbrev xjR:=@Int.mul_one
abbrev xjS:=@Int.mul_pos
abbrev xjT:=@Int.natAbs_mul
abbrev xjU:=@Int.natCast_nonneg
abbrev xjV:=@Int.not_lt
abbrev xjW:=@Int.pos_of_mul_pos_right
abbrev xjX:=@Int.toNat_natCast
abbrev xjY:=@Int.zero_add
abbrev xjZ:=@List.Sublist.refl
abbrev xj0:=@List.Sublist.trans
abbrev xj1:=@List.all_eq_true
abbrev xj2:=@List.all_map
abbrev xj3:=@List.any_eq_true
abbrev xj4:=@List.append_assoc
abbrev xj5:=@List.append_nil
abbrev xj6:=@List.cons_append
abbrev xj7:=@List.drop_eq_getElem_cons
abbrev xj8:=@List.drop_zero
abbrev xj9:=@List.filterMap_cons
abbrev xj_:=@List.filter_cons_of_neg
abbrev xka:=@List.filter_cons_of_pos
abbrev xkb:=@List.filter_eq_nil_iff
abbrev xkc:=@List.flatten_cons
abbrev xkd:=@List.foldl_append
abbrev xke:=@List.foldl_cons
abbrev xkf:=@List.getD_eq_getElem?_getD
abbrev xkg:=@List.getElem?_append_left
abbrev xkh:=@List.getElem?_append_right
abbrev xki:=@List.getElem?_eq_getElem
abbrev xkj:=@List.getElem?_eq_none
abbrev xkk:=@List.getElem?_eq_some_iff
abbrev xkl:=@List.getElem?_map
abbrev xkm:=@List.getElem?_replicate
abbrev xkn:=@List.getElem?_set_ne
abbrev xko:=@List.getElem?_set_self
abbrev xkp:=@List.getElem_mem
abbrev xkq:=@List.length_append
abbrev xkr:=@List.length_cons
abbrev xks:=@List.length_drop
abbrev xkt:=@List.length_eq_zero_iff
abbrev xku:=@List.length_filter_le
abbrev xkv:=@List.length_map
abbrev xkw:=@List.length_nil
abbrev xkx:=@List.length_replicate
abbrev xky:=@List.length_set
abbrev xkz:=@List.length_singleton
abbrev xkA:=@List.length_take
abbrev xkB:=@List.lookup_cons
abbrev xkC:=@List.map_append
abbrev xkD:=@List.map_cons
abbrev xkE:=@List.map_map
abbrev xkF:=@List.map_nil
abbrev xkG:=@List.mem_append
abbrev xkH:=@List.mem_append_left
abbrev xkI:=@List.mem_append_right
abbrev xkJ:=@List.mem_cons
abbrev xkK:=@List.mem_cons_of_mem
abbrev xkL:=@List.mem_cons_self
abbrev xkM:=@List.mem_filter
abbrev xkN:=@List.mem_filterMap
abbrev xkO:=@List.mem_iff_getElem
abbrev xkP:=@List.mem_map
abbrev xkQ:=@List.mem_map_of_mem
abbrev xkR:=@List.mem_of_getElem?
abbrev xkS:=@List.mem_of_mem_take
abbrev xkT:=@List.mem_range
abbrev xkU:=@List.mem_singleton
abbrev xkV:=@List.nil_append
abbrev xkW:=@List.nodup_append
abbrev xkX:=@List.nodup_cons
abbrev xkY:=@List.not_mem_nil
abbrev xkZ:=@List.of_mem_zip
abbrev xk0:=@List.replicate_succ
abbrev xk1:=@List.singleton_sublist
abbrev xk2:=@List.size_toArray
abbrev xk3:=@List.sublist_append_iff
abbrev xk4:=@List.sublist_append_right
abbrev xk5:=@List.take_append_drop
abbrev xk6:=@List.take_length
abbrev xk7:=@List.take_of_length_le
abbrev xk8:=@List.take_succ
abbrev xk9:=@List.zip_cons_cons
abbrev xk_:=@Nat.le_add_right
abbrev xla:=@Nat.le_of_lt
abbrev xlb:=@Nat.le_refl
abbrev xlc:=@Nat.le_succ
abbrev xld:=@Nat.le_trans
abbrev xle:=@Nat.lt_irrefl
abbrev xlf:=@Nat.lt_of_le_of_lt
abbrev xlg:=@Nat.lt_of_lt_of_le
abbrev xlh:=@Nat.lt_succ_of_lt
abbrev xli:=@Nat.lt_succ_self
abbrev xlj:=@Nat.mul_le_mul
abbrev xlk:=@Nat.mul_le_mul_right
abbrev xll:=@Nat.ne_of_gt
abbrev xlm:=@Nat.ne_of_lt
abbrev xln:=@Nat.zero_le
abbrev xlo:=@Option.getD_some
abbrev xlp:=@Option.some.inj
abbrev xlq:=@congrArg
abbrev xlr:=@decide_eq_decide
abbrev xls:=@decide_eq_false
abbrev xlt:=@decide_eq_true
abbrev xlu:=@decide_eq_true_eq
abbrev xlv:=@decide_eq_true_iff
abbrev xlw:=@of_decide_eq_false
abbrev xlx:=@of_decide_eq_true
abbrev xly:=@or_false
noncomputable section
namespace L2
open PySem PySem.Spec PyProof.Rows
abbrev Key:=Sum Int Str
def xha:Key→Value→Bool
 | .inl k,v=>Value.isInt k v
 | .inr x,v=>Value.isStrOf x v
def xjc (w:World):Key→Int
 | .inl k=>hashInt k
 | .inr x=>hashStr w x
theorem zh:∀ {k:Key} {v:Value},xha k v=true→(∃i t,k=Sum.inl i∧v=Value.int i t)∨(∃x t,k=Sum.inr x∧v=Value.str x t)
 | .inl i,v,h=>by
  obtain⟨t,e⟩:=Value.isInt_shape (k:=i) (v:=v) h
  exact .inl ⟨i,t,rfl,e⟩
 | .inr x,v,h=>by
  obtain⟨t,e⟩:=Value.isStrOf_shape (x:=x) (v:=v) h
  exact .inr ⟨x,t,rfl,e⟩
theorem xgy (a b:Int):decide ((Sum.inl a:Key)=Sum.inl b)=(a == b):=by
 by_cases e:a=b
 ·subst e;simp
 ·have h:¬(Sum.inl a:Key)=Sum.inl b:=fun q=>e (Sum.inl.inj q)
  rw[xls h]
  exact(beq_eq_false_iff_ne.mpr e).symm
theorem xf7 (a b:Str):decide ((Sum.inr a:Key)=Sum.inr b)=decide (a=b):=by
 by_cases e:a=b
 ·subst e;simp
 ·have h:¬(Sum.inr a:Key)=Sum.inr b:=fun q=>e (Sum.inr.inj q)
  rw[xls h,xls e]
theorem xgu (a:Int)(b:Str):decide ((Sum.inl a:Key)=Sum.inr b)=false:=xls (fun q=>nomatch q)
theorem xgI (a:Str)(b:Int):decide ((Sum.inr a:Key)=Sum.inl b)=false:=xls (fun q=>nomatch q)
def xaF (prog:Program)(w:World):PySem.KeyKind prog w Key where
 is:=xha
 hash:=xjc w
 inj:=fun v a b ha hb=>by
  rcases zh ha with ⟨i,t,rfl,rfl⟩ | ⟨x,t,rfl,rfl⟩
  ·rcases zh hb with ⟨j,u,rfl,e⟩ | ⟨y,u,rfl,e⟩
   ·injection e with e1 _;rw[e1]
   ·exact nomatch e
  ·rcases zh hb with ⟨j,u,rfl,e⟩ | ⟨y,u,rfl,e⟩
   ·exact nomatch e
   ·injection e with e1 _;rw[e1]
 byValue:=fun k v h=>by
  rcases zh h with ⟨i,t,rfl,rfl⟩ | ⟨x,t,rfl,rfl⟩<;>rfl
 pyHash:=fun hv h=>by
  rcases zh hv with ⟨i,t,rfl,rfl⟩ | ⟨x,t,rfl,rfl⟩
  ·exact wpAny_pyHash_int h
  ·exact wpAny_pyHash_str h
 eqBool:=fun hu hv h=>by
  rcases zh hu with ⟨i,t,rfl,rfl⟩ | ⟨x,t,rfl,rfl⟩
  ·rcases zh hv with ⟨j,u,rfl,rfl⟩ | ⟨y,u,rfl,rfl⟩
   ·rw[xgy] at h;exact wpAny_eqBool_int h
   ·rw[xgu] at h;exact SeqAt.EqAt.int_str i t y u _ _ _ _ h
  ·rcases zh hv with ⟨j,u,rfl,rfl⟩ | ⟨y,u,rfl,rfl⟩
   ·rw[xgI] at h;exact SeqAt.EqAt.str_int x t j u _ _ _ _ h
   ·rw[xf7] at h;exact wpAny_eqBool_str h
 «strs» := fun k x t v h=>by
  rcases zh h with ⟨i,u,rfl,e⟩ | ⟨y,u,rfl,e⟩
  ·exact nomatch e
  ·injection e with e1 _
   subst e1
   cases v<;>rfl
end L2
namespace L2
open PySem PySem.Spec PyProof.Rows
inductive V where
 | non | bl (b:Bool) | int (i:Int) | str (x:Str) | byt (b:Array UInt8) | flt (b:UInt64) | ref (a:Addr) | ty (n:String)
 deriving DecidableEq
def RelV:V→Value→Prop
 | .non,u=>u=Value.none
 | .bl b,u=>u=Value.bool b
 | .int i,u=>∃t,u=Value.int i t
 | .str x,u=>∃t,u=Value.str x t
 | .byt b,u=>∃t,u=Value.bytes b t
 | .flt b,u=>∃t,u=Value.float b t
 | .ref a,u=>u=Value.ref a
 | .ty n,u=>u=Value.type n
abbrev zQ:List V→List Value→Prop:=Paired RelV
theorem zQ.length (r:zQ xs us):xs.length=us.length:=Paired.length r
theorem zQ.get:∀ {xs:List V} {us:List Value} {i:Nat} {x:V},zQ xs us→xs[i]? = some x→∃u,us[i]? = some u∧RelV x u
 | _,_,_,_,.nil,e=>by simp at e
 | _,_,0,_,.cons r _,e=>by simp at e;subst e;exact⟨_,rfl,r⟩
 | _,_,i+1,x,.cons _ t,e=>by
  obtain⟨u,h1,h2⟩:=zQ.get (i:=i) (x:=x) t (by simpa using e)
  exact⟨u,by simpa using h1,h2⟩
theorem zQ.set (r:RelV x u):∀ {xs:List V} {us:List Value} (i:Nat),zQ xs us→zQ (xs.set i x) (us.set i u)
 | _,_,_,.nil=>.nil
 | _,_,0,.cons _ t=>.cons r t
 | _,_,i+1,.cons q t=>.cons q (zQ.set r i t)
theorem zQ.append:∀ {xs ys:List V} {us ws:List Value},zQ xs us→zQ ys ws→zQ (xs++ys) (us++ws)
 | _,_,_,_,.nil,s=>s
 | _,_,_,_,.cons r t,s=>.cons r (zQ.append t s)
theorem zQ.take:∀ {xs:List V} {us:List Value} (n:Nat),zQ xs us→zQ (xs.take n) (us.take n)
 | _,_,0,_=>.nil
 | _,_,_+1,.nil=>.nil
 | _,_,n+1,.cons r t=>.cons r (zQ.take n t)
theorem zQ.drop:∀ {xs:List V} {us:List Value} (n:Nat),zQ xs us→zQ (xs.drop n) (us.drop n)
 | _,_,0,r=>r
 | _,_,_+1,.nil=>.nil
 | _,_,n+1,.cons _ t=>zQ.drop n t
def xhW:Option V→Option Value→Prop
 | some v,some u=>RelV v u
 | none,none=>True
 | _,_=>False
def KV:List (κ×V)→List (κ×Value)→Prop:=Paired fun(p:κ×V) (q:κ×Value)=>p.1=q.1∧RelV p.2 q.2
def kV:Key→V
 | .inl i=>.int i
 | .inr x=>.str x
inductive HO where
  | lst (xs:List V)
  | tup (xs:List V)
  | dK (kvs:List (Key×V)) | dT (kvs:List (List Key×V))
  | set (S:Int→Bool) (n:Nat)
  | ins (C dx:Addr) (fs:List (Str×V))
  | own (x:Addr)
  | xd (fs:List (Str×V))
  | met (f x:Addr)
  | rng (lo hi:Int)
  | frz (o:Obj) (u:HO)
  | tbl (ps:Array Value)
 | tb (q:Str)
  | ext (φ:Heap→Prop)
abbrev Hp:=Addr→Option HO
def upd (H:Hp)(a:Addr)(o:HO):Hp:=fun b=>if b=a then some o else H b
theorem ya:upd H a o a=some o:=by unfold upd;rw[if_pos rfl]
theorem xY (h:b≠a):upd H a o b=H b:=by unfold upd;rw[if_neg h]
theorem xga {H:Hp}{a b:Addr}{o u:HO}(h:H a=some o)(h':H b=some u)(d:o≠u):a≠b:=by
 intro e;subst e;rw[h] at h';exact d (xlp h')
theorem xK {H:Hp}{a b:Addr}{o:HO}(h:H a=some o)(h':H b=none):a≠b:=by
 intro e;subst e;rw[h] at h';cases h'
section
variable (P:Program) (w:World)
def uH (H:Hp)(h:Heap)(a:Addr):HO→Prop
 | .lst xs=>xs.length≤sizeLine∧∃(its:List Value) (n:Nat),zQ xs its∧h.get? a=some { cls:=.type "list", data:=.seq its.toArray n }
 | .tup xs=>xs.length≤sizeLine∧∃its:List Value,zQ xs its∧IsTup h a its.toArray
 | .dK kvs=>kvs.length≤sizeLine∧(a == sysModules)=false∧∃vs,KV kvs vs∧h.DictOf (xaF P w) a vs
 | .dT kvs=>kvs.length≤sizeLine∧(a == sysModules)=false∧∃xs:List (List Key×Addr×Value),
   Paired (fun(p:List Key×V) (q:List Key×Addr×Value)=>p.1=q.1∧H q.2.1=some (.tup (p.1.map kV))∧RelV p.2 q.2.2) kvs xs ∧
   ∃o es ep,h.get? a=some o∧o.ExactDict∧o.data=.dict es ep∧es.toList=xs.map (entryOfKey (tupleKind (xaF P w)))∧(xs.map (·.1)).Nodup
 | .set S n=>h.SetOf (intKind P w) a S n
 | .ins C dx fs=>H dx=some (.own a)∧fs.length≤1000∧dx≠a∧h.get? a=some (PySem.W.instObj C dx) ∧
   ∃mA,h.Ns1 dx mA∧(∀f,xhW (fs.lookup f) (mA f))∧PySem.Within mA (fs.map (·.1))
 | .own _=>∃o,h.get? a=some o
 | .xd fs=>∃mA,h.Ns1 a mA∧∀f,xhW (fs.lookup f) (mA f)
 | .rng lo hi=>∃t u v,h.get? a=some { cls:=.type "range", data:=.fields #[.int lo t,.int hi u,.int 1 v] }
 | .frz o u=>h.get? a=some o∧uH H h a u
 | .tbl ps=>h.get? a=some { cls:=.none,data:=.fields ps }
 | .tb q=>∃ps:Array Value,h.get? a=some { cls:=.none,data:=.fields ps }∧TriplesOk ps.toList∧∀pos cv,codeAmong pos ps.toList=some cv →
   ∃c oc vs t,cv=.ref c∧H c=some (.frz oc (.own c))∧oc.data=.fields vs∧vs[1]? = some (.str q t)
 | .met f x=>h.get? a=some (PySem.W.methodObj (.ref f) (.ref x))
 | .ext φ=>φ h∧(∃o,h.get? a=some o)∧∀h1 h2:Heap,φ h1→(∀o,h1.get? a=some o→h2.get? a=some o)→φ h2
def HOk (H:Hp)(h:Heap):Prop:=∀a o,H a=some o→uH P w H h a o
end
section
variable {P:Program} {w:World} {H H':Hp} {h h':Heap} {a:Addr} {o:HO}
theorem uH.lt (x:uH P w H h a o):a<h.objs.size:=by
 cases o with
 | lst xs=>obtain⟨_,_,_,_,e⟩:=x;exact Heap.lt_size e
 | tup xs=>obtain⟨_,_,_,p⟩:=x;exact p.lt
 | dK kvs=>obtain⟨_,_,_,_,o,_,_,e,_⟩:=x;exact Heap.lt_size e
 | dT kvs=>obtain⟨_,_,_,_,o,_,_,e,_⟩:=x;exact Heap.lt_size e
 | set S n=>obtain⟨o,_,_,_,e,_⟩:=x;exact Heap.lt_size e
 | ins C dx fs=>obtain⟨_,_,_,e,_⟩:=x;exact Heap.lt_size e
 | own y=>obtain⟨_,e⟩:=x;exact Heap.lt_size e
 | xd fs=>obtain⟨_,⟨_,_,_,e,_⟩,_⟩:=x;exact Heap.lt_size e
 | rng lo hi=>obtain⟨_,_,_,e⟩:=x;exact Heap.lt_size e
 | frz ob u=>obtain⟨e,_⟩:=x;exact Heap.lt_size e
 | tbl ps=>exact Heap.lt_size (show h.get? a=some _ from x)
 | tb q=>obtain⟨_,e,_⟩:=x;exact Heap.lt_size e
 | met f y=>exact Heap.lt_size (show h.get? a=some _ from x)
 | ext φ=>obtain⟨_,⟨_,e⟩,_⟩:=x;exact Heap.lt_size e
theorem Paired.mapP:∀ {l₁:List α} {l₂:List β},Paired F l₁ l₂→(∀a b,F a b→G a b)→Paired G l₁ l₂
 | _,_,.nil,_=>.nil
 | _,_,.cons r t,f=>.cons (f _ _ r) (Paired.mapP t f)
theorem uH.stay (x:uH P w H h a o)(k:∀b u,(b=a∨H b=some (.own a))→h.get? b=some u→h'.get? b=some u)
  (ho:∀b,H b=some (.own a)→H' b=some (.own a)) (ht:∀b xs,H b=some (.tup xs)→H' b=some (.tup xs)) (hf:∀b o u,H b=some (.frz o u)→H' b=some (.frz o u)):uH P w H' h' a o:=by
 induction o with
 | lst xs=>obtain⟨z,its,n,r,e⟩:=x;exact⟨z,its,n,r,k _ _ (.inl rfl) e⟩
 | tup xs=>obtain⟨z,its,r,ob,e,c⟩:=x;exact⟨z,its,r,ob,k _ _ (.inl rfl) e,c⟩
 | dK kvs=>obtain⟨z,y,vs,r,ob,es,ep,e,c⟩:=x;exact⟨z,y,vs,r,ob,es,ep,k _ _ (.inl rfl) e,c⟩
 | dT kvs =>
  obtain⟨z,y,xs,r,ob,es,ep,e,c⟩:=x
  exact⟨z,y,xs,Paired.mapP r fun p q z=>⟨z.1,ht _ _ z.2.1,z.2.2⟩,ob,es,ep,k _ _ (.inl rfl) e,c⟩
 | set S n=>obtain⟨ob,es,ep,t,e,c⟩:=x;exact⟨ob,es,ep,t,k _ _ (.inl rfl) e,c⟩
 | ins C dx fs =>
  obtain⟨d,z,ne,e,mA,⟨od,es,ep,e2,c⟩,r⟩:=x
  exact⟨ho _ d,z,ne,k _ _ (.inl rfl) e,mA,⟨od,es,ep,k _ _ (.inr d) e2,c⟩,r⟩
 | own y=>obtain⟨ob,e⟩:=x;exact⟨ob,k _ _ (.inl rfl) e⟩
 | xd fs=>obtain⟨mA,⟨od,es,ep,e,c⟩,r⟩:=x;exact⟨mA,⟨od,es,ep,k _ _ (.inl rfl) e,c⟩,r⟩
 | rng lo hi=>obtain⟨t,u,v,e⟩:=x;exact⟨t,u,v,k _ _ (.inl rfl) e⟩
 | frz ob u ih=>obtain⟨e,q⟩:=x;exact⟨k _ _ (.inl rfl) e,ih q⟩
 | tbl ps =>
  have e:h.get? a=some { cls:=.none,data:=.fields ps }:=x
  show h'.get? a=some { cls:=.none,data:=.fields ps }
  exact k a _ (.inl rfl) e
 | tb q =>
  obtain⟨ps,e,z,y⟩:=x
  exact⟨ps,k _ _ (.inl rfl) e,z,fun pos cv e=>let ⟨c,oc,vs,t,e1,e2,e3⟩:=y pos cv e;⟨c,oc,vs,t,e1,hf _ _ _ e2,e3⟩⟩
 | met f y =>
  have e:h.get? a=some (PySem.W.methodObj (.ref f) (.ref y)):=x
  show h'.get? a=some (PySem.W.methodObj (.ref f) (.ref y))
  exact k a _ (.inl rfl) e
 | ext φ=>obtain⟨p,⟨o,e⟩,st⟩:=x;exact⟨st _ _ p fun o q=>k _ _ (.inl rfl) q,⟨o,k _ _ (.inl rfl) e⟩,st⟩
theorem HOk.lt (x:HOk P w H h)(e:H a=some o):a<h.objs.size:=(x a o e).lt
theorem HOk.fresh (x:HOk P w H h)(e:h.objs.size≤a):H a=none:=by
 cases q:H a with
 | none=>rfl
 | some u=>exact absurd (xlg (x.lt q) e) (xle _)
theorem HOk.kept (x:HOk P w H h)(k:∀b u,h.get? b=some u→h'.get? b=some u):HOk P w H h':=fun a o e =>
 (x a o e).stay (fun b u _ q=>k b u q) (fun _ q=>q) (fun _ _ q=>q) fun _ _ _ q=>q
theorem HOk.laid (x:HOk P w H h)(k:∀b u,h.get? b=some u→h'.get? b=some u)(hp:h.objs.size≤a)(new:uH P w (upd H a o) h' a o):HOk P w (upd H a o) h':=fun b u e=>by
 have hn:=x.fresh hp
 by_cases hb:b=a
 ·subst hb;rw[ya] at e;cases e;exact new
 ·rw[xY hb] at e
  exact(x b u e).stay (fun c v _ q=>k c v q) (fun c q=>by rw[xY (xK q hn)];exact q) (fun c xs q=>by rw[xY (xK q hn)];exact q) fun c o u q=>by rw[xY (xK q hn)];exact q
end
def Rd (H:Hp)(a:Addr)(u:HO):Prop:=H a=some u∨∃o,H a=some (.frz o u)
theorem Rd.ok (r:Rd H a u)(x:HOk P w H h):uH P w H h a u:=by
 rcases r with r | ⟨o,r⟩
 ·exact x a u r
 ·obtain⟨_,q⟩:=x a _ r
  exact q
def Mut:Option HO→Prop
 | some (.lst _)=>True
 | some (.dK _)=>True
 | some (.dT _)=>True
 | some (.set _ _)=>True
 | some (.ins _ _ _)=>True
 | some (.ext _)=>True
 | some (.tb _)=>True
 | _=>False
section
variable {P:Program} {w:World} {H:Hp} {h h':Heap} {x e:Addr} {o':HO}
theorem HOk.write (ok:HOk P w H h)(mu:Mut (H x))(he:e=x∨H e=some (.own x))(k:∀b u,b≠e→h.get? b=some u→h'.get? b=some u)(heo:∃u,h'.get? e=some u)
  (new:uH P w (upd H x o') h' x o'):HOk P w (upd H x o') h':=fun b u q=>by
 have nown:∀c y,H c=some (.own y)→c≠x:=fun c y r z=>by subst z;rw[r] at mu;exact mu
 have ntup:∀c xs,H c=some (.tup xs)→c≠x:=fun c xs r z=>by subst z;rw[r] at mu;exact mu
 have nfrz:∀c o u,H c=some (.frz o u)→c≠x:=fun c o u r z=>by subst z;rw[r] at mu;exact mu
 by_cases hb:b=x
 ·subst hb;rw[ya] at q;cases q;exact new
 ·rw[xY hb] at q
  by_cases hbe:b=e
  ·have q':H b=some (.own x):=by
    rcases he with z | z
    ·exact absurd (hbe.trans z) hb
    ·rw[hbe];exact z
   rw[q] at q';cases q'
   obtain⟨v,hv⟩:=heo
   exact⟨v,by rw[hbe];exact hv⟩
  ·refine(ok b u q).stay (fun c v hc r=>k c v ?_ r) (fun c r=>by rw[xY (nown c b r)];exact r) (fun c xs r=>by rw[xY (ntup c xs r)];exact r) fun c o u r=>by rw[xY (nfrz c o u r)];exact r
   rcases hc with rfl | hc
   ·exact hbe
   ·rintro rfl
    rcases he with z | z
    ·exact nown c b hc z
    ·rw[hc] at z;cases z;exact hb rfl
end
structure Un (fs ex:List Addr)(H H':Hp)(h h':Heap):Prop where
 keep:∀b o,h.get? b=some o→H b=none→b∉fs→b∉ex→h'.get? b=some o
 slot:∀b o,h.get? b=some o→H b=none→b∈fs→b∉ex→∃sl,h'.get? b=some { o with slots:=sl }
 free:∀b o,h.get? b=some o→H b=none→b∉ex→H' b=none
 there:∀b o,h.get? b=some o→b∉ex→∃o',h'.get? b=some o'
 tups:∀b xs,H b=some (.tup xs)→H' b=some (.tup xs)
 frzs:∀b o u,H b=some (.frz o u)→H' b=some (.frz o u)
 tbls:∀b ps,H b=some (.tbl ps)→∃more,H' b=some (.tbl (ps++more))
section
variable {fs fs' ex ex':List Addr} {H H1 H2:Hp} {h h1 h2 h':Heap} {a x e:Addr} {o:HO}
theorem Un.any (u:Un fs ex H H1 h h1)(q:h.get? b=some ob)(n:H b=none)(hx:b∉ex):∃sl,h1.get? b=some { ob with slots:=sl }:=by
 by_cases hb:b∈fs
 ·exact u.slot b ob q n hb hx
 ·exact⟨ob.slots,u.keep b ob q n hb hx⟩
theorem Un.kept (k:∀b u,h.get? b=some u→h'.get? b=some u):Un fs ex H H h h' :=
 ⟨fun b ob q _ _ _=>k b ob q,fun b ob q _ _ _=>⟨ob.slots,k b ob q⟩,fun _ _ _ n _=>n,fun b ob q _=>⟨ob,k b ob q⟩,fun _ _ q=>q,fun _ _ _ q=>q,fun _ ps q=>⟨#[],by rw[q];simp⟩⟩
theorem Un.refl:Un fs ex H H h h:=Un.kept fun _ _ q=>q
theorem Un.laid (k:∀b u,h.get? b=some u→h'.get? b=some u)(hp:h.objs.size≤a)(hn:H a=none):Un fs ex H (upd H a o) h h' where
 keep:=fun b u q _ _ _=>k b u q
 slot:=fun b u q _ _ _=>⟨u.slots,k b u q⟩
 free:=fun b u q n _=>by rw[xY (xlm (xlg (Heap.lt_size q) hp))];exact n
 there:=fun b u q _=>⟨u,k b u q⟩
 tups:=fun b xs q=>by rw[xY (xK q hn)];exact q
 frzs:=fun b u xs q=>by rw[xY (xK q hn)];exact q
 tbls:=fun b ps q=>⟨#[],by rw[xY (xK q hn),q];simp⟩
theorem Un.write (mu:Mut (H x))(he:e=x∨H e=some (.own x))(k:∀b u,b≠e→h.get? b=some u→h'.get? b=some u)(heo:∃u,h'.get? e=some u):Un fs ex H (upd H x o) h h':=by
 have hx:∀b,H b=none→b≠x:=fun b n z=>by subst z;rw[n] at mu;exact mu
 have hb:∀b,H b=none→b≠e:=fun b n z=>by
  subst z
  rcases he with r | r
  ·exact hx b n r
  ·rw[n] at r;cases r
 have hm:∀b u,H b=some u→¬Mut (some u)→b≠x:=fun b u q nm z=>by subst z;rw[q] at mu;exact nm mu
 refine⟨fun b u q n _ _=>k b u (hb b n) q,fun b u q n _ _=>⟨u.slots,k b u (hb b n) q⟩,fun b u q n _=>by rw[xY (hx b n)];exact n,fun b u q _=>?_,
  fun b xs q=>by rw[xY (hm b _ q fun z=>z)];exact q,fun b u xs q=>by rw[xY (hm b _ q fun z=>z)];exact q,fun b ps q=>⟨#[],by rw[xY (hm b _ q fun z=>z),q];simp⟩⟩
 by_cases hbe:b=e
 ·subst hbe;exact heo
 ·exact⟨u,k b u hbe q⟩
end
def trk (h:Heap)(H:Hp):List Addr:=(List.range h.objs.size).filter fun a=>(H a).isSome
def o7 (h:Heap)(H:Hp):Heap:=PySem.W.hideAll h (trk h H)
theorem mS (h:Heap)(H:Hp):(o7 h H).objs.size=h.objs.size:=PySem.W.hideAll_size _ _
theorem o8 (e:h.get? b=some o)(n:H b=none):(o7 h H).get? b=some o :=
 PySem.W.hideAll_get _ e fun hm=>by
  have q:(H b).isSome=true:=(xkM.mp hm).2
  rw[n] at q;simp at q
theorem xcb (e:(o7 h H).get? b=some o):h.get? b=some o∧H b=none:=by
 have e':h.get? b=some o:=PySem.W.of_hideAll (trk h H) e
 refine⟨e',?_⟩
 cases q:H b with
 | none=>rfl
 | some x =>
  have hm:b∈trk h H:=xkM.mpr ⟨xkT.mpr (Heap.lt_size e'),by simp[q]⟩
  have z:(o7 h H).get? b=none:=PySem.W.hideAll_none (trk h H) hm
  rw[z] at e;cases e
def xfM (g h:Heap)(L:Addr):List (Addr×Obj):=(List.range h.objs.size).filterMap fun a=>if a=L∨(g.get? a).isSome=true then none else(h.get? a).map fun o=>(a,o)
def rest (g h:Heap)(L d:Addr):List (Addr×Obj):=(xfM g h L).filter fun p=>decide (p.1≠d)
end L2
namespace L2
open PySem PySem.Spec PyProof.Rows
structure Mod (K:PySem.W.Frag)(mg:Str→Option Value)(base:Heap):Prop where
 kin:K.In base
 glob:base.Ns mainGlobals mg
 blt:∃mb,base.Ns builtinsNs mb∧∀x:Str,x ≠ "__name__" → mb x=bootBuiltins x
 nolimit:base.NoLimit
structure Cx where
 prog:Program
 w:World
 K:PySem.W.Frag
 mg:Str→Option Value
 base:Heap
 A:Around
 N:List Str
 s₀:Shared
 H₀:Hp
 env:Env
 outer:List Env
 stack:List Env
 ex:List Addr
 fn:Str→Bool
 calm:Bool
 pn:List (Addr×Obj)
 xe:Value→Shared→Prop
def frs (l:List Env):List Addr:=l.filterMap (·.frame)
abbrev Cx.fs (X:Cx):List Addr:=frs X.outer
def Vis (sc:Scope)(x:Str):Prop:=sc.names.lookup x=some .local∨sc.names.lookup x=some .cell∨sc.names.lookup x=some .free
def Loc (sc:Scope)(x:Str):Prop:=sc.names.lookup x=some .local∨sc.names.lookup x=some .cell
def Look (env:Env)(h:Heap)(m:Str→Option Value)(x:Str)(u:Value):Prop :=
 (env.kindOf x=some .local∧m x=some u)∨((env.kindOf x=some .cell∨env.kindOf x=some .free)∧∃c,env.cells.lookup x=some c∧h.IsCell c (some u))
structure Cx.Ok (X:Cx):Prop where
 mod:Mod X.K X.mg X.base
 kind:X.env.scope.kind=.function
 glob:X.env.globals=mainGlobals
 blt:X.env.builtins=builtinsNs
 above:X.s₀.heap.objs.size≤X.env.locals
 inj:∀x y c,X.env.cells.lookup x=some c→X.env.cells.lookup y=some c→x=y
 has:∀x,(X.env.kindOf x=some .cell∨X.env.kindOf x=some .free)→∃c,X.env.cells.lookup x=some c
 cab:∀x c,X.fn x=true→X.env.cells.lookup x=some c→X.s₀.heap.objs.size≤c
 hd:X.calm=true→X.A.handled=none
 frames:X.A.frames=some X.stack
 stk:X.stack=X.outer∨(X.stack=X.env::X.outer∧X.env.frame=some X.env.locals)
 exf:∀b∈X.ex,b≠X.env.locals∧∀x c,X.env.cells.lookup x=some c→c≠b
 bs:∀b o,X.base.get? b=some o→X.s₀.heap.get? b=some o∧X.H₀ b=none
 bsz:X.base.objs.size≤X.s₀.heap.objs.size
 noex:∀b o,X.base.get? b=some o→b∉X.ex
 exfs:∀b∈X.ex,b∉X.fs
 funs:X.s₀.heap.FunFrames X.base X.outer
 frf:∀b∈X.fs,X.H₀ b=none
structure Inv (X:Cx)(pins:List (Addr×Obj))(σ:List (Option V))(H:Hp)(s:Shared):Prop where
 ok:X.Ok
 os:s.os=X.s₀.os
 bare:AllBare s.gens
 base:Un X.fs X.ex X.H₀ H X.s₀.heap s.heap
 loc:∃m,s.heap.Ns X.env.locals m∧∀(i:Nat) (x:Str) (v:V),X.N[i]? = some x→σ[i]? = some (some v)→Vis X.env.scope x→∃u,RelV v u∧Look X.env s.heap m x u
 cell:∀x c,X.env.cells.lookup x=some c→∃v,s.heap.IsCell c v
 free:H X.env.locals=none
 freeC:∀x c,X.env.cells.lookup x=some c→H c=none
 pin:∀p∈X.pn++pins,s.heap.get? p.1=some p.2∧H p.1=none∧p.1≠X.env.locals∧p.1∉X.fs∧∀v,p.2.data≠.cell v
 hok:HOk X.prog X.w H s.heap
 len:σ.length=X.N.length
section
variable {X:Cx} {pins:List (Addr×Obj)} {σ:List (Option V)} {H H':Hp} {s:Shared} {h':Heap}
theorem Cx.Ok.nofr (ok:X.Ok)(e:X.base.get? b=some o):b∉X.fs:=fun hb=>by
 have:=(ok.funs.mem hb).1
 rw[e] at this;cases this
theorem Inv.bs (I:Inv X pins σ H s):∀b o,X.base.get? b=some o→s.heap.get? b=some o∧H b=none:=fun b o e =>
 ⟨I.base.keep b o (I.ok.bs b o e).1 (I.ok.bs b o e).2 (I.ok.nofr e) (I.ok.noex b o e),I.base.free b o (I.ok.bs b o e).1 (I.ok.bs b o e).2 (I.ok.noex b o e)⟩
theorem Inv.bk (I:Inv X pins σ H s):∀b o,X.base.get? b=some o→s.heap.get? b=some o:=fun b o e=>(I.bs b o e).1
theorem Inv.mod (I:Inv X pins σ H s):Mod X.K X.mg X.base:=I.ok.mod
theorem Inv.kIn (I:Inv X pins σ H s):X.K.In s.heap:=I.ok.mod.kin.keeps I.bk
theorem Inv.lt (I:Inv X pins σ H s):X.env.locals<s.heap.objs.size:=let ⟨_,hn,_⟩:=I.loc;hn.lt
theorem Inv.sz (I:Inv X pins σ H s):X.s₀.heap.objs.size≤s.heap.objs.size:=xld I.ok.above (xla I.lt)
theorem Inv.nofs (I:Inv X pins σ H s)(h:s.heap.objs.size≤a):a∉X.fs:=fun hb=>by
 obtain⟨_,o,ho,_⟩:=I.ok.funs.mem hb
 exact absurd (xlg (Heap.lt_size ho) (xld I.sz h)) (xle _)
theorem Inv.cne (I:Inv X pins σ H s):∀x c,X.env.cells.lookup x=some c→c≠X.env.locals:=fun x c e z=>by
 obtain⟨v,o,ho,hd⟩:=I.cell x c e
 obtain⟨m,⟨o',es,ep,ho',hd',_⟩,_⟩:=I.loc
 rw[z,ho'] at ho;cases ho;rw[hd'] at hd;cases hd
theorem Inv.funs (I:Inv X pins σ H s):s.heap.FunFrames X.base X.outer:=by
 have all:∀(l:List Env),(∀b∈frs l,b∈X.fs)→X.s₀.heap.FunFrames X.base l→s.heap.FunFrames X.base l:=by
  intro l
  induction l with
  | nil=>intro _ _;trivial
  | cons env r ih =>
   intro hs hl
   obtain⟨hk,⟨L,o,hf,hn,ho,hd⟩,hr⟩:=hl
   have hL:L∈X.fs:=hs L (by unfold frs;rw[xj9,hf];exact xkL)
   obtain⟨sl,e⟩:=I.base.slot L o ho (I.ok.frf L hL) hL fun z=>I.ok.exfs L z hL
   exact⟨hk,⟨L,_,hf,hn,e,hd⟩,ih (fun b hb=>hs b (by unfold frs;rw[xj9,hf];exact xkK _ hb)) hr⟩
 exact all X.outer (fun _ hb=>hb) I.ok.funs
theorem Inv.stack (I:Inv X pins σ H s):s.heap.FunFrames X.base X.stack:=by
 rcases I.ok.stk with e | ⟨e,hf⟩
 ·rw[e];exact I.funs
 ·rw[e]
  obtain⟨m,hn,_⟩:=I.loc
  refine .cons (by rw[I.ok.kind];decide) hf hn ?_ I.funs
  exact Heap.get?_none_of_le (xld I.ok.bsz I.ok.above)
theorem Inv.stkSub (I:Inv X pins σ H s):∀b∈frs X.stack,b∈X.env.locals::X.fs:=fun b hb=>by
 rcases I.ok.stk with e | ⟨e,hf⟩
 ·rw[e] at hb;exact xkK _ hb
 ·rw[e] at hb
  unfold frs at hb
  rw[xj9,hf] at hb
  exact hb
theorem Inv.stkFree (I:Inv X pins σ H s):∀b∈frs X.stack,H b=none:=fun b hb=>by
 rcases xkJ.mp (I.stkSub b hb) with e | hb
 ·rw[e];exact I.free
 ·obtain⟨_,o,ho,_⟩:=I.ok.funs.mem hb
  exact I.base.free b o ho (I.ok.frf b hb) fun z=>I.ok.exfs b z hb
theorem Inv.step {g':Array GenState}{t':Nat}{d':Drawn}{ch:List Addr}(I:Inv X pins σ H s)
  (hch:∀b∈ch,(b∈X.ex∨X.s₀.heap.objs.size≤b)∧b≠X.env.locals∧(∀x c,X.env.cells.lookup x=some c→c≠b)∧∀p∈X.pn++pins,p.1≠b)
  (keep:∀b o,b≠X.env.locals→b∉X.fs→b∉ch→s.heap.get? b=some o→H b=none→h'.get? b=some o)
  (slot:∀b o,b≠X.env.locals→b∈X.fs→b∉ch→s.heap.get? b=some o→H b=none→∃sl,h'.get? b=some { o with slots:=sl }) (free:∀b o,b∉ch→s.heap.get? b=some o→H b=none→H' b=none)
  (there:∀b o,b∉ch→s.heap.get? b=some o→∃o',h'.get? b=some o')
  (tups:∀b xs,H b=some (.tup xs)→H' b=some (.tup xs)) (frzs:∀b o u,H b=some (.frz o u)→H' b=some (.frz o u)) (tbls:∀b ps,H b=some (.tbl ps)→∃more,H' b=some (.tbl (ps++more)))
  (ns:∀m,s.heap.Ns X.env.locals m→h'.Ns X.env.locals m) (hok:HOk X.prog X.w H' h') (hg:AllBare g') :
  Inv X pins σ H' { s with heap:=h',gens:=g',drawn:=d',toks:=t' }:=by
 have neL:∀b o,X.s₀.heap.get? b=some o→b≠X.env.locals:=fun b o e=>xlm (xlg (Heap.lt_size e) I.ok.above)
 have neC:∀b o,X.s₀.heap.get? b=some o→b∉X.ex→b∉ch:=fun b o e hx hb=>by
  rcases(hch b hb).1 with z | z
  ·exact hx z
  ·exact absurd (xlg (Heap.lt_size e) z) (xle _)
 have cellK:∀x c,X.env.cells.lookup x=some c→∀v,s.heap.IsCell c v→h'.IsCell c v:=fun x c e v ⟨o,ho,hd⟩=>by
  have nch:c∉ch:=fun z=>(hch c z).2.2.1 x c e rfl
  by_cases hc:c∈X.fs
  ·obtain⟨sl,q⟩:=slot c o (I.cne x c e) hc nch ho (I.freeC x c e)
   exact⟨_,q,hd⟩
  ·exact⟨o,keep c o (I.cne x c e) hc nch ho (I.freeC x c e),hd⟩
 refine⟨I.ok,I.os,hg,⟨fun b o e n hb hx=>?_,fun b o e n hb hx=>?_,fun b o e n hx=>?_,fun b o e hx=>?_,fun b xs e=>tups b xs (I.base.tups b xs e),fun b o xs e=>frzs b o xs (I.base.frzs b o xs e),fun b ps e=>?_⟩,?_,fun x c e=>?_,?_,fun x c e=>?_,fun p hp=>?_,hok,I.len⟩
 ·exact keep b o (neL b o e) hb (neC b o e hx) (I.base.keep b o e n hb hx) (I.base.free b o e n hx)
 ·obtain⟨sl,e1⟩:=I.base.slot b o e n hb hx
  obtain⟨sl',e2⟩:=slot b _ (neL b o e) hb (neC b o e hx) e1 (I.base.free b o e n hx)
  exact⟨sl',e2⟩
 ·obtain⟨o',e1⟩:=I.base.there b o e hx
  exact free b o' (neC b o e hx) e1 (I.base.free b o e n hx)
 ·obtain⟨o',e1⟩:=I.base.there b o e hx
  exact there b o' (neC b o e hx) e1
 ·obtain⟨m1,e1⟩:=I.base.tbls b ps e
  obtain⟨m2,e2⟩:=tbls b _ e1
  exact⟨m1++m2,by rw[e2,Array.append_assoc]⟩
 ·obtain⟨m,hn,hl⟩:=I.loc
  refine⟨m,ns m hn,fun i x v e1 e2 e3=>?_⟩
  obtain⟨u,r,l⟩:=hl i x v e1 e2 e3
  refine⟨u,r,?_⟩
  rcases l with l | ⟨k,c,e,z⟩
  ·exact .inl l
  ·exact .inr ⟨k,c,e,cellK x c e _ z⟩
 ·obtain⟨v,z⟩:=I.cell x c e
  exact⟨v,cellK x c e v z⟩
 ·obtain⟨m,⟨o,_,_,ho,_⟩,_⟩:=I.loc
  exact free _ o (fun z=>(hch _ z).2.1 rfl) ho I.free
 ·obtain⟨v,o,ho,hd⟩:=I.cell x c e
  exact free c o (fun z=>(hch c z).2.2.1 x c e rfl) ho (I.freeC x c e)
 ·obtain⟨e,n,ne,nf,d⟩:=I.pin p hp
  have nch:p.1∉ch:=fun z=>(hch p.1 z).2.2.2 p hp rfl
  exact⟨keep p.1 p.2 ne nf nch e n,free p.1 p.2 nch e n,ne,nf,d⟩
theorem Inv.un {t':Nat}(I:Inv X pins σ H s)(u:Un X.fs [] H H' s.heap h')(hok:HOk X.prog X.w H' h'):Inv X pins σ H' { s with heap:=h',toks:=t' }:=by
 obtain⟨m,⟨o,es,ep,ho,r⟩,_⟩:=id I.loc
 obtain⟨sl,hL⟩:=u.any ho I.free (by simp)
 exact I.step (g':=s.gens) (d':=s.drawn) (ch:=[]) (fun _ z=>nomatch z) (fun b o _ hb _ e n=>u.keep b o e n hb (by simp)) (fun b o _ hb _ e n=>u.slot b o e n hb (by simp)) (fun b o _ e n=>u.free b o e n (by simp)) (fun b o _ e=>u.there b o e (by simp)) u.tups u.frzs u.tbls (fun m' hm=>by
  obtain⟨o',es',ep',ho',r'⟩:=hm
  rw[ho] at ho';cases ho'
  exact⟨_,es',ep',hL,r'⟩) hok I.bare
theorem Inv.call {g':Array GenState}{t':Nat}{d':Drawn}{ch:List Addr}(I:Inv X pins σ H s)(u:Un (frs X.stack) ch H H' s.heap h')(hok:HOk X.prog X.w H' h')(hg:AllBare g')
  (hch:∀b∈ch,(b∈X.ex∨X.s₀.heap.objs.size≤b)∧b≠X.env.locals∧(∀x c,X.env.cells.lookup x=some c→c≠b)∧∀p∈X.pn++pins,p.1≠b) :
  Inv X pins σ H' { s with heap:=h',gens:=g',drawn:=d',toks:=t' }:=by
 obtain⟨m,⟨o,es,ep,ho,r⟩,_⟩:=id I.loc
 obtain⟨sl,hL⟩:=u.any ho I.free fun z=>(hch _ z).2.1 rfl
 exact I.step (ch:=ch) hch (fun b o hL hb hc e n=>u.keep b o e n (fun z=>(xkJ.mp (I.stkSub b z)).elim hL hb) hc) (fun b o _ _ hc e n=>u.any e n hc) (fun b o hc e n=>u.free b o e n hc) (fun b o hc e=>u.there b o e hc) u.tups u.frzs u.tbls (fun m' hm=>by
  obtain⟨o',es',ep',ho',r'⟩:=hm
  rw[ho] at ho';cases ho'
  exact⟨_,es',ep',hL,r'⟩) hok hg
theorem Inv.turned {t':Nat}{it:Addr}(I:Inv X pins σ H s)(k:∀b o,b≠it→s.heap.get? b=some o→h'.get? b=some o)(hn:H it=none)(hL:it≠X.env.locals)
  (h1:it∈X.ex∨X.s₀.heap.objs.size≤it) (h2:∀x c,X.env.cells.lookup x=some c→c≠it) (h3:∀p∈X.pn++pins,p.1≠it):Inv X pins σ H { s with heap:=h',toks:=t' }:=by
 have nit:∀b u,H b=some u→b≠it:=fun b u e z=>by rw[z,hn] at e;cases e
 refine I.step (g':=s.gens) (d':=s.drawn) (ch:=[it]) (fun b hb=>?_) (fun b o _ _ hc e _=>k b o (fun z=>hc (by simp[z])) e) (fun b o _ _ hc e _=>⟨o.slots,k b o (fun z=>hc (by simp[z])) e⟩) (fun _ _ _ _ n=>n)
  (fun b o hc e=>⟨o,k b o (fun z=>hc (by simp[z])) e⟩) (fun _ _ e=>e) (fun _ _ _ e=>e) (fun b ps e=>⟨#[],by rw[e];simp⟩) (fun m hm=>?_) (fun b u e=>?_) I.bare
 ·have e:b=it:=by simpa using hb
  subst e
  exact⟨h1,hL,h2,h3⟩
 ·obtain⟨o,es,ep,ho,r⟩:=hm
  exact⟨o,es,ep,k _ o (Ne.symm hL) ho,r⟩
 ·refine(I.hok b u e).stay (fun c v hc q=>k c v ?_ q) (fun _ q=>q) (fun _ _ q=>q) fun _ _ _ q=>q
  rcases hc with z | z
  ·rw[z];exact nit b u e
  ·exact nit c _ z
theorem Inv.tok (I:Inv X pins σ H s)(t:Nat):Inv X pins σ H { s with toks:=t }:=I.un (h':=s.heap) (t':=t) Un.refl I.hok
theorem Inv.kept (I:Inv X pins σ H s)(k:∀b u,s.heap.get? b=some u→h'.get? b=some u):Inv X pins σ H { s with heap:=h',toks:=t' }:=I.un (Un.kept k) (I.hok.kept k)
theorem Inv.laid (I:Inv X pins σ H s)(k:∀b u,s.heap.get? b=some u→h'.get? b=some u)(hp:s.heap.objs.size≤a)(new:uH X.prog X.w (upd H a o) h' a o) :
  Inv X pins σ (upd H a o) { s with heap:=h',toks:=t' }:=I.un (Un.laid k hp (I.hok.fresh hp)) (I.hok.laid k hp new)
theorem Inv.write (I:Inv X pins σ H s)(mu:Mut (H x))(he:e=x∨H e=some (.own x))(k:∀b u,b≠e→s.heap.get? b=some u→h'.get? b=some u)(heo:∃u,h'.get? e=some u)
  (new:uH X.prog X.w (upd H x o) h' x o):Inv X pins σ (upd H x o) { s with heap:=h',toks:=t' }:=I.un (Un.write mu he k heo) (I.hok.write mu he k heo new)
theorem Inv.weak (I:Inv X pins σ H s)(hl:σ'.length=σ.length)(w:∀(i:Nat) v,σ'[i]? = some (some v)→σ[i]? = some (some v)):Inv X pins σ' H s :=
 ⟨I.ok,I.os,I.bare,I.base,let ⟨m,hn,hl'⟩:=I.loc;⟨m,hn,fun i x v e1 e2 e3=>hl' i x v e1 (w i v e2) e3⟩,I.cell,I.free,I.freeC,I.pin,I.hok,hl.trans I.len⟩
theorem Inv.pins_of (I:Inv X pins σ H s)(h:∀p∈pins',s.heap.get? p.1=some p.2∧H p.1=none∧p.1≠X.env.locals∧p.1∉X.fs∧∀v,p.2.data≠.cell v):Inv X pins' σ H s :=
 ⟨I.ok,I.os,I.bare,I.base,I.loc,I.cell,I.free,I.freeC,fun p hp=>(xkG.mp hp).elim (fun z=>I.pin p (xkH _ z)) (h p),I.hok,I.len⟩
theorem tG {N:List Str}(hN:N.Nodup){i j:Nat}{x:Str}(a:N[i]? = some x)(b:N[j]? = some x):i=j:=by
 obtain⟨h1,e1⟩:=xkk.mp a
 obtain⟨h2,e2⟩:=xkk.mp b
 exact(List.getElem_inj hN).mp (e1.trans e2.symm)
theorem bC {M:Model}{A:Around}{E:Value→Shared→Prop}{i:Nat}{x:Str}{v:V}{u:Value}{Q:Unit→Shared→Prop}(I:Inv X pins σ H s)(hN:X.N.Nodup)(hi:X.N[i]? = some x)(hx:Loc X.env.scope x)(r:RelV v u)
  (h:∀s',Inv X pins (σ.set i (some v)) H s'→(∃a,Heap.SameBut a s.heap s'.heap∧(a=X.env.locals∨X.env.cells.lookup x=some a))→Q () s') (hf:X.fn x=true∨X.env.scope.names.lookup x=some .local:=by first | exact .inl rfl | exact .inr rfl | assumption):wpAny M A (storeName X.env x u) Q E s:=by
 obtain⟨m,hn,hl⟩:=id I.loc
 have hcls:(X.env.scope.kind == .class || (X.env.scope.kind == .module&&X.env.locals != X.env.globals))=false:=by rw[I.ok.kind];rfl
 have hiσ:i<σ.length:=by rw[I.len];exact(xkk.mp hi).1
 have cne:=I.cne
 have tracked:∀ {a:Addr} {h':Heap},(∃o,s.heap.get? a=some o∧H a=none)→Heap.SameBut a s.heap h'→HOk X.prog X.w H h':=fun {a h'} ha hs b ob e=>by
  obtain⟨_,_,hfree⟩:=ha
  refine(I.hok b ob e).stay (fun c w' hc q=>(hs.2 c ?_).trans q) (fun _ q=>q) (fun _ _ q=>q) fun _ _ _ q=>q
  rintro rfl
  rcases hc with rfl | hc
  ·rw[hfree] at e;cases e
  ·rw[hfree] at hc;cases hc
 rcases hx with hk | hk
 ·refine wpAny_storeName_local hk hn (fun h' hn' hs=>?_) hcls
  obtain⟨oL,_,_,hoL,_⟩:=id hn
  refine h _ ⟨I.ok,I.os,I.bare,⟨fun b o e n hb hx=>?_,fun b o e n hb hx=>?_,I.base.free,fun b o e hx=>?_,I.base.tups,I.base.frzs,I.base.tbls⟩,⟨_,hn',fun j y v' e1 e2 e3=>?_⟩,fun y c e=>?_,I.free,I.freeC,fun p hp=>?_,tracked ⟨oL,hoL,I.free⟩ hs,by simpa using I.len⟩ ⟨_,hs,.inl rfl⟩
  ·exact(hs.2 b (xlm (xlg (Heap.lt_size e) I.ok.above))).trans (I.base.keep b o e n hb hx)
  ·obtain⟨sl,e1⟩:=I.base.slot b o e n hb hx
   exact⟨sl,(hs.2 b (xlm (xlg (Heap.lt_size e) I.ok.above))).trans e1⟩
  ·obtain⟨o',e1⟩:=I.base.there b o e hx
   exact⟨o',(hs.2 b (xlm (xlg (Heap.lt_size e) I.ok.above))).trans e1⟩
  ·by_cases hj:j=i
   ·subst hj
    rw[hi] at e1;cases e1
    rw[xko hiσ] at e2
    cases e2
    exact⟨u,r,.inl ⟨hk,by simp⟩⟩
   ·rw[xkn (Ne.symm hj)] at e2
    obtain⟨u',r',q⟩:=hl j y v' e1 e2 e3
    refine⟨u',r',?_⟩
    rcases q with ⟨k,e⟩ | ⟨k,c,e,z⟩
    ·refine .inl ⟨k,?_⟩
     have:y≠x:=fun e=>hj (tG hN e1 (e▸hi))
     simp[this,e]
    ·exact .inr ⟨k,c,e,z.sameBut hs (cne y c e)⟩
  ·obtain⟨w',z⟩:=I.cell y c e
   exact⟨w',z.sameBut hs (cne y c e)⟩
  ·obtain⟨e,n,ne,nf,d⟩:=I.pin p hp
   exact⟨(hs.2 p.1 ne).trans e,n,ne,nf,d⟩
 ·have hfn:X.fn x=true:=by
   rcases hf with z | z
   ·exact z
   ·rw[z] at hk;cases hk
  obtain⟨c,hc⟩:=I.ok.has x (.inl hk)
  obtain⟨w',z⟩:=I.cell x c hc
  refine wpAny_storeName_cell I.ok.kind hk hc z (fun h' hc' hs=>?_)
  obtain⟨oc,hoc,hocd⟩:=id z
  refine h { s with heap:=h' } ⟨I.ok,I.os,I.bare,⟨fun b o e n hb hx=>?_,fun b o e n hb hx=>?_,I.base.free,fun b o e hx=>?_,I.base.tups,I.base.frzs,I.base.tbls⟩,⟨m,hn.sameBut hs (Ne.symm (cne x c hc)),fun j y v' e1 e2 e3=>?_⟩,fun y c' e=>?_,I.free,I.freeC,fun p hp=>?_,tracked ⟨oc,hoc,I.freeC x c hc⟩ hs,by simpa using I.len⟩ ⟨c,hs,.inr hc⟩
  ·exact(hs.2 b (xlm (xlg (Heap.lt_size e) (I.ok.cab x c hfn hc)))).trans (I.base.keep b o e n hb hx)
  ·obtain⟨sl,e1⟩:=I.base.slot b o e n hb hx
   exact⟨sl,(hs.2 b (xlm (xlg (Heap.lt_size e) (I.ok.cab x c hfn hc)))).trans e1⟩
  ·obtain⟨o',e1⟩:=I.base.there b o e hx
   exact⟨o',(hs.2 b (xlm (xlg (Heap.lt_size e) (I.ok.cab x c hfn hc)))).trans e1⟩
  ·by_cases hj:j=i
   ·subst hj
    rw[hi] at e1;cases e1
    rw[xko hiσ] at e2
    cases e2
    exact⟨u,r,.inr ⟨.inl hk,c,hc,hc'⟩⟩
   ·rw[xkn (Ne.symm hj)] at e2
    obtain⟨u',r',q⟩:=hl j y v' e1 e2 e3
    refine⟨u',r',?_⟩
    rcases q with q | ⟨k,c',e,z'⟩
    ·exact .inl q
    ·refine .inr ⟨k,c',e,z'.sameBut hs ?_⟩
     rintro rfl
     exact hj (tG hN e1 (I.ok.inj _ _ _ e hc▸hi))
  ·by_cases hcc:c'=c
   ·subst hcc;exact⟨_,hc'⟩
   ·obtain⟨w2,z2⟩:=I.cell y c' e
    exact⟨w2,z2.sameBut hs hcc⟩
  ·obtain⟨e,n,ne,nf,d⟩:=I.pin p hp
   refine⟨(hs.2 p.1 ?_).trans e,n,ne,nf,d⟩
   intro q
   rw[q,hoc] at e
   have q':oc=p.2:=xlp e
   exact d w' (by rw[←q'];exact hocd)
theorem vb (I:Inv X pins σ H s)(hN:X.N.Nodup)(hi:X.N[i]? = some x)(hx:Loc X.env.scope x)(r:RelV v u)
  (h:∀s',Inv X pins (σ.set i (some v)) H s'→Q () s') (hf:X.fn x=true∨X.env.scope.names.lookup x=some .local:=by first | exact .inl rfl | exact .inr rfl | assumption):wpAny M A (storeName X.env x u) Q E s :=
 bC I hN hi hx r (fun s' I' _=>h s' I') hf
theorem Inv.call' (I:Inv X pins σ H s)(ho:s'.os=s.os)(u:Un (frs X.stack) ch H H' s.heap s'.heap)(hok:HOk X.prog X.w H' s'.heap)(hg:AllBare s'.gens)
  (hch:∀b∈ch,(b∈X.ex∨X.s₀.heap.objs.size≤b)∧b≠X.env.locals∧(∀x c,X.env.cells.lookup x=some c→c≠b)∧∀p∈X.pn++pins,p.1≠b):Inv X pins σ H' s':=by
 obtain⟨h',g',d',t',o'⟩:=s'
 have e:o'=s.os:=ho
 subst e
 exact I.call (g':=g') (t':=t') (d':=d') u hok hg hch
end
abbrev XK:=Value→Option Addr→Hp→Prop
abbrev St:=List (Option V)
abbrev VK:=V→Hp→Prop
abbrev TE:=St→Hp→VK→Prop
abbrev TT:=St→Hp→(Bool→Hp→Prop)→Prop
abbrev TA:=St→Hp→(List V→Hp→Prop)→Prop
structure Ends where
 nx:St→Hp→Prop
 rt:VK
 bk:St→Hp→Prop:=fun _ _=>False
 ct:St→Hp→Prop:=fun _ _=>False
abbrev TS:=Ends→St→Hp→Prop
def EP (X:Cx)(pins:List (Addr×Obj))(σ:St)(Q:VK)(u:Value)(s':Shared):Prop:=∃v H',Inv X pins σ H' s'∧RelV v u∧Q v H'
def TP (X:Cx)(pins:List (Addr×Obj))(σ:St)(Q:Bool→Hp→Prop)(b:Bool)(s':Shared):Prop:=∃H',Inv X pins σ H' s'∧Q b H'
def AP (X:Cx)(pins:List (Addr×Obj))(σ:St)(Q:List V→Hp→Prop)(us:List Value)(s':Shared):Prop:=∃vs H',Inv X pins σ H' s'∧zQ vs us∧Q vs H'
def SP (X:Cx)(pins:List (Addr×Obj))(D:Ends)(f:Flow)(s':Shared):Prop :=
 match f with
 | .next=>∃ σ' H',Inv X pins σ' H' s'∧D.nx σ' H'
 | .brk=>∃ σ' H',Inv X pins σ' H' s'∧D.bk σ' H'
 | .cont=>∃ σ' H',Inv X pins σ' H' s'∧D.ct σ' H'
 | .ret u=>∃v σ' H',Inv X pins σ' H' s'∧RelV v u∧D.rt v H'
def PE (X:Cx)(e:Expr)(t:TE):Prop :=
 ∀ ⦃pins:List (Addr×Obj)⦄ (s:Shared) (σ:St) (H:Hp) (Q:VK),Inv X pins σ H s→t σ H Q→wpAny (model X.prog X.w) X.A (eval e X.env) (EP X pins σ Q) X.xe s
def PT (X:Cx)(e:Expr)(t:TT):Prop :=
 ∀ ⦃pins:List (Addr×Obj)⦄ (s:Shared) (σ:St) (H:Hp) (Q:Bool→Hp→Prop),Inv X pins σ H s→t σ H Q→wpAny (model X.prog X.w) X.A (isTrue e X.env (eval e X.env)) (TP X pins σ Q) X.xe s
def PW (X:Cx)(e:Expr)(t:TT):Prop :=
 ∀ ⦃whole:Sem Value⦄ (pins:List (Addr×Obj)) (s:Shared) (σ:St) (H:Hp) (Q:Bool→Hp→Prop),Inv X pins σ H s→t σ H Q→wpAny (model X.prog X.w) X.A (isTrue e X.env whole) (TP X pins σ Q) X.xe s
theorem PW.pt (h:PW X e t):PT X e t:=@h _
def PA (X:Cx)(es:List Expr)(t:TA):Prop :=
 ∀ ⦃pos:Pos⦄ (pins:List (Addr×Obj)) (s:Shared) (σ:St) (H:Hp) (Q:List V→Hp→Prop),Inv X pins σ H s→t σ H Q→wpAny (model X.prog X.w) X.A (spliced (backTo pos (starEach es X.env))) (AP X pins σ Q) X.xe s
def PS (X:Cx)(st:Stmt)(t:TS):Prop :=
 ∀ ⦃pins:List (Addr×Obj)⦄ (s:Shared) (σ:St) (H:Hp) (D:Ends),Inv X pins σ H s→t D σ H→wpAny (model X.prog X.w) X.A (exec st X.env) (SP X pins D) X.xe s
def PSs (X:Cx)(st:List Stmt)(t:TS):Prop :=
 ∀ ⦃pins:List (Addr×Obj)⦄ (s:Shared) (σ:St) (H:Hp) (D:Ends),Inv X pins σ H s→t D σ H→wpAny (model X.prog X.w) X.A (execs st X.env) (SP X pins D) X.xe s
theorem thn (h:wpAny M A t Q E s)(hQ:∀a s,Q a s→Q' a s):wpAny M A t Q' E s:=wpAny_mono h hQ fun _ _ x=>x
end L2
namespace L2
open PySem PySem.Spec PyProof.Rows
section
variable {X:Cx}
def rz (i:Nat):TE:=fun σ H Q=>∃v,σ[i]? = some (some v)∧Q v H
def tC (v:V):TE:=fun _ H Q=>Q v H
theorem xeh (hN:X.N[i]? = some x)(hv:Vis X.env.scope x)(hd:(x == ("__debug__" : Str))=false:=by decide)(hcd:(x == ("__classdict__" : Str))=false:=by decide):PE X (.Name x pos) (rz i):=by
 intro pins s σ H Q I h
 obtain⟨v,e,h⟩:=h
 obtain⟨m,hn,hl⟩:=I.loc
 obtain⟨u,r,l⟩:=hl i x v hN e hv
 have fin:EP X pins σ Q u s:=⟨v,H,I,r,h⟩
 rcases l with ⟨hk,hm⟩ | ⟨hk,c,hc,hcell⟩
 ·exact wpAny_Name (wpAny_loadName_local I.ok.kind hk hn hm fin) hd
 ·rcases hk with hk | hk
  ·exact wpAny_Name (wpAny_loadName_cell I.ok.kind hk hc hcell fin) hd
  ·exact wpAny_Name (wpAny_loadName_free I.ok.kind hk hc hcell fin hcd) hd
theorem xh:PE X (.Constant (.int i) j pos) (tC (.int i)):=fun _ _ _ H _ I h=>wpAny_Constant_int ⟨.int i,H,I.tok _,⟨_,rfl⟩,h⟩
theorem vF:PE X (.Constant (.bool b) j pos) (tC (.bl b)):=fun _ _ _ H _ I h=>Constant_bool ⟨.bl b,H,I,rfl,h⟩
theorem j6:PE X (.Constant .none j pos) (tC .non):=fun _ _ _ H _ I h=>Constant_none ⟨.non,H,I,rfl,h⟩
theorem xdX:PE X (.Constant (.str x) j pos) (tC (.str x)):=fun _ _ _ H _ I h=>Calls.Constant_str ⟨.str x,H,I.tok _,⟨_,rfl⟩,h⟩
def Gl (X:Cx)(x:Str):Prop:=X.env.kindOf x=some .globalImplicit
theorem fW (I:Inv X pins σ H s)(hg:Gl X x)(hm:X.mg x=some u)(h:Q u s)
  (hd:(x == ("__debug__" : Str))=false:=by decide):wpAny (model X.prog X.w) X.A (eval (.Name x pos) X.env) Q E s :=
 Calls.Name_function_global I.ok.kind hg (Calls.loadGlobal_global (by rw[I.ok.glob];exact I.mod.glob.keeps I.bk) hm h) hd
theorem rA (I:Inv X pins σ H s)(hg:Gl X x)(hm:X.mg x=none)(hv:bootBuiltins x=some u)(h:Q u s)
  (hn:x ≠ "__name__" := by decide) (hd:(x == ("__debug__" : Str))=false:=by decide):wpAny (model X.prog X.w) X.A (eval (.Name x pos) X.env) Q E s:=by
 obtain⟨mb,h1,h2⟩:=I.mod.blt
 exact Calls.Name_function_global I.ok.kind hg (Calls.loadGlobal_builtin (by rw[I.ok.glob];exact I.mod.glob.keeps I.bk) hm (by rw[I.ok.blt];exact h1.keeps I.bk) ((h2 x hn).trans hv) h) hd
theorem zA (hg:Gl X x)(hm:X.mg x=some u)(r:RelV v u)(hd:(x == ("__debug__" : Str))=false:=by decide):PE X (.Name x pos) (tC v) :=
 fun _ _ _ H _ I h=>fW I hg hm ⟨v,H,I,r,h⟩ hd
theorem uV (hg:Gl X x)(hm:X.mg x=none)(hv:bootBuiltins x=some u)(r:RelV v u)(hn:x ≠ "__name__" := by decide)(hd:(x == ("__debug__" : Str))=false:=by decide):PE X (.Name x pos) (tC v) :=
 fun _ _ _ H _ I h=>rA I hg hm hv ⟨v,H,I,r,h⟩ hn hd
variable {a b:Expr} {ta tb:TE} {pos:Pos}
def PC (X:Cx)(op:CmpOp)(a b:Expr)(t:TE):Prop :=
 ∀(pins:List (Addr×Obj)) (s:Shared) (σ:St) (H:Hp) (Q:VK),Inv X pins σ H s→t σ H Q →
  wpAny (model X.prog X.w) X.A (eval a X.env) (fun v s₁=>wpAny (model X.prog X.w) X.A (eval b X.env) (fun u s₂=>wpAny (model X.prog X.w) X.A (compareOp op v u) (EP X pins σ Q) X.xe s₂) X.xe s₁) X.xe s
theorem xc_ (b:Expr)(h:op≠.In)(h2:op≠.NotIn):behindInMarks op b=false:=by
 have e1:(op == CmpOp.In)=false:=by cases op<;>first | rfl | exact absurd rfl h
 have e2:(op == CmpOp.NotIn)=false:=by cases op<;>first | rfl | exact absurd rfl h2
 cases b<;>simp[behindInMarks,e1,e2]
def xiY (ta:TE):TE:=fun σ H Q=>ta σ H fun x H1=>Q (.bl (decide (x=.non))) H1
def xgE (ta:TE):TE:=fun σ H Q=>ta σ H fun x H1=>Q (.bl (!decide (x=.non))) H1
theorem RelV.none_iff (r:RelV x v):(v == Value.none)=decide (x=.non):=by
 cases x with
 | non=>cases r;rfl
 | bl _=>cases r;rfl
 | int _=>obtain⟨t,rfl⟩:=r;rfl
 | str _=>obtain⟨t,rfl⟩:=r;rfl
 | byt _=>obtain⟨t,rfl⟩:=r;rfl
 | flt _=>obtain⟨t,rfl⟩:=r;rfl
 | ref _=>cases r;rfl
 | ty _=>cases r;rfl
theorem nR (ha:PE X a ta):PC X .Is a (.Constant .none j pos') (xiY ta):=by
 intro pins s σ H Q I h
 refine thn (@ha pins s σ H _ I h) fun v s1 ⟨x,H1,I1,r1,q1⟩=>?_
 exact Constant_none (is_none_gen ⟨.bl _,H1,I1,by rw[r1.none_iff];rfl,q1⟩)
theorem xco (ha:PE X a ta):PC X .IsNot a (.Constant .none j pos') (xgE ta):=by
 intro pins s σ H Q I h
 refine thn (@ha pins s σ H _ I h) fun v s1 ⟨x,H1,I1,r1,q1⟩=>?_
 exact Constant_none (isnot_none_gen ⟨.bl _,H1,I1,by rw[r1.none_iff];rfl,q1⟩)
def tB (t:TE):TT:=fun σ H Q=>t σ H fun x H1=>∃c,x=.bl c∧Q c H1
theorem sW (h:PC X op a b t)(h1:behindInMarks op b=false:=by first | exact xc_ _ (by decide) (by decide) | rfl):PT X (.Compare a [op] [b] pos) (tB t):=by
 intro pins s σ H Q I hw
 refine wpAny_isTrue_Compare1 (thn (@h pins s σ H _ I hw) fun v s1 h1=>thn h1 fun u s2 h2=>thn h2 fun c s3 ⟨x,H1,I1,r1,q1⟩=>?_) h1
 obtain⟨d,rfl,q⟩:=q1
 cases r1
 exact wpAny_truthy_bool ⟨H1,I1,q⟩
theorem yO (h:PE X e t)(he:∀whole,isTrue e X.env whole=(do let v ←whole;standAt e.pos;holding [v] (truthy v)):=by intro _;rfl):PT X e (tB t):=by
 intro pins s σ H Q I hw
 refine isTrue_plain (thn (@h pins s σ H _ I hw) fun v s1 ⟨x,H1,I1,r1,q1⟩=>?_) (he _)
 obtain⟨d,rfl,q⟩:=q1
 cases r1
 exact wpAny_truthy_bool ⟨H1,I1,q⟩
variable {tA tB':TT} {rest:List Expr}
def xiM (t u:TT):TT:=fun σ H Q=>t σ H fun c H1=>if c=true then u σ H1 Q else Q false H1
def tOr (t u:TT):TT:=fun σ H Q=>t σ H fun c H1=>if c=true then Q true H1 else u σ H1 Q
def xiy (t:TT):TT:=fun σ H Q=>t σ H fun c H1=>Q (!c) H1
theorem qY (ha:PT X a tA):PW X (.BoolOp .And [a] pos) tA:=by
 intro wh pins s σ H Q I h
 refine isTrue_and (thn (@ha pins s σ H Q I h) fun c s1 e=>?_)
 cases c with
 | true=>exact isTrue_and_nil e
 | false=>exact e
theorem wV (ha:PT X a tA):PW X (.BoolOp .Or [a] pos) tA:=by
 intro wh pins s σ H Q I h
 refine isTrue_or (thn (@ha pins s σ H Q I h) fun c s1 e=>?_)
 cases c with
 | false=>exact isTrue_or_nil e
 | true=>exact e
theorem g6 (ha:PT X a tA)(hb:PW X (.BoolOp .And (b::rest) pos) tB'):PW X (.BoolOp .And (a::b::rest) pos) (xiM tA tB'):=by
 intro wh pins s σ H Q I h
 refine isTrue_and (thn (@ha pins s σ H _ I h) fun c s1 ⟨H1,I1,q1⟩=>?_)
 cases c with
 | true=>exact @hb wh pins s1 σ H1 Q I1 q1
 | false=>exact⟨H1,I1,q1⟩
theorem uA (ha:PT X a tA)(hb:PW X (.BoolOp .Or (b::rest) pos) tB'):PW X (.BoolOp .Or (a::b::rest) pos) (tOr tA tB'):=by
 intro wh pins s σ H Q I h
 refine isTrue_or (thn (@ha pins s σ H _ I h) fun c s1 ⟨H1,I1,q1⟩=>?_)
 cases c with
 | true=>exact⟨H1,I1,q1⟩
 | false=>exact @hb wh pins s1 σ H1 Q I1 q1
theorem zf (ha:PT X a tA):PT X (.UnaryOp .Not a pos) (xiy tA):=by
 intro pins s σ H Q I h
 exact isTrue_not (@ha pins s σ H (fun c H1=>Q (!c) H1) I h)
def xgn (ta tb:TE):TE:=fun σ H Q=>ta σ H fun x H1=>∃c,x=.bl c∧if c=true then tb σ H1 Q else Q (.bl false) H1
def xiT (ta tb:TE):TE:=fun σ H Q=>ta σ H fun x H1=>∃c,x=.bl c∧if c=true then Q (.bl true) H1 else tb σ H1 Q
def xgh (ta:TE):TE:=fun σ H Q=>ta σ H fun x H1=>∃c,x=.bl c∧Q (.bl (!c)) H1
theorem jX (h:PE X a t):PE X (.BoolOp op [a] pos) t:=fun pins s σ H Q I hw=>BoolOp_one (@h pins s σ H Q I hw)
theorem rg (ha:PE X a ta)(hb:PE X (.BoolOp .And (b::rest) pos) tb):PE X (.BoolOp .And (a::b::rest) pos) (xgn ta tb):=by
 intro pins s σ H Q I h
 refine BoolOp_and (thn (@ha pins s σ H _ I h) fun v s1 ⟨x,H1,I1,r1,q1⟩=>?_)
 obtain⟨c,rfl,q1⟩:=q1
 cases r1
 refine wpAny_truthy_bool ?_
 cases c with
 | true=>exact @hb pins s1 σ H1 Q I1 q1
 | false=>exact⟨.bl false,H1,I1,rfl,q1⟩
theorem xdT (ha:PE X a ta)(hb:PE X (.BoolOp .Or (b::rest) pos) tb):PE X (.BoolOp .Or (a::b::rest) pos) (xiT ta tb):=by
 intro pins s σ H Q I h
 refine BoolOp_or (thn (@ha pins s σ H _ I h) fun v s1 ⟨x,H1,I1,r1,q1⟩=>?_)
 obtain⟨c,rfl,q1⟩:=q1
 cases r1
 refine wpAny_truthy_bool ?_
 cases c with
 | false=>exact @hb pins s1 σ H1 Q I1 q1
 | true=>exact⟨.bl true,H1,I1,rfl,q1⟩
theorem xb0 (ha:PE X a ta):PE X (.UnaryOp .Not a pos) (xgh ta):=by
 intro pins s σ H Q I h
 refine UnaryOp_ (thn (@ha pins s σ H _ I h) fun v s1 ⟨x,H1,I1,r1,q1⟩=>?_)
 obtain⟨c,rfl,q1⟩:=q1
 cases r1
 exact not_of (wpAny_truthy_bool ⟨.bl (!c),H1,I1,rfl,q1⟩)
end
end L2
namespace L2
open PySem PySem.Spec PyProof.Rows
def SqL (K:PySem.W.Frag)(H:Hp)(a:Addr)(xs:List V):Prop :=
 Rd H a (.lst xs) ∨
  ∃(o:Obj) (its:Array Value) (n:Nat),K.lookup a=some o∧o.cls=.type "list" ∧ o.dict=none∧o.data=.seq its n∧its.size≤sizeLine∧zQ xs its.toList
def SqT (K:PySem.W.Frag)(H:Hp)(a:Addr)(xs:List V):Prop :=
 Rd H a (.tup xs) ∨
  ∃(o:Obj) (its:Array Value) (n:Nat),K.lookup a=some o∧o.cls=.type "tuple" ∧ o.data=.seq its n∧its.size≤sizeLine∧zQ xs its.toList
def xjd:Value→Option V
 | .none=>some .non
 | .bool b=>some (.bl b)
 | .int i _=>some (.int i)
 | .str x _=>some (.str x)
 | .bytes b _=>some (.byt b)
 | .float b _=>some (.flt b)
 | .ref a=>some (.ref a)
 | .type n=>some (.ty n)
 | _=>none
theorem RelV.abs (r:RelV x u):xjd u=some x:=by
 cases x with
 | non=>cases r;rfl
 | bl _=>cases r;rfl
 | int _=>obtain⟨t,rfl⟩:=r;rfl
 | str _=>obtain⟨t,rfl⟩:=r;rfl
 | byt _=>obtain⟨t,rfl⟩:=r;rfl
 | flt _=>obtain⟨t,rfl⟩:=r;rfl
 | ref _=>cases r;rfl
 | ty _=>cases r;rfl
theorem RelV.inj (r:RelV x u)(q:RelV y u):x=y:=xlp (r.abs.symm.trans q.abs)
theorem zQ.inj:∀ {xs ys:List V} {us:List Value},zQ xs us→zQ ys us→xs=ys
 | _,_,_,.nil,.nil=>rfl
 | _,_,_,.cons r t,.cons r' t'=>by rw[r.inj r',zQ.inj t t']
section
variable {X:Cx} {pins:List (Addr×Obj)} {σ:St} {H:Hp} {s:Shared} {a:Addr} {xs ys:List V}
theorem SqL.of {K:PySem.W.Frag}(h:H a=some (.lst xs)):SqL K H a xs:=.inl (.inl h)
theorem SqT.of {K:PySem.W.Frag}(h:H a=some (.tup xs)):SqT K H a xs:=.inl (.inl h)
theorem Inv.list (I:Inv X pins σ H s)(h:SqL X.K H a xs):∃its:List Value,zQ xs its∧PlainL s.heap a its.toArray∧xs.length≤sizeLine:=by
 rcases h with h | ⟨o,its,n,hk,hc,hd,hs,hz,r⟩
 ·obtain⟨z,its,n,r,e⟩:=h.ok I.hok
  exact⟨its,r,⟨_,n,e,rfl,rfl,rfl⟩,z⟩
 ·refine⟨its.toList,r,⟨o,n,I.kIn a o hk,hc,hd,by simpa using hs⟩,?_⟩
  have e:=r.length
  simp only[Array.length_toList] at e
  omega
theorem Inv.tuple (I:Inv X pins σ H s)(h:SqT X.K H a xs):∃its:List Value,zQ xs its∧IsTup s.heap a its.toArray∧xs.length≤sizeLine:=by
 rcases h with h | ⟨o,its,n,hk,hc,hs,hz,r⟩
 ·obtain⟨z,its,r,p⟩:=h.ok I.hok
  exact⟨its,r,p,z⟩
 ·refine⟨its.toList,r,⟨o,I.kIn a o hk,hc,n,by simpa using hs⟩,?_⟩
  have e:=r.length
  simp only[Array.length_toList] at e
  omega
theorem Inv.list_inj (I:Inv X pins σ H s)(h:SqL X.K H a xs)(h':SqL X.K H a ys):xs=ys:=by
 obtain⟨its,r,⟨o,n,e,_,_,d⟩,_⟩:=I.list h
 obtain⟨its',r',⟨o',n',e',_,_,d'⟩,_⟩:=I.list h'
 rw[e] at e';cases e'
 rw[d] at d'
 injection d' with d1 _
 have:its=its':=by simpa using xlq Array.toList d1
 subst this
 exact r.inj r'
theorem Inv.tuple_inj (I:Inv X pins σ H s)(h:SqT X.K H a xs)(h':SqT X.K H a ys):xs=ys:=by
 obtain⟨its,r,⟨o,e,_,n,d⟩,_⟩:=I.tuple h
 obtain⟨its',r',⟨o',e',_,n',d'⟩,_⟩:=I.tuple h'
 rw[e] at e';cases e'
 rw[d] at d'
 injection d' with d1 _
 have:its=its':=by simpa using xlq Array.toList d1
 subst this
 exact r.inj r'
end
abbrev Cx.wish (X:Cx)(E:Value→Shared→Prop):Cx:={ X with xe:=E }
abbrev Cx.nox (X:Cx):Cx:=X.wish fun _ _=>False
theorem Cx.Ok.wish {X:Cx}(ok:X.Ok)(E:Value→Shared→Prop):(X.wish E).Ok :=
 ⟨ok.mod,ok.kind,ok.glob,ok.blt,ok.above,ok.inj,ok.has,ok.cab,ok.hd,ok.frames,ok.stk,ok.exf,ok.bs,ok.bsz,ok.noex,ok.exfs,ok.funs,ok.frf⟩
theorem Cx.Ok.unwish {X:Cx}{E:Value→Shared→Prop}(ok:(X.wish E).Ok):X.Ok :=
 ⟨ok.mod,ok.kind,ok.glob,ok.blt,ok.above,ok.inj,ok.has,ok.cab,ok.hd,ok.frames,ok.stk,ok.exf,ok.bs,ok.bsz,ok.noex,ok.exfs,ok.funs,ok.frf⟩
section
variable {X:Cx} {pins:List (Addr×Obj)} {σ:St} {H:Hp} {s:Shared} {E:Value→Shared→Prop}
theorem Inv.wish (I:Inv X pins σ H s)(E:Value→Shared→Prop):Inv (X.wish E) pins σ H s:=⟨I.ok.wish E,I.os,I.bare,I.base,I.loc,I.cell,I.free,I.freeC,I.pin,I.hok,I.len⟩
theorem Inv.unwish (I:Inv (X.wish E) pins σ H s):Inv X pins σ H s:=⟨I.ok.unwish,I.os,I.bare,I.base,I.loc,I.cell,I.free,I.freeC,I.pin,I.hok,I.len⟩
theorem SP.unwish (h:SP (X.wish E) pins D f s'):SP X pins D f s':=by
 cases f with
 | next=>obtain⟨σ',H',I,q⟩:=h;exact⟨σ',H',I.unwish,q⟩
 | brk=>obtain⟨σ',H',I,q⟩:=h;exact⟨σ',H',I.unwish,q⟩
 | cont=>obtain⟨σ',H',I,q⟩:=h;exact⟨σ',H',I.unwish,q⟩
 | ret u=>obtain⟨v,σ',H',I,r,q⟩:=h;exact⟨v,σ',H',I.unwish,r,q⟩
theorem PSs.nox {st:List Stmt}{t:TS}(h:PSs X.nox st t):PSs X st t:=fun pins s σ H D I hw =>
 wpAny_mono (@h pins s σ H D (I.wish _) hw) (fun _ _ q=>q.unwish) fun _ _ z=>False.elim z
end
section
variable {X:Cx} {st:Stmt} {rest:List Stmt} {t u:TS} {e:Expr} {te:TE} {pos:Pos}
def xf0:TS:=fun D σ H=>D.nx σ H
def xfS (t u:TS):TS:=fun D σ H=>t { D with nx:=u D } σ H
theorem xZ:PSs X [] xf0:=fun _ _ σ H _ I h=>wpAny_execs_nil ⟨σ,H,I,h⟩
theorem xc (h1:PS X st t)(h2:PSs X rest u):PSs X (st::rest) (xfS t u):=by
 intro pins s σ H D I h
 refine wpAny_execs_cons (thn (@h1 pins s σ H { D with nx:=u D } I h) fun f s1 q=>?_)
 cases f with
 | next =>
  obtain⟨σ',H',I',q⟩:=q
  exact @h2 pins s1 σ' H' D I' q
 | ret v=>exact q
 | brk=>exact q
 | cont=>exact q
theorem xi (h1:PS X st t):PSs X [st] t:=by
 intro pins s σ H D I h
 refine wpAny_execs_cons (thn (@h1 pins s σ H D I h) fun f s1 q=>?_)
 cases f with
 | next=>exact wpAny_execs_nil q
 | ret v=>exact q
 | brk=>exact q
 | cont=>exact q
theorem Inv.quiet (I:Inv X pins σ H s):interactive X.env=false:=by simp[interactive,I.ok.kind]
def xdG (te:TE):TS:=fun D σ H=>te σ H fun _ H1=>D.nx σ H1
theorem ub (he:PE X e te)(hs:swapsWith e none pos.line X.env=pure false:=by rfl):PS X (.Expr e pos) (xdG te):=by
 intro pins s σ H D I h
 exact wpAny_Expr_any (thn (@he pins s σ H _ I h) fun v s1 ⟨x,H1,I1,r1,q1⟩=>⟨σ,H1,I1,q1⟩) I.quiet hs
def xhs (te:TE):TS:=fun D σ H=>te σ H D.rt
theorem xE (he:PE X e te):PS X (.Return (some e) pos) (xhs te):=by
 intro pins s σ H D I h
 exact wpAny_Return_some (thn (@he pins s σ H _ I h) fun v s1 ⟨x,H1,I1,r1,q1⟩=>⟨x,σ,H1,I1,r1,q1⟩)
def xhV (c:TT)(t u:TS):TS:=fun D σ H=>c σ H fun b H1=>if b=true then t D σ H1 else u D σ H1
theorem yR (hc:PT X c tc)(ha:PSs X a t)(hb:PSs X b u):PS X (.If c a b pos) (xhV tc t u):=by
 intro pins s σ H D I h
 refine wpAny_If (thn (@hc pins s σ H _ I h) fun d s1 ⟨H1,I1,q1⟩=>?_)
 cases d with
 | true=>exact @ha pins s1 σ H1 D I1 q1
 | false=>exact @hb pins s1 σ H1 D I1 q1
def o9:TS:=fun _ _ _=>False
theorem fM:PS X st o9:=fun _ _ _ _ _ _ h=>h.elim
end
abbrev TG:=V→St→Hp→(St→Hp→Prop)→Prop
abbrev TGs:=List V→St→Hp→(St→Hp→Prop)→Prop
def PG (X:Cx)(target:Expr)(t:TG):Prop :=
 ∀(pins:List (Addr×Obj)) (s:Shared) (σ:St) (H:Hp) (v:V) (u:Value) (Q:St→Hp→Prop),Inv X pins σ H s→RelV v u→t v σ H Q →
  wpAny (model X.prog X.w) X.A (assign target X.env u) (fun _ s'=>∃ σ' H',Inv X pins σ' H' s'∧Q σ' H') X.xe s
def PGs (X:Cx)(ts:List Expr)(t:TGs):Prop :=
 ∀(pins:List (Addr×Obj)) (s:Shared) (σ:St) (H:Hp) (vs:List V) (us:List Value) (Q:St→Hp→Prop),Inv X pins σ H s→zQ vs us→t vs σ H Q →
  wpAny (model X.prog X.w) X.A (assignInOrder ((assignEach ts X.env).map (·.2)) us) (fun _ s'=>∃ σ' H',Inv X pins σ' H' s'∧Q σ' H') X.xe s
abbrev xiU:=V→V→V→Hp→(Hp→Prop)→Prop
def xiD (X:Cx)(t:xiU):Prop :=
 ∀(pins:List (Addr×Obj)) (s:Shared) (σ:St) (H:Hp) (o i v:V) (ov iv u:Value) (Q:Hp→Prop),Inv X pins σ H s→RelV o ov→RelV i iv→RelV v u→t o i v H Q →
  wpAny (model X.prog X.w) X.A (setItem ov iv u) (fun _ s'=>∃H',Inv X pins σ H' s'∧Q H') X.xe s
section
variable {X:Cx} {pos:Pos}
def dz (i:Nat):TG:=fun v σ H Q=>Q (σ.set i (some v)) H
theorem yb (hN:X.N.Nodup)(hi:X.N[i]? = some x)(hx:Loc X.env.scope x)(hf:X.fn x=true∨X.env.scope.names.lookup x=some .local:=by first | exact .inl rfl | exact .inr rfl | assumption):PG X (.Name x pos) (dz i):=by
 intro pins s σ H v u Q I r h
 exact wpAny_assign_Name (vb I hN hi hx r (fun s' I'=>⟨_,H,I',h⟩) hf)
def xhx:TGs:=fun vs σ H Q=>vs=[]∧Q σ H
def xdr (t:TG)(u:TGs):TGs:=fun vs σ H Q=>∃v r,vs=v::r∧t v σ H fun σ' H'=>u r σ' H' Q
theorem yh:PGs X [] xhx:=by
 intro pins s σ H vs us Q I r h
 obtain⟨e,h⟩:=h
 subst e
 cases r
 exact assignInOrder_nil ⟨σ,H,I,h⟩
theorem xq (h1:PG X e t)(h2:PGs X es u)
  (hs:(assignEach (e::es) X.env).map (·.2)=assign e X.env::(assignEach es X.env).map (·.2):=by rfl):PGs X (e::es) (xdr t u):=by
 intro pins s σ H vs us Q I r h
 obtain⟨v,vr,e1,h⟩:=h
 subst e1
 cases r with
 | cons r rr =>
  rw[hs]
  refine assignInOrder_cons (thn (@h1 pins s σ H _ _ _ I r h) fun _ s1 ⟨σ1,H1,I1,q1⟩=>?_)
  exact @h2 pins s1 σ1 H1 _ _ Q I1 rr q1
def xhm (K:PySem.W.Frag)(n:Nat)(t:TGs):TG:=fun v σ H Q=>∃a xs,v=.ref a∧SqT K H a xs∧xs.length=n∧t xs σ H Q
theorem xgT (hc:X.calm=true)(h:PGs X es t)
  (hn:(assignEach es X.env).length=n:=by rfl) (hst:(assignEach es X.env).findIdx? (·.1)=none:=by rfl):PG X (.Tuple es k pos) (xhm X.K n t):=by
 intro pins s σ H v u Q I r hw
 obtain⟨a,xs,e1,hq,hl,hw⟩:=hw
 subst e1
 cases r
 obtain⟨its,rv,ht,hz⟩:=I.tuple hq
 refine assign_Tuple_tuple (I.ok.hd hc) ht (by simp[hn,←hl,rv.length]) hst fun h' hx=>?_
 have I1:Inv X pins σ H { s with heap:=h' }:=I.kept (t':=s.toks) fun b o e=>hx b o (xlm (Heap.lt_size e)) e
 exact @h pins _ σ H xs _ Q I1 (by simpa using rv) hw
def xiC (to ti:TE)(t:xiU):TG:=fun v σ H Q=>to σ H fun o H1=>ti σ H1 fun i H2=>t o i v H2 fun H3=>Q σ H3
theorem nZ (ho:PE X o to)(hi:PE X i ti)(hs:xiD X t)
  (ha:∀v,assign (.Subscript o i pos) X.env v=(do
   let ov ←holding [v] (eval o X.env)
   let iv ←holding [v,ov] (eval i X.env)
   standAt pos
   holding [v,ov,iv] (setItem ov iv v)
   release [v,ov,iv] []):=by intro _;rfl):PG X (.Subscript o i pos) (xiC to ti t):=by
 intro pins s σ H v u Q I r h
 rw[ha]
 refine wpAny_bind (wpAny_holding (thn (@ho pins s σ H _ I h) fun ov s1 ⟨x,H1,I1,r1,q1⟩=>?_))
 refine wpAny_bind (wpAny_holding (thn (@hi pins s1 σ H1 _ I1 q1) fun iv s2 ⟨y,H2,I2,r2,q2⟩=>?_))
 refine wpAny_bind (wpAny_standAt (wpAny_bind (wpAny_holding (thn (@hs pins s2 σ H2 x y v ov iv u _ I2 r1 r2 r q2) fun _ s3 ⟨H3,I3,q3⟩=>?_))))
 exact wpAny_release ⟨σ,H3,I3,q3⟩
def xed (te:TE)(g:TG):TS:=fun D σ H=>te σ H fun x H1=>g x σ H1 D.nx
theorem zR (he:PE X e te)(hg:PG X tg g)(hs:swapsWithSole [tg] e pos.line X.env=pure false:=by rfl)(hw:swappedStores [tg] e X.env=pure none:=by rfl)
  (h1:(assignEach [tg] X.env).map (·.2)=[assign tg X.env]:=by rfl):PS X (.Assign [tg] e pos) (xed te g):=by
 intro pins s σ H D I h
 refine wpAny_Assign_stores (thn (@he pins s σ H _ I h) fun v s1 ⟨x,H1,I1,r1,q1⟩=>?_) hs hw
 rw[h1]
 exact thn (@hg pins s1 σ H1 x v _ I1 r1 q1) fun _ s2 q=>q
theorem wx (hN:X.N.Nodup)(hi:X.N[i]? = some x)(hx:Loc X.env.scope x)(he:PE X e te)(hs:swapsWith e (some (.Name x pos')) pos.line X.env=pure false:=by rfl)(hf:X.fn x=true∨X.env.scope.names.lookup x=some .local:=by first | exact .inl rfl | exact .inr rfl | assumption) :
  PS X (.Assign [.Name x pos'] e pos) (xed te (dz i)):=by
 intro pins s σ H D I h
 refine wpAny_Assign_Name (thn (@he pins s σ H _ I h) fun v s1 ⟨y,H1,I1,r1,q1⟩=>?_) hs
 exact vb I1 hN hi hx r1 (fun s2 I2=>⟨_,H1,I2,q1⟩) hf
def xir (i j:Nat)(ta:TA):TS:=fun D σ H=>ta σ H fun vs H1=>∃v w,vs=[v,w]∧D.nx ((σ.set i (some v)).set j (some w)) H1
theorem jW (hc:X.calm=true)(hN:X.N.Nodup)(hi:X.N[i]? = some x)(hj:X.N[j]? = some y)(hij:i≠j)
  (hx:X.env.scope.names.lookup x=some .local) (hy:X.env.scope.names.lookup y=some .local) (ha:PA X [a,b] ta)
  (hw:swappedStores [.Tuple [.Name x px,.Name y py] kt pt] (.Tuple [a,b] k2 pt2) X.env=pure (some [x,y]))
  (hs:swapsWithSole [.Tuple [.Name x px,.Name y py] kt pt] (.Tuple [a,b] k2 pt2) pos.line X.env=pure false:=by rfl) :
  PS X (.Assign [.Tuple [.Name x px,.Name y py] kt pt] (.Tuple [a,b] k2 pt2) pos) (xir i j ta):=by
 intro pins s σ H D I h
 rw[exec_Assign_arm]
 refine wpAny_bind (wpAny_standAt ?_)
 rw[hs]
 refine wpAny_bind (wpAny_pure ?_)
 rw[if_neg (by decide)]
 refine wpAny_bind (Tuple_ (thn (@ha _ pins s σ H _ I h) fun us s1 ⟨vs,H1,I1,r1,q1⟩=>?_))
 obtain⟨v,w,e1,q1⟩:=q1
 subst e1
 obtain⟨u1,u2,rfl,rv,rw'⟩:∃u1 u2,us=[u1,u2]∧RelV v u1∧RelV w u2:=by
  cases r1 with
  | cons p q =>
   cases q with
   | cons p' q' =>
    cases q'
    exact⟨_,_,rfl,p,p'⟩
 refine wpAny_newObj_type ?_ (by show 2≤sizeLine;decide)
 have I2:Inv X pins σ H1 { s1 with heap:=s1.heap.push { cls:=.type "tuple", data:=.seq [u1,u2].toArray } }:=I1.kept (t':=s1.toks) fun b o e=>Heap.get?_push_of_some _ e
 rw[hw]
 refine wpAny_bind (wpAny_pure ?_)
 show wpAny (model X.prog X.w) X.A (do rule "assign.swapped-stores"; let items ←unpackItems (.ref s1.heap.objs.size) 2 none;assignInOrder [fun v=>bindName X.env y v,fun v=>bindName X.env x v] items.reverse;pure Flow.next) _ _ _
 refine wpAny_bind (wpAny_rule (wpAny_bind (unpackItems_tuple (items := #[u1,u2]) (I.ok.hd hc) (IsTup.new s1.heap _) fun h' hx'=>?_)))
 have I3:=I2.kept (h':=h') (t':=s1.toks) fun b o e=>hx' b o (xlm (Heap.lt_size e)) e
 show wpAny _ _ (assignInOrder [fun v=>bindName X.env y v,fun v=>bindName X.env x v] [u2,u1] >>= fun _=>pure Flow.next) _ _ _
 refine wpAny_bind (assignInOrder_cons (wpAny_bindName (vb I3 hN hj (.inl hy) rw' (fun s2 I4=>?_) (.inr hy))))
 refine assignInOrder_cons (wpAny_bindName (vb I4 hN hi (.inl hx) rv (fun s3 I5=>assignInOrder_nil (wpAny_pure ?_)) (.inr hx)))
 rw[List.set_comm _ _ (Ne.symm hij)] at I5
 exact⟨_,H1,I5,q1⟩
end
section
variable {X:Cx} {pos:Pos}
def xdY (c:TT)(tb:TS):TS:=fun D σ H=>∃W:Nat→St→Hp→Prop,(∃m,W m σ H)∧∀m σ H,W m σ H →
 c σ H fun b H1=>if b=true then ∃N:St→Hp→Prop,(∀ σ' H',N σ' H'→∃m',m' < m∧W m' σ' H')∧tb { D with nx:=N,ct:=N,bk:=D.nx } σ H1 else D.nx σ H1
theorem fP (hp:PassesOwn (model X.prog X.w) X.A X.env X.xe)(hc:PT X c tc)(hb:PSs X body tb):PS X (.While c body [] pos) (xdY tc tb):=by
 intro pins s σ H D I h
 obtain⟨W,⟨m0,w0⟩,turn⟩:=h
 refine wpAny_While (codeAny_whileLoop (fun n s'=>∃ σ' H',Inv X pins σ' H' s'∧W n σ' H') ?_ m0 ⟨σ,H,I,w0⟩)
 rintro n s1 ⟨σ1,H1,I1,w1⟩
 refine wpAny_passesOwn hp (thn (@hc pins s1 σ1 H1 _ I1 (turn n σ1 H1 w1)) fun b s2 ⟨H2,I2,q2⟩=>?_)
 cases b with
 | true =>
  obtain⟨N,hN,q2⟩:=q2
  rw[if_pos rfl]
  refine wpAny_passesOwn hp (thn (@hb pins s2 σ1 H2 _ I2 q2) fun f s3 q3=>?_)
  cases f with
  | next =>
   obtain⟨σ3,H3,I3,n3⟩:=q3
   obtain⟨m',hm,w3⟩:=hN σ3 H3 n3
   exact⟨m',hm,σ3,H3,I3,w3⟩
  | cont =>
   obtain⟨σ3,H3,I3,n3⟩:=q3
   obtain⟨m',hm,w3⟩:=hN σ3 H3 n3
   exact⟨m',hm,σ3,H3,I3,w3⟩
  | brk=>exact q3
  | ret v=>exact q3
 | false =>
  rw[if_neg xjn]
  exact wpAny_execs_nil ⟨σ1,H2,I2,q2⟩
end
structure It where
 go:Nat→Hp→Prop
 yld:Nat→Hp→V→Hp→Prop
 stop:Nat→Hp→Prop
def xas (X:Cx)(pins:List (Addr×Obj))(H:Hp)(b:Addr):Prop :=
 H b=none∧b≠X.env.locals∧b∉X.fs∧(b∈X.ex∨X.s₀.heap.objs.size≤b)∧(∀x c,X.env.cells.lookup x=some c→c≠b)∧∀p∈X.pn++pins,p.1≠b
theorem Inv.fpOk (I:Inv X pins σ H s)(hb:s.heap.objs.size≤b)(hn:H' b=none):xas X pins H' b:=by
 refine⟨hn,xll (xlg I.lt hb),I.nofs hb,.inr (xld I.sz hb),fun x c e z=>?_,fun p hp z=>?_⟩
 ·obtain⟨v,q⟩:=I.cell x c e
  exact absurd (xlg q.lt (by rw[z];exact hb)) (xle _)
 ·exact absurd (xlg (Heap.lt_size (I.pin p hp).1) (by rw[z];exact hb)) (xle _)
structure Turn (P:Program)(w:World)(K:PySem.W.Frag)(tg:Expr)(J:It)(fp:List Addr)(it:Addr)(tn:Nat→Heap→Prop):Prop where
 mem:it∈fp
 obj:∀i h,tn i h→∀b∈fp,∃o,h.get? b=some o∧∀v,o.data≠.cell v
 keep:∀i h h',tn i h→(∀b∈fp,∀o,h.get? b=some o→h'.get? b=some o)→tn i h'
 item:∀(X:Cx),X.prog=P→X.w=w→X.K=K→X.calm=true→∀(i:Nat) (pins:List (Addr×Obj)) (s:Shared) (σ:St) (H:Hp) (E:Value→Shared→Prop),Inv X pins σ H s→(∀b∈fp,xas X pins H b)→tn i s.heap→J.go i H →
  wpAny (model P w) X.A (pyNext (.ref it)) (fun r s1=>∃u,r=some u ∧
   wpAny (model P w) X.A (letOwnedTupleGo tg (.ref it) u) (fun _ s2=>∃x H',Inv X pins σ H' s2∧RelV x u∧J.yld i H x H'∧tn (i+1) s2.heap∧∀b∈fp,H' b=none) E s1) E s
 done:∀(X:Cx),X.prog=P→X.w=w→X.K=K→X.calm=true→∀(i:Nat) (pins:List (Addr×Obj)) (s:Shared) (σ:St) (H:Hp) (E:Value→Shared→Prop),Inv X pins σ H s→(∀b∈fp,xas X pins H b)→tn i s.heap→J.stop i H →
  wpAny (model P w) X.A (pyNext (.ref it)) (fun r s1=>r=none∧Inv X pins σ H s1) E s
 self:∀(A:Around) (i:Nat) (s:Shared) (Q:Value→Shared→Prop) (E:Value→Shared→Prop),tn i s.heap→Q (.ref it) s→wpAny (model P w) A (pyIter (.ref it)) Q E s
abbrev TI:=St→Hp→(It→Hp→Prop)→Prop
def PIE (X:Cx)(pins:List (Addr×Obj))(σ:St)(tg:Expr)(R:It→Hp→Prop)(itv:Value)(s2:Shared):Prop :=
 ∃(it:Addr) (fp:List Addr) (tn:Nat→Heap→Prop) (J:It) (H':Hp),itv=.ref it∧Inv X pins σ H' s2∧Turn X.prog X.w X.K tg J fp it tn∧tn 0 s2.heap∧(∀b∈fp,xas X pins H' b)∧R J H'
def PI (X:Cx)(tg iter:Expr)(wi:TI):Prop :=
 ∀(pins:List (Addr×Obj)) (s:Shared) (σ:St) (H:Hp) (R:It→Hp→Prop),Inv X pins σ H s→wi σ H R →
  wpAny (model X.prog X.w) X.A (eval iter X.env) (fun v s1=>wpAny (model X.prog X.w) X.A (pyIter v) (PIE X pins σ tg R) X.xe s1) X.xe s
theorem xfd (ho:s.heap.get? it=some o)(hc:o.cls=.type n)(hd:o.data=.fields vs)
  (hn:["enumerate", "zip", "dict_itemiterator", "dict_reverseitemiterator", "odict_iterator", "itertools.zip_longest", "itertools.pairwise"].contains n=false) (hQ:Q () s):wpAny M A (letOwnedTupleGo tg (.ref it) u) Q E s:=by
 unfold letOwnedTupleGo
 cases tg<;>first
  | exact wpAny_pure hQ
  | (cases u<;>first
    | exact wpAny_pure hQ
    | (refine wpAny_bind (wpAny_load ho ?_)
       rw[hc,hd]
       show wpAny M A (if (["enumerate", "zip", "dict_itemiterator", "dict_reverseitemiterator", "odict_iterator", "itertools.zip_longest", "itertools.pairwise"].contains n&&vs[0]? == some (rawInt _))=true then _ else _) Q E s
       rw[if_neg (by intro h;rw[hn,Bool.false_and] at h;cases h)]
       exact wpAny_pure hQ))
def Itl (K:PySem.W.Frag)(a:Addr):It :=
 ⟨fun i H=>∃xs x,SqL K H a xs∧xs[i]? = some x,fun i H x H'=>H'=H∧∀xs,SqL K H a xs→xs[i]? = some x,fun i H=>∃xs,SqL K H a xs∧xs.length≤i⟩
def Itt (K:PySem.W.Frag)(a:Addr):It :=
 ⟨fun i H=>∃xs x,SqT K H a xs∧xs[i]? = some x,fun i H x H'=>H'=H∧∀xs,SqT K H a xs→xs[i]? = some x,fun i H=>∃xs,SqT K H a xs∧xs.length≤i⟩
def Itr (lo:Int)(n:Nat):It:=⟨fun i _=>i<n,fun i H x H'=>H'=H∧x=.int (lo+i),fun i _=>n≤i⟩
theorem xaQ {P:Program}{w:World}{K:PySem.W.Frag}{tg:Expr}(a it:Addr):Turn P w K tg (Itl K a) [it] it (fun i h=>h.IsListIter it a i) where
 mem:=by simp
 obj:=fun i h st b hb=>by
  have e:b=it:=by simpa using hb
  subst e
  obtain⟨o,e,c,d⟩:=st
  exact⟨o,e,fun v z=>by rw[d] at z;cases z⟩
 keep:=fun i h h' st k=>st.at fun o e=>k it (by simp) o e
 item:=by
  intro X hP hw hK hc i pins s σ H E I hf st hg
  subst hP hw hK
  obtain⟨xs,x,hq,hx⟩:=hg
  obtain⟨its,rv,p,hz⟩:=I.list hq
  obtain⟨u,hu,ru⟩:=rv.get hx
  obtain⟨f0,f1,f2,f3,f4,f5⟩:=hf it (by simp)
  refine wpAny_pyNext_list_item st p.isList (x:=u) (by simpa using hu) fun h' st' sb=>?_
  have I1:Inv X pins σ H { s with heap:=h' }:=I.turned (t':=s.toks) (fun b o hb e=>(sb.2 b hb).trans e) f0 f1 f3 f4 f5
  obtain⟨o,e,c,d⟩:=id st'
  exact⟨u,rfl,xfd (s:={ s with heap:=h' }) e c d (by decide) ⟨x,H,I1,ru,⟨rfl,fun ys hy=>by rw[I.list_inj hy hq];exact hx⟩,st',fun b hb=>(hf b hb).1⟩⟩
 done:=by
  intro X hP hw hK hc i pins s σ H E I hf st hg
  subst hP hw hK
  obtain⟨xs,hq,hx⟩:=hg
  obtain⟨its,rv,p,hz⟩:=I.list hq
  obtain⟨f0,f1,f2,f3,f4,f5⟩:=hf it (by simp)
  have hl:=rv.length
  exact wpAny_pyNext_list_end (I.ok.hd hc) st p.isList (by simp;omega) fun h' eb=>⟨rfl,I.turned (t':=s.toks) (fun b o hb e=>eb b o hb e) f0 f1 f3 f4 f5⟩
 self:=fun _ _ _ _ _ st h=>wpAny_pyIter_listiter st h
theorem lM {P:Program}{w:World}{K:PySem.W.Frag}{tg:Expr}(a it:Addr):Turn P w K tg (Itt K a) [it] it (fun i h=>h.IsTupleIter it a i) where
 mem:=by simp
 obj:=fun i h st b hb=>by
  have e:b=it:=by simpa using hb
  subst e
  obtain⟨o,e,c,d⟩:=st
  exact⟨o,e,fun v z=>by rw[d] at z;cases z⟩
 keep:=fun i h h' st k=>st.at fun o e=>k it (by simp) o e
 item:=by
  intro X hP hw hK hc i pins s σ H E I hf st hg
  subst hP hw hK
  obtain⟨xs,x,hq,hx⟩:=hg
  obtain⟨its,rv,p,hz⟩:=I.tuple hq
  obtain⟨u,hu,ru⟩:=rv.get hx
  obtain⟨f0,f1,f2,f3,f4,f5⟩:=hf it (by simp)
  refine wpAny_pyNext_tuple_item st (show s.heap.IsTuple a its.toArray from p) (x:=u) (by simpa using hu) fun h' st' sb=>?_
  have I1:Inv X pins σ H { s with heap:=h' }:=I.turned (t':=s.toks) (fun b o hb e=>(sb.2 b hb).trans e) f0 f1 f3 f4 f5
  obtain⟨o,e,c,d⟩:=id st'
  exact⟨u,rfl,xfd (s:={ s with heap:=h' }) e c d (by decide) ⟨x,H,I1,ru,⟨rfl,fun ys hy=>by rw[I.tuple_inj hy hq];exact hx⟩,st',fun b hb=>(hf b hb).1⟩⟩
 done:=by
  intro X hP hw hK hc i pins s σ H E I hf st hg
  subst hP hw hK
  obtain⟨xs,hq,hx⟩:=hg
  obtain⟨its,rv,p,hz⟩:=I.tuple hq
  obtain⟨f0,f1,f2,f3,f4,f5⟩:=hf it (by simp)
  have hl:=rv.length
  exact wpAny_pyNext_tuple_end (I.ok.hd hc) st (show s.heap.IsTuple a its.toArray from p) (by simp;omega) fun h' eb=>⟨rfl,I.turned (t':=s.toks) (fun b o hb e=>eb b o hb e) f0 f1 f3 f4 f5⟩
 self:=fun _ _ _ _ _ st h=>wpAny_pyIter_tupleiter st h
theorem lV {P:Program}{w:World}{K:PySem.W.Frag}{tg:Expr}(it:Addr)(lo:Int)(n:Nat):Turn P w K tg (Itr lo n) [it] it (fun i h=>IsRangeIter h it (lo+(i:Nat)*1) ((n:Int)-(i:Nat)) 1) where
 mem:=by simp
 obj:=fun i h st b hb=>by
  have e:b=it:=by simpa using hb
  subst e
  exact⟨_,st,fun v z=>by
   have z':Data.fields _=Data.cell v:=z
   cases z'⟩
 keep:=fun i h h' st k=>k it (by simp) _ st
 item:=by
  intro X hP hw hK hc i pins s σ H E I hf st hg
  subst hP hw hK
  obtain⟨f0,f1,f2,f3,f4,f5⟩:=hf it (by simp)
  have W:=Walks.range (prog:=X.prog) (w:=X.w) (I.ok.hd hc) it lo 1 n
  refine W.item i s _ _ hg st fun v h' tk hv st' kk=>?_
  obtain⟨t,rfl⟩:=hv
  have I1:Inv X pins σ H { s with heap:=h',toks:=tk }:=I.turned (fun b o hb e=>kk b o (by simpa using hb) e) f0 f1 f3 f4 f5
  refine⟨_,rfl,xfd (s:={ s with heap:=h',toks:=tk }) (n := "range_iterator") st' rfl rfl (by decide) ⟨.int (lo+i),H,I1,⟨t,?_⟩,⟨rfl,rfl⟩,st',fun b hb=>(hf b hb).1⟩⟩
  rw[xjR]
 done:=by
  intro X hP hw hK hc i pins s σ H E I hf st hg
  subst hP hw hK
  obtain⟨f0,f1,f2,f3,f4,f5⟩:=hf it (by simp)
  exact wpAny_pyNext_range_end (I.ok.hd hc) st (by have:n≤i:=hg;omega) fun h' eb=>⟨rfl,I.turned (t':=s.toks) (fun b o hb e=>eb b o hb e) f0 f1 f3 f4 f5⟩
 self:=fun _ _ _ _ _ st h=>wpAny_pyIter_rangeiter st h
end L2
namespace L2
open PySem PySem.Spec PyProof.Rows
section
variable {X:Cx} {tg:Expr}
def xhZ (K:PySem.W.Frag)(tl:TE):TI:=fun σ H R=>tl σ H fun x H1=>∃a,x=.ref a∧(∃xs,SqL K H1 a xs)∧R (Itl K a) H1
theorem xdl {pins:List (Addr×Obj)}{σ:St}{H:Hp}{s:Shared}{R:It→Hp→Prop}{E:Value→Shared→Prop}{lo hi:Int}{t u v:Tok}{tk:Nat}(I:Inv X pins σ H s)(h1:-(2 ^ 62)≤lo)(h2:lo<2 ^ 62)(h3:-(2 ^ 62)≤hi)(h4:hi<2 ^ 62)
  (q:R (Itr lo (hi-lo).toNat) H):wpAny (model X.prog X.w) X.A (pyIter (.ref s.heap.objs.size)) (PIE X pins σ tg R) E { s with heap:=s.heap.push { cls:=.type "range", data:=.fields #[.int lo t,.int hi u,.int 1 v] },toks:=tk }:=by
 refine wpAny_pyIter_range (IsRange.new ..) (small_one h1 h2 h3 h4) ?_
 have I1:Inv X pins σ H { s with heap:=s.heap.push { cls:=.type "range", data:=.fields #[.int lo t,.int hi u,.int 1 v] },toks:=tk }:=I.kept fun b o e=>Heap.get?_push_of_some _ e
 refine⟨(s.heap.push { cls:=.type "range", data:=.fields #[.int lo t,.int hi u,.int 1 v] }).objs.size,[(s.heap.push { cls:=.type "range", data:=.fields #[.int lo t,.int hi u,.int 1 v] }).objs.size],_,_,H,rfl,
  I1.kept (t':=tk) fun b o e=>Heap.get?_push_of_some _ e,lV _ lo (hi-lo).toNat,?_,fun b hb=>?_,q⟩
 ·have e1:lo+((0:Nat):Int)*1=lo:=by simp
  have e2:(((hi-lo).toNat:Nat):Int)-((0:Nat):Int)=Builtin.Range.rangeSize lo hi 1:=by rw[rangeSize_one];split<;>omega
  show IsRangeIter _ _ (lo+((0:Nat):Int)*1) ((((hi-lo).toNat:Nat):Int)-((0:Nat):Int)) 1
  rw[e1,e2]
  exact Heap.get?_push_size _ rfl
 ·have e:b=(s.heap.push { cls:=.type "range", data:=.fields #[.int lo t,.int hi u,.int 1 v] }).objs.size:=by simpa using hb
  subst e
  exact I1.fpOk (xlb _) (I1.hok.fresh (xlb _))
def xf8 (ta:TA):TI:=fun σ H R=>ta σ H fun vs H1=>∃j:Int,vs=[.int j]∧-(2 ^ 62)≤j∧j<2 ^ 62∧R (Itr 0 j.toNat) H1
theorem u5 {a:Expr}{ta:TA}{p pos:Pos}(hg:Gl X "range")(hm:X.mg "range" = none)(ha:PA X [a] ta)(hs:starEach [a] X.env=[(false,eval a X.env)]:=by rfl):PI X tg (.Call (.Name "range" p) [a] [] pos) (xf8 ta):=by
 intro pins s σ H R I h
 refine Call_ (rA I hg hm boot_range (PyProof.Rows.callWith_type1 (thn (@ha pos pins s σ H _ I h) fun us s1 ⟨vs,H1,I1,r1,q1⟩=>?_) hs rfl))
 obtain⟨j,e,q1,q2,q⟩:=q1
 subst e
 cases r1 with
 | cons r rr =>
  cases rr
  obtain⟨t,rfl⟩:=r
  exact call_range_1 (xdl I1 (by omega) (by omega) q1 q2 (by simpa using q))
def xiX (wi:TI)(g:TG)(tb:TS):TS:=fun D σ H=>wi σ H fun J H1=>∃W:Nat→Nat→St→Hp→Prop,(∃m,W 0 m σ H1)∧∀i m σ H,W i m σ H →
 (J.stop i H∧D.nx σ H)∨(J.go i H∧∃N:St→Hp→Prop,(∀ σ' H',N σ' H'→∃m',m' < m∧W (i+1) m' σ' H')∧∀x H',J.yld i H x H'→g x σ H' fun σ2 H2=>tb { D with nx:=N,ct:=N,bk:=D.nx } σ2 H2)
def bR (fp:List Addr)(h:Heap):List (Addr×Obj):=fp.filterMap fun b=>(h.get? b).map fun o=>(b,o)
theorem kE (hb:b∈fp)(e:h.get? b=some o):(b,o)∈bR fp h:=xkN.mpr ⟨b,hb,by rw[e];rfl⟩
theorem xcy (hp:p∈bR fp h):p.1∈fp∧h.get? p.1=some p.2:=by
 obtain⟨b,hb,e⟩:=xkN.mp hp
 cases q:h.get? b with
 | none=>rw[q] at e;cases e
 | some o =>
  rw[q] at e
  have e':(b,o)=p:=xlp e
  subst e'
  exact⟨hb,q⟩
theorem Inv.pinned (I:Inv X pins σ H s)(hf:∀b∈fp,xas X pins H b)(ho:∀b∈fp,∃o,s.heap.get? b=some o∧∀v,o.data≠.cell v):Inv X (pins++bR fp s.heap) σ H s :=
 I.pins_of fun p hp=>(xkG.mp hp).elim (fun z=>I.pin p (xkI _ z)) fun z=>by
  obtain⟨hb,e⟩:=xcy z
  obtain⟨f0,f1,f2,_⟩:=hf p.1 hb
  obtain⟨o,e',d⟩:=ho p.1 hb
  rw[e] at e';cases e'
  exact⟨e,f0,f1,f2,d⟩
theorem Inv.unpinned (I:Inv X (pins++pl) σ H s):Inv X pins σ H s:=I.pins_of fun p hp=>I.pin p (xkI _ (xkH _ hp))
theorem zW (hp:PassesOwn (model X.prog X.w) X.A X.env X.xe)(hc:X.calm=true)(hi:PI X tg iter wi)(hg:PG X tg g)(hb:PSs X body tb)
  (hs:∀x,foldedSetIterable iter X.env x=pure x:=by intro _;rfl):PS X (.For tg iter body [] pos) (xiX wi g tb):=by
 intro pins s σ H D I h
 refine wpAny_For (thn (@hi pins s σ H _ I h) fun v s1 h1=>thn h1 fun itv s2 h2=>?_) hs
 obtain⟨it,fp,tn,J,H2,e,I2,T,st2,f2,W,⟨m0,w0⟩,turn⟩:=h2
 subst e
 have stat:∀ {H':Hp},(∀b∈fp,H' b=none)→∀b∈fp,xas X pins H' b:=fun hn b hb=>⟨hn b hb,(f2 b hb).2⟩
 refine codeAny_forLoop_any (fun n s'=>∃i σ' H',Inv X pins σ' H' s'∧tn i s'.heap∧(∀b∈fp,H' b=none)∧W i n σ' H') ?_ m0 ⟨0,σ,H2,I2,st2,fun b hb=>(f2 b hb).1,w0⟩
 rintro n s3 ⟨i,σ3,H3,I3,st3,fr3,w3⟩
 rcases turn i n σ3 H3 w3 with ⟨stop,qn⟩ | ⟨go,N,hN,step⟩
 ·refine wpAny_passesOwn hp (thn (T.done X rfl rfl rfl hc i pins s3 σ3 H3 X.xe I3 (stat fr3) st3 stop) fun r s4 ⟨hr,I4⟩=>?_)
  subst hr
  exact wpAny_execs_nil ⟨σ3,H3,I4,qn⟩
 ·refine wpAny_passesOwn hp (thn (T.item X rfl rfl rfl hc i pins s3 σ3 H3 X.xe I3 (stat fr3) st3 go) fun r s4 ⟨u,hr,h4⟩=>?_)
  subst hr
  refine wpAny_passesOwn hp (thn h4 fun _ s5 ⟨x,H5,I5,r5,y5,st5,fr5⟩=>?_)
  have I5':=I5.pinned (stat fr5) (T.obj _ _ st5)
  refine wpAny_passesOwn hp (thn (hg _ s5 σ3 H5 x u _ I5' r5 (step x H5 y5)) fun _ s6 ⟨σ6,H6,I6,q6⟩=>?_)
  refine wpAny_passesOwn hp (thn (@hb _ s6 σ6 H6 _ I6 q6) fun f s7 q7=>?_)
  have again:∀ {σ7:St} {H7:Hp},Inv X (pins++bR fp s5.heap) σ7 H7 s7→N σ7 H7→∃m,m<n∧∃i σ' H',Inv X pins σ' H' s7∧tn i s7.heap∧(∀b∈fp,H' b=none)∧W i m σ' H':=fun {σ7 H7} I7 n7=>by
   obtain⟨m',hm,w7⟩:=hN σ7 H7 n7
   refine⟨m',hm,i+1,σ7,H7,I7.unpinned,T.keep _ _ _ st5 fun b hb o e=>(I7.pin (b,o) (xkI _ (xkI _ (kE hb e)))).1,fun b hb=>?_,w7⟩
   obtain⟨o,e,d⟩:=T.obj _ _ st5 b hb
   exact(I7.pin (b,o) (xkI _ (xkI _ (kE hb e)))).2.1
  cases f with
  | next=>obtain⟨σ7,H7,I7,n7⟩:=q7;exact again I7 n7
  | cont=>obtain⟨σ7,H7,I7,n7⟩:=q7;exact again I7 n7
  | brk=>obtain⟨σ7,H7,I7,q7⟩:=q7;exact⟨σ7,H7,I7.unpinned,q7⟩
  | ret v=>obtain⟨x7,σ7,H7,I7,r7,q7⟩:=q7;exact⟨x7,σ7,H7,I7.unpinned,r7,q7⟩
end
end L2
namespace L2
open PySem PySem.Spec PyProof.Rows
abbrev R2:=V→V→Hp→VK→Prop
def OpR (X:Cx)(f:Value→Value→Sem Value)(r:R2):Prop :=
 ∀(pins:List (Addr×Obj)) (s:Shared) (σ:St) (H:Hp) (x y:V) (v u:Value) (Q:VK),Inv X pins σ H s→RelV x v→RelV y u→r x y H Q →
  wpAny (model X.prog X.w) X.A (f v u) (EP X pins σ Q) X.xe s
def UnR (X:Cx)(f:Value→Sem Value)(r:V→Hp→VK→Prop):Prop :=
 ∀(pins:List (Addr×Obj)) (s:Shared) (σ:St) (H:Hp) (x:V) (v:Value) (Q:VK),Inv X pins σ H s→RelV x v→r x H Q →
  wpAny (model X.prog X.w) X.A (f v) (EP X pins σ Q) X.xe s
def jA (X:Cx)(f:Value)(r:List V→Hp→VK→Prop):Prop :=
 ∀(pins:List (Addr×Obj)) (s:Shared) (σ:St) (H:Hp) (xs:List V) (us:List Value) (Q:VK),Inv X pins σ H s→zQ xs us→r xs H Q →
  wpAny (model X.prog X.w) X.A (call f us) (EP X pins σ Q) X.xe s
def tOp (r:R2)(ta tb:TE):TE:=fun σ H Q=>ta σ H fun x H1=>tb σ H1 fun y H2=>r x y H2 Q
def tUn (r:V→Hp→VK→Prop)(ta:TE):TE:=fun σ H Q=>ta σ H fun x H1=>r x H1 Q
def rI (C:Int→Int→Prop)(g:Int→Int→V):R2:=fun x y H Q=>∃i j,x=.int i∧y=.int j∧C i j∧Q (g i j) H
def rI0 (g:Int→Int→V):R2:=fun x y H Q=>∃i j,x=.int i∧y=.int j∧Q (g i j) H
def rU (g:Int→V):V→Hp→VK→Prop:=fun x H Q=>∃i,x=.int i∧Q (g i) H
section
variable {X:Cx} {a b c:Expr} {ta tb tc:TE} {pos:Pos}
theorem xhH (ha:PE X a ta)(hb:PE X b tb){pins:List (Addr×Obj)}{s:Shared}{σ:St}{H:Hp}{R:V→V→Hp→Prop}(I:Inv X pins σ H s)
  (h:ta σ H fun x H1=>tb σ H1 fun y H2=>R x y H2) {Q:Value→Shared→Prop} {f:Value→Value→Sem Value}
  (hf:∀v u s2 x y H2,Inv X pins σ H2 s2→RelV x v→RelV y u→R x y H2→wpAny (model X.prog X.w) X.A (f v u) Q X.xe s2) :
  wpAny (model X.prog X.w) X.A (eval a X.env) (fun v s₁=>wpAny (model X.prog X.w) X.A (eval b X.env) (fun u s₂=>wpAny (model X.prog X.w) X.A (f v u) Q X.xe s₂) X.xe s₁) X.xe s:=by
 refine thn (@ha pins s σ H _ I h) fun v s1 ⟨x,H1,I1,r1,q1⟩=>?_
 refine thn (@hb pins s1 σ H1 _ I1 q1) fun u s2 ⟨y,H2,I2,r2,q2⟩=>?_
 exact hf v u s2 x y H2 I2 r1 r2 q2
theorem xD {op:Operator}{r:R2}(ho:OpR X (binaryOp op) r)(ha:PE X a ta)(hb:PE X b tb):PE X (.BinOp a op b pos) (tOp r ta tb):=by
 intro pins s σ H Q I h
 exact wpAny_BinOp (xhH ha hb I h fun v u s2 x y H2 I2 rx ry q=>@ho pins s2 σ H2 x y v u Q I2 rx ry q)
theorem uu (ho:UnR X (unaryOp op) r)(ha:PE X a ta):PE X (.UnaryOp op a pos) (tUn r ta):=by
 intro pins s σ H Q I h
 exact UnaryOp_ (thn (@ha pins s σ H _ I h) fun v s1 ⟨x,H1,I1,r1,q1⟩=>@ho pins s1 σ H1 x v Q I1 r1 q1)
theorem opI {f:Value→Value→Sem Value}{C:Int→Int→Prop}{g:Int→Int→Int}
  (rule:∀(i j:Int) (t u:Tok) (s:Shared) (Q:Value→Shared→Prop) (E:Value→Shared→Prop),C i j→Q (.int (g i j) s.toks) { s with toks:=s.toks+1 }→wpAny (model X.prog X.w) X.A (f (.int i t) (.int j u)) Q E s) :
  OpR X f (rI C fun i j=>.int (g i j)):=by
 intro pins s σ H x y v u Q I rx ry h
 obtain⟨i,j,rfl,rfl,hc,q⟩:=h
 obtain⟨t,rfl⟩:=rx
 obtain⟨t',rfl⟩:=ry
 exact rule i j t t' s _ _ hc ⟨.int (g i j),H,I.tok _,⟨_,rfl⟩,q⟩
theorem xix {f:Value→Value→Sem Value}{g:Int→Int→Int}
  (rule:∀(i j:Int) (t u:Tok) (s:Shared) (Q:Value→Shared→Prop) (E:Value→Shared→Prop),Q (.int (g i j) s.toks) { s with toks:=s.toks+1 }→wpAny (model X.prog X.w) X.A (f (.int i t) (.int j u)) Q E s) :
  OpR X f (rI0 fun i j=>.int (g i j)):=by
 intro pins s σ H x y v u Q I rx ry h
 obtain⟨i,j,rfl,rfl,q⟩:=h
 obtain⟨t,rfl⟩:=rx
 obtain⟨t',rfl⟩:=ry
 exact rule i j t t' s _ _ ⟨.int (g i j),H,I.tok _,⟨_,rfl⟩,q⟩
theorem xhz {f:Value→Value→Sem Value}{g:Int→Int→Bool}
  (rule:∀(i j:Int) (t u:Tok) (s:Shared) (Q:Value→Shared→Prop) (E:Value→Shared→Prop),Q (.bool (g i j)) s→wpAny (model X.prog X.w) X.A (f (.int i t) (.int j u)) Q E s) :
  OpR X f (rI0 fun i j=>.bl (g i j)):=by
 intro pins s σ H x y v u Q I rx ry h
 obtain⟨i,j,rfl,rfl,q⟩:=h
 obtain⟨t,rfl⟩:=rx
 obtain⟨t',rfl⟩:=ry
 exact rule i j t t' s _ _ ⟨.bl (g i j),H,I,rfl,q⟩
def xhp (i j:Int):Prop:=0≤j∧j≤1000000∧i.natAbs<2 ^ 64
def xhr (i j:Int):Prop:=(-(2 ^ 64)<i∧i<2 ^ 64)∨(-(2 ^ 64)<j∧j<2 ^ 64)
theorem xhr.ok (h:xhr i j):IntMulOk i j:=by
 rcases h with ⟨h1,h2⟩ | ⟨h1,h2⟩
 ·exact .of_left (intBits_le_64 h1 h2)
 ·exact .of_right (intBits_le_64 h1 h2)
theorem wc:OpR X (binaryOp .Add) (rI0 fun i j=>.int (i+j)):=xix fun _ _ _ _ _ _ _ q=>add_int q
theorem zb:OpR X (binaryOp .Sub) (rI0 fun i j=>.int (i-j)):=xix fun _ _ _ _ _ _ _ q=>sub_int q
theorem nQ:OpR X (binaryOp .Mult) (rI xhr fun i j=>.int (i*j)):=opI fun _ _ _ _ _ _ _ hc q=>mul_int q hc.ok
theorem aV:OpR X (binaryOp .Mod) (rI (fun _ j=>0<j) fun i j=>.int (i % j)):=opI fun i j _ _ _ _ _ hc q=>by
 have h1:(0:Int)<j:=hc
 exact mod_int' (by omega) (by rw[Int.fmod_eq_emod_of_nonneg i (by omega)];exact q)
theorem xbj:OpR X (binaryOp .Mod) (rI (fun _ j=>j≠0) fun i j=>.int (i.fmod j)):=opI fun _ _ _ _ _ _ _ hc q=>mod_int' hc q
theorem xcv:OpR X (binaryOp .Pow) (rI xhp fun i j=>.int (i ^ j.toNat)):=opI fun _ _ _ _ _ _ _ hc q=>pow_int_small hc.1 hc.2.1 hc.2.2 q
theorem unI {f:Value→Sem Value}{g:Int→Int}
  (rule:∀(i:Int) (t:Tok) (s:Shared) (Q:Value→Shared→Prop) (E:Value→Shared→Prop),Q (.int (g i) s.toks) { s with toks:=s.toks+1 }→wpAny (model X.prog X.w) X.A (f (.int i t)) Q E s) :
  UnR X f (rU fun i=>.int (g i)):=by
 intro pins s σ H x v Q I rx h
 obtain⟨i,rfl,q⟩:=h
 obtain⟨t,rfl⟩:=rx
 exact rule i t s _ _ ⟨.int (g i),H,I.tok _,⟨_,rfl⟩,q⟩
theorem zg:UnR X (unaryOp .USub) (rU fun i=>.int (-i)):=unI fun _ _ _ _ _ q=>neg_int q
end
section
variable {X:Cx} {a b c:Expr} {ta tb tc:TE} {pos:Pos}
theorem xge:OpR X (compareOp .Lt) (rI0 fun i j=>.bl (decide (i<j))):=xhz fun _ _ _ _ _ _ _ q=>lt_int q
theorem fy:OpR X (compareOp .LtE) (rI0 fun i j=>.bl (decide (i≤j))):=xhz fun _ _ _ _ _ _ _ q=>le_int q
theorem pV:OpR X (compareOp .Gt) (rI0 fun i j=>.bl (decide (j<i))):=xhz fun _ _ _ _ _ _ _ q=>gt_int q
theorem xhQ:OpR X (compareOp .GtE) (rI0 fun i j=>.bl (decide (j≤i))):=xhz fun _ _ _ _ _ _ _ q=>ge_int q
theorem OpR.or (h:OpR X f r)(h':OpR X f r'):OpR X f (fun x y H Q=>r x y H Q∨r' x y H Q):=by
 intro pins s σ H x y v u Q I rx ry q
 rcases q with q | q
 ·exact @h pins s σ H x y v u Q I rx ry q
 ·exact @h' pins s σ H x y v u Q I rx ry q
theorem xO (b:Expr)(h:op≠.In:=by decide)(h2:op≠.NotIn:=by decide):behindInMarks op b=false:=by
 have e1:(op == CmpOp.In)=false:=by cases op<;>first | rfl | exact absurd rfl h
 have e2:(op == CmpOp.NotIn)=false:=by cases op<;>first | rfl | exact absurd rfl h2
 cases b<;>simp[behindInMarks,e1,e2]
theorem yZ {op:CmpOp}{r:R2}(ho:OpR X (compareOp op) r)(ha:PE X a ta)(hb:PE X b tb)(hm:behindInMarks op b=false):PE X (.Compare a [op] [b] pos) (tOp r ta tb):=by
 intro pins s σ H Q I h
 exact wpAny_Compare1 (xhH ha hb I h fun v u s2 x y H2 I2 rx ry q=>@ho pins s2 σ H2 x y v u Q I2 rx ry q) hm
def xfL (t:TE):TT:=fun σ H Q=>t σ H fun x H'=>∃k,x=.bl k∧Q k H'
theorem xN (ho:OpR X (compareOp op) r)(ha:PE X a ta)(hb:PE X b tb)(hm:behindInMarks op b=false):PT X (.Compare a [op] [b] pos) (xfL (tOp r ta tb)):=by
 intro pins s σ H Q I h
 refine wpAny_isTrue_Compare1 (thn (@ha pins s σ H _ I h) fun v s1 ⟨x,H1,I1,r1,q1⟩=>thn (@hb pins s1 σ H1 _ I1 q1) fun u s2 ⟨y,H2,I2,r2,q2⟩ =>
  thn (@ho pins s2 σ H2 x y v u _ I2 r1 r2 q2) fun c s3 ⟨z,H3,I3,r3,k,e,q3⟩=>?_) hm
 subst e
 cases r3
 exact wpAny_truthy_bool ⟨H3,I3,q3⟩
def xex (r r':R2)(ta tb tc:TE):TE:=fun σ H Q=>ta σ H fun x H1=>tb σ H1 fun y H2=>r x y H2 fun z H3=>∃k,z=.bl k ∧
 (if k=true then tc σ H3 fun w' H4=>r' y w' H4 Q else Q (.bl false) H3)
theorem tW (ho:OpR X (compareOp op) r)(ho':OpR X (compareOp op') r')(ha:PE X a ta)(hb:PE X b tb)(hc:PE X c tc)
  (hm:lastMarks [op,op'] [b,c]=false:=by with_unfolding_all rfl):PT X (.Compare a [op,op'] [b,c] pos) (xfL (xex r r' ta tb tc)):=by
 intro pins s σ H Q I h
 refine isTrue_chain (thn (@ha pins s σ H _ I h) fun v s1 ⟨x,H1,I1,r1,q1⟩=>test_link (thn (@hb pins s1 σ H1 _ I1 q1) fun u s2 ⟨y,H2,I2,r2,q2⟩ =>
  thn (@ho pins s2 σ H2 x y v u _ I2 r1 r2 q2) fun d s3 ⟨z,H3,I3,r3,k,e,q3⟩=>?_)) hm
 subst e
 cases r3
 refine wpAny_truthy_bool ?_
 cases k with
 | false =>
  obtain⟨k',e',q'⟩:=q3
  cases e'
  exact ite_ff ⟨H3,I3,q'⟩
 | true =>
  refine ite_tt (test_last (thn (@hc pins s3 σ H3 _ I3 q3) fun w' s4 ⟨z',H4,I4,r4,q4⟩=>thn (@ho' pins s4 σ H4 y z' u w' _ I4 r2 r4 q4) fun d' s5 ⟨z2,H5,I5,r5,k2,e2,q5⟩=>?_))
  subst e2
  cases r5
  exact wpAny_truthy_bool ⟨H5,I5,q5⟩
theorem n5:(sizeLine:Nat)<2 ^ 63:=by rw[sizeLine_eq];decide
theorem vals1 (r:zQ [x] us):∃u,us=[u]∧RelV x u:=by
 cases r with
 | cons r1 r2=>cases r2;exact⟨_,rfl,r1⟩
theorem vals2 (r:zQ [x,y] us):∃u w',us=[u,w']∧RelV x u∧RelV y w':=by
 cases r with
 | cons r1 r2 =>
  cases r2 with
  | cons r3 r4=>cases r4;exact⟨_,_,rfl,r1,r3⟩
theorem uJ:jA X (.builtin "abs") (fun xs H Q=>∃i,xs=[.int i]∧Q (.int (if i<0 then -i else i)) H):=by
 intro pins s σ H xs us Q I r h
 obtain⟨i,rfl,q⟩:=h
 obtain⟨u,rfl,t,rfl⟩:=vals1 r
 exact call_abs_int fun u tk=>⟨.int (if i<0 then -i else i),H,I.tok _,⟨_,rfl⟩,q⟩
theorem xa3 (hc:X.calm=true):jA X (.builtin "max") (fun xs H Q=>∃i j,xs=[.int i,.int j]∧Q (.int (if j>i then j else i)) H):=by
 intro pins s σ H xs us Q I r h
 obtain⟨i,j,rfl,q⟩:=h
 obtain⟨u,w',rfl,⟨t,rfl⟩,⟨t',rfl⟩⟩:=vals2 r
 refine max_two_ints (I.ok.hd hc) fun h' tk k=>⟨_,H,I.kept k,?_,q⟩
 by_cases hj:j>i
 ·rw[if_pos hj,if_pos hj];exact⟨_,rfl⟩
 ·rw[if_neg hj,if_neg hj];exact⟨_,rfl⟩
theorem xch (hc:X.calm=true):jA X (.builtin "min") (fun xs H Q=>∃i j,xs=[.int i,.int j]∧Q (.int (if j<i then j else i)) H):=by
 intro pins s σ H xs us Q I r h
 obtain⟨i,j,rfl,q⟩:=h
 obtain⟨u,w',rfl,⟨t,rfl⟩,⟨t',rfl⟩⟩:=vals2 r
 refine min_two_ints (I.ok.hd hc) fun h' tk k=>⟨_,H,I.kept k,?_,q⟩
 by_cases hj:j<i
 ·rw[if_pos hj,if_pos hj];exact⟨_,rfl⟩
 ·rw[if_neg hj,if_neg hj];exact⟨_,rfl⟩
end
end L2
namespace L2
open PySem PySem.Spec PyProof.Rows
structure xig (h:Heap)(x dx C:Addr)(mA:Str→Option Value):Prop where
 obj:h.get? x=some (PySem.W.instObj C dx)
 ns:h.Ns1 dx mA
 ne:dx≠x
theorem xbR {h:Heap}{dx:Addr}{mA:Str→Option Value}(n:h.Ns1 dx mA):∃od,h.get? dx=some od∧∀name,PySem.W.lookIn name od=some (mA name):=by
 obtain⟨o,es,ep,ho,hd,hk,_,hm⟩:=n
 refine⟨o,ho,fun name=>?_⟩
 have e:=hm name
 unfold nsFind findBy at e
 rw[←Array.find?_toList] at e
 unfold PySem.W.lookIn
 rw[hd]
 dsimp only
 split
 ·rename_i y q
  rw[q] at e
  exact xlq some e
 ·rename_i q
  rw[q] at e
  have a:es.toList.any (·.refKey)=false:=by
   rw[List.any_eq_false]
   intro y hy
   obtain⟨z,t,hkey⟩:=hk y (Array.mem_toList_iff.mp hy)
   simp[DictEntry.refKey,hkey]
  have a':¬es.toList.any (·.refKey)=true:=by rw[a];exact xjn
  rw[if_neg a']
  exact xlq some e
theorem xig.look (I:xig h x dx C mA):∃od,PySem.W.InstAt h x (PySem.W.instObj C dx) C (some od)∧∀name,PySem.W.lookIn name od=some (mA name) :=
 let ⟨od,ho,hl⟩:=xbR I.ns
 ⟨od,⟨I.obj,rfl,rfl,ho⟩,hl⟩
section
variable {prog:Program} {w:World} {A:Around} {E:Value→Shared→Prop} {s:Shared} {K:PySem.W.Frag} {x dx C f:Addr} {mA:Str→Option Value} {name:Str} {v:Value}
end
section
variable {P:Program} {w:World} {H H':Hp} {h h':Heap} {a C dx:Addr} {fs fs':List (Str×V)}
theorem xfi (hok:HOk P w H h)(e:H a=some (.ins C dx fs)):∃mA,xig h a dx C mA∧(∀f,xhW (fs.lookup f) (mA f))∧PySem.Within mA (fs.map (·.1))∧fs.length≤1000∧H dx=some (.own a):=by
 obtain⟨d,z,ne,ob,mA,n,r,q⟩:=(show uH P w H h a (.ins C dx fs) from hok a _ e)
 exact⟨mA,⟨ob,n,ne⟩,r,q,z,d⟩
end
structure Cls (K:PySem.W.Frag)(C:Addr):Prop where
 pg:PySem.W.plainGet K C Str.empty=true
 hd:PySem.W.hasDictIn K C=true
 po:PySem.W.plainOver K C=true
 sa:PySem.W.findIn K (.ref C) "__setattr__" = some (some (.builtin "object.__setattr__"))
theorem Cls.get {K:PySem.W.Frag}{C:Addr}(c:Cls K C)(f:Str):PySem.W.plainGet K C f=true:=c.pg
section
variable {X:Cx} {pins:List (Addr×Obj)} {σ:St} {H:Hp} {s:Shared} {a C dx:Addr} {fs:List (Str×V)} {f:Str} {v:V} {A:Around} {E:Value→Shared→Prop}
end
section
variable {X:Cx} {o e value:Expr} {f:Str} {pos pos' tpos:Pos} {ta tv:TE}
end
section
variable {X:Cx} {pins:List (Addr×Obj)} {σ:St} {H:Hp} {s:Shared} {A:Around} {E:Value→Shared→Prop} {Q:Value→Shared→Prop} {c:Value} {b:Bool}
inductive xag (K:PySem.W.Frag)(H:Hp):V→Value→Prop where
 | non:xag K H .non (.type "NoneType")
 | bl (x:Bool):xag K H (.bl x) (.type "bool")
 | int (i:Int):xag K H (.int i) (.type "int")
 | str (x:Str):xag K H (.str x) (.type "str")
 | flt (x:UInt64):xag K H (.flt x) (.type "float")
 | lst {a:Addr} {xs:List V} (e:H a=some (.lst xs)):xag K H (.ref a) (.type "list")
 | frz {a:Addr} {o:Obj} {xs:List V} (e:H a=some (.frz o (.lst xs))):xag K H (.ref a) (.type "list")
 | tup {a:Addr} {xs:List V} (e:H a=some (.tup xs)):xag K H (.ref a) (.type "tuple")
 | dK {a:Addr} {kvs:List (Key×V)} (e:H a=some (.dK kvs)):xag K H (.ref a) (.type "dict")
 | dT {a:Addr} {kvs:List (List Key×V)} (e:H a=some (.dT kvs)):xag K H (.ref a) (.type "dict")
 | ins {a C dx:Addr} {fs:List (Str×V)} (e:H a=some (.ins C dx fs)) (cl:Cls K C) (ha:PySem.W.findIn K (.ref C) "__class__" = some (some (.builtin "object.__class__")))
   (hn:PySem.W.specialIn K (.builtin "object.__class__") "__get__" = some (some (.builtin "getset_descriptor.__get__"))) (htk:PySem.W.takesIn K (.builtin "object.__class__")=some true)
   (hm:PySem.W.mroIn K C (.type "object")=some true):xag K H (.ref a) (.ref C)
theorem xaD (I:Inv X pins σ H s)(rx:RelV x u)(ty:xag X.K H x t)(e:PySem.W.kitOne X.K t c=some b)(h:∀tk,Q (.bool b) { s with toks:=tk }) :
  wpAny (model X.prog X.w) A (call (.builtin "isinstance") [u,c]) Q E s:=by
 cases ty with
 | non=>cases (show u=Value.none from rx);exact PySem.W.kia_one PySem.W.kitx_none I.kIn True.intro e (fun z=>nomatch z) h
 | bl y=>cases (show u=Value.bool y from rx);exact PySem.W.kia_one PySem.W.kitx_bool I.kIn True.intro e (fun z=>nomatch z) h
 | int i=>obtain⟨t,q⟩:=(show ∃t,u=Value.int i t from rx);cases q;exact PySem.W.kia_one PySem.W.kitx_int I.kIn True.intro e (fun z=>nomatch z) h
 | str y=>obtain⟨t,q⟩:=(show ∃t,u=Value.str y t from rx);cases q;exact PySem.W.kia_one PySem.W.kitx_str I.kIn True.intro e (fun z=>nomatch z) h
 | flt y=>obtain⟨t,q⟩:=(show ∃t,u=Value.float y t from rx);cases q;exact PySem.W.kia_one PySem.W.kitx_float I.kIn True.intro e (fun z=>nomatch z) h
 | @lst a xs ea =>
  cases (show u=Value.ref a from rx)
  obtain⟨_,_,n,_,h1⟩:=(show uH X.prog X.w H s.heap a (.lst xs) from I.hok a _ ea)
  exact PySem.W.kia_one PySem.W.kitx_list I.kIn ⟨_,h1,rfl⟩ e (fun z=>nomatch z) h
 | @frz a ob xs ea =>
  cases (show u=Value.ref a from rx)
  obtain⟨_,_,_,n,_,h1⟩:=(show uH X.prog X.w H s.heap a (.frz ob (.lst xs)) from I.hok a _ ea)
  exact PySem.W.kia_one PySem.W.kitx_list I.kIn ⟨_,h1,rfl⟩ e (fun z=>nomatch z) h
 | @tup a xs ea =>
  cases (show u=Value.ref a from rx)
  obtain⟨_,_,_,p⟩:=(show uH X.prog X.w H s.heap a (.tup xs) from I.hok a _ ea)
  obtain⟨o,h1,h2,_⟩:=p
  exact PySem.W.kia_one PySem.W.kitx_tuple I.kIn ⟨o,h1,h2⟩ e (fun z=>nomatch z) h
 | @dK a kvs ea =>
  cases (show u=Value.ref a from rx)
  obtain⟨_,_,vs,_,p⟩:=(show uH X.prog X.w H s.heap a (.dK kvs) from I.hok a _ ea)
  obtain⟨o,es,ep,h1,h2,_⟩:=p
  exact PySem.W.kia_one PySem.W.kitx_dict I.kIn ⟨o,h1,h2.1⟩ e (fun z=>nomatch z) h
 | @dT a kvs ea =>
  cases (show u=Value.ref a from rx)
  obtain⟨_,_,xs,_,o,es,ep,h1,h2,_⟩:=(show uH X.prog X.w H s.heap a (.dT kvs) from I.hok a _ ea)
  exact PySem.W.kia_one PySem.W.kitx_dict I.kIn ⟨o,h1,h2.1⟩ e (fun z=>nomatch z) h
 | @ins a C dx fs ea cl ha hn htk hm =>
  cases (show u=Value.ref a from rx)
  obtain⟨mA,O,_⟩:=xfi I.hok ea
  obtain⟨od,J,_⟩:=O.look
  exact PySem.W.kia_one (PySem.W.kitx_own (cl.get _) cl.hd ha hn htk hm) I.kIn J e (fun z=>nomatch z) h
end
end L2
namespace L2
open PySem PySem.Spec PyProof.Rows
structure jg (k:Nat)(A:Around):Prop where
 hd:A.handled=none
 dp:A.depth+3*k+5<recursionLimit
 un:A.units+16*k+200<cLine
theorem jg.mono (r:jg k A)(h:j≤k):jg j A:=⟨r.hd,by have:=r.dp;omega,by have:=r.un;omega⟩
theorem jg.deeper (r:jg (k+1) A)(env:Env):jg k (A.deeper env) :=
 ⟨r.hd,by have:=r.dp;show A.depth+1+3*k+5<_;omega,by have:=r.un;show A.units+3+16*k+200<_;omega⟩
theorem jg.depth (r:jg k A):A.depth<recursionLimit:=by have:=r.dp;omega
theorem jg.units (r:jg k A):A.units+64<cLine:=by have:=r.un;omega
def xab:TA:=fun _ H Q=>Q [] H
def vJ (ta:TE)(tr:TA):TA:=fun σ H Q=>ta σ H fun x H1=>tr σ H1 fun xs H2=>Q (x::xs) H2
section
variable {X:Cx} {e:Expr} {es:List Expr} {te:TE} {t:TA} {pos:Pos}
theorem uF:PA X [] xab:=fun _ _ _ _ H Q I h=>Calls.spliced_nil ⟨[],H,I,.nil,h⟩
theorem xM (ha:PE X e te)(hr:PA X es t)(hs:starEach (e::es) X.env=(false,eval e X.env)::starEach es X.env:=by rfl):PA X (e::es) (vJ te t):=by
 intro pos pins s σ H Q I h
 rw[hs]
 show wpAny _ _ (spliced ((false,eval e X.env)::backTo pos (starEach es X.env))) _ _ s
 refine Calls.spliced_cons (thn (@ha pins s σ H _ I h) fun u s1 ⟨x,H1,I1,r1,q1⟩=>?_)
 exact thn (@hr pos pins s1 σ H1 _ I1 q1) fun us s2 ⟨xs,H2,I2,r2,q2⟩=>⟨x::xs,H2,I2,.cons r1 r2,q2⟩
def xin (t:TA):TE:=fun σ H Q=>t σ H fun xs H1=>xs.length≤sizeLine∧∀p,H1 p=none→Q (.ref p) (upd H1 p (.tup xs))
def xh0 (t:TA):TE:=fun σ H Q=>t σ H fun xs H1=>xs.length≤sizeLine∧∀p,H1 p=none→Q (.ref p) (upd H1 p (.lst xs))
theorem yd (h:PA X es t):PE X (.Tuple es x1 pos) (xin t):=by
 intro pins s σ H Q I hq
 refine wpAny_Tuple_spliced (thn (@h pos pins s σ H _ I hq) fun us s1 ⟨xs,H1,I1,r,z,q⟩=>⟨by rw[←r.length];exact z,?_⟩)
 have hf:H1 s1.heap.objs.size=none:=I1.hok.fresh (xlb _)
 refine⟨.ref s1.heap.objs.size,upd H1 s1.heap.objs.size (.tup xs),I1.laid (t':=s1.toks) (fun b u e=>Heap.get?_push_of_some _ e) (xlb _) ?_,rfl,q _ hf⟩
 exact⟨z,us,r,⟨_,Heap.get?_push_size _ rfl,rfl,_,rfl⟩⟩
theorem yU (h:PA X es t):PE X (.List es pos) (xh0 t):=by
 intro pins s σ H Q I hq
 refine wpAny_List_spliced (thn (@h pos pins s σ H _ I hq) fun us s1 ⟨xs,H1,I1,r,z,q⟩=>⟨by rw[←r.length];exact z,?_⟩)
 have hf:H1 s1.heap.objs.size=none:=I1.hok.fresh (xlb _)
 refine⟨.ref s1.heap.objs.size,upd H1 s1.heap.objs.size (.lst xs),I1.laid (t':=s1.toks) (fun b u e=>Heap.get?_push_of_some _ e) (xlb _) ?_,rfl,q _ hf⟩
 exact⟨z,us,0,r,Heap.get?_push_size _ rfl⟩
end
abbrev Sp:=List V→Hp→VK→XK→Prop
abbrev CXT:=List Env→Hp→Shared→XK→Value→Shared→Prop
structure xdA (P:Program)(w:World)(K:PySem.W.Frag)(mg:Str→Option Value)(base:Heap)(A:Around)(outer:List Env)(s:Shared)(H:Hp):Prop where
 frames:A.frames=some outer
 mod:Mod K mg base
 bs:∀b o,base.get? b=some o→s.heap.get? b=some o∧H b=none
 bsz:base.objs.size≤s.heap.objs.size
 funs:s.heap.FunFrames base outer
 frf:∀b∈frs outer,H b=none
 hok:HOk P w H s.heap
 bare:AllBare s.gens
def CE (outer:List Env)(P:Program)(w:World)(H:Hp)(s:Shared)(Q:VK)(u:Value)(s':Shared):Prop :=
 ∃v H',s'.os=s.os∧AllBare s'.gens∧Un (frs outer) [] H H' s.heap s'.heap∧HOk P w H' s'.heap∧RelV v u∧Q v H'
def CR (CX:CXT)(outer:List Env)(P:Program)(w:World)(H:Hp)(s:Shared)(Q:VK)(E:XK)(r:Result)(s':Shared):Prop :=
 match r with
 | .ok (.ret u)=>CE outer P w H s Q u s'
 | .ok _=>False
 | .error e=>CX outer H s E e s'
structure aM (P:Program)(w:World)(K:PySem.W.Frag)(mg:Str→Option Value)(base:Heap)(CX:CXT)(k:Nat)(f:Addr)(fd:FuncData)(ps:List Str)(sp:Sp):Prop where
 len:∀vs H Q E,sp vs H Q E→vs.length=ps.length
 run:∀(A:Around) (outer:List Env) (s:Shared) (H:Hp) (args:Args) (us:List Value) (vs:List V) (Q:VK) (E:XK),jg k A→xdA P w K mg base A outer s H→BindsTo s fd args (ps.zip us)→zQ vs us→sp vs H Q E →
  codeAny (model P w) A (.call (.ref f) args) (CR CX outer P w H s Q E) s
theorem aM.mono {P:Program}{w:World}{K:PySem.W.Frag}{mg:Str→Option Value}{base:Heap}{CX:CXT}{j k:Nat}{f:Addr}{fd:FuncData}{ps:List Str}{sp:Sp}(F:aM P w K mg base CX j f fd ps sp)(h:j≤k) :
  aM P w K mg base CX k f fd ps sp:=⟨F.len,fun A outer s H args us vs Q E hr=>F.run A outer s H args us vs Q E (hr.mono h)⟩
theorem aM.imp {P:Program}{w:World}{K:PySem.W.Frag}{mg:Str→Option Value}{base:Heap}{CX:CXT}{k:Nat}{f:Addr}{fd:FuncData}{ps:List Str}{sp sp':Sp}(F:aM P w K mg base CX k f fd ps sp)
  (h:∀vs H Q E,sp' vs H Q E→sp vs H Q E):aM P w K mg base CX k f fd ps sp' :=
 ⟨fun vs H Q E q=>F.len vs H Q E (h _ _ _ _ q),fun A outer s H args us vs Q E hr he hb hv hs=>F.run A outer s H args us vs Q E hr he hb hv (h _ _ _ _ hs)⟩
section
variable {X:Cx} {pins:List (Addr×Obj)} {σ:St} {H:Hp} {s s':Shared}
theorem Inv.env0 (I:Inv X pins σ H s):xdA X.prog X.w X.K X.mg X.base X.A X.stack s H :=
 ⟨I.ok.frames,I.ok.mod,I.bs,xld I.ok.bsz I.sz,I.stack,I.stkFree,I.hok,I.bare⟩
theorem Inv.after (I:Inv X pins σ H s)(h:CE X.stack X.prog X.w H s Q u s'):EP X pins σ Q u s':=by
 obtain⟨v,H',os,bare,un,hok,r,q⟩:=h
 obtain⟨hh,g,d,t,os'⟩:=s'
 obtain rfl:os'=s.os:=os
 exact⟨v,H',I.call (h':=hh) (g':=g) (d':=d) (t':=t) (ch:=[]) un hok bare (fun b z=>absurd z (by simp)),r,q⟩
end
def xhF (sp:Sp)(dvs:List V)(E:XK)(t:TA):TE:=fun σ H Q=>t σ H fun vs H1=>sp (vs++dvs) H1 Q E
def Binds (K:PySem.W.Frag)(fd:FuncData)(ps:List Str)(ds:List Value):Prop :=
 ∀(s:Shared) (us:List Value),K.In s.heap→(us++ds).length=ps.length→BindsTo s fd ⟨us,[]⟩ (ps.zip (us++ds))
theorem Binds.all {K:PySem.W.Frag}{fd:FuncData}{ps:List Str}(h:∀us:List Value,us.length=ps.length→bindArgs fd ⟨us,[]⟩=pure (ps.zip us)):Binds K fd ps []:=fun s us _ hl=>by
 rw[xj5] at hl ⊢
 exact .of_eq (h us hl)
def a_ (CX:CXT)(X:Cx)(E:XK):Prop:=∀(pins:List (Addr×Obj)) (σ:St) (H:Hp) (s:Shared) (e:Value) (s':Shared),Inv X pins σ H s→CX X.stack H s E e s'→X.xe e s'
section
variable {X:Cx} {CX:CXT} {k:Nat} {f C:Addr} {fd:FuncData} {ps:List Str} {sp:Sp} {dvs:List V} {ds:List Value} {E:XK} {x m:Str} {p pos apos:Pos} {e o:Expr} {es:List Expr} {ta:TE} {t:TA}
theorem xg5 (F:aM X.prog X.w X.K X.mg X.base CX k f fd ps sp)(hr:jg k X.A)(hb:Binds X.K fd ps ds)(hd:zQ dvs ds)(hx:a_ CX X E)
  (I:Inv X pins σ H s) (r:zQ vs us) (h:sp (vs++dvs) H Q E):wpAny (model X.prog X.w) X.A (call (.ref f) us) (EP X pins σ Q) X.xe s:=by
 have r2:zQ (vs++dvs) (us++ds):=r.append hd
 have hl:(us++ds).length=ps.length:=by rw[←r2.length];exact F.len _ _ _ _ h
 refine wpAny_call (codeAny_mono (F.run X.A X.stack s H ⟨us,[]⟩ (us++ds) (vs++dvs) Q E hr I.env0 (hb s us I.kIn hl) r2 h) fun r s' hq=>?_)
 cases r with
 | error e=>exact hx pins σ H s e s' I hq
 | ok fl =>
  cases fl with
  | ret u=>exact I.after hq
  | next=>exact False.elim hq
  | brk=>exact False.elim hq
  | cont=>exact False.elim hq
theorem xa2 (F:aM X.prog X.w X.K X.mg X.base CX k f fd ps sp)(hr:jg k X.A)(hg:Gl X x)(hm:X.mg x=some (.ref f))(hk:PySem.W.keepIn X.K (.ref f)=true)(hb:Binds X.K fd ps ds)(hd:zQ dvs ds)(hx:a_ CX X E)
  (ha:PA X (e::es) t) (hdb:(x == ("__debug__" : Str))=false:=by decide) (he:starEach (e::es) X.env=(false,eval e X.env)::starEach es X.env:=by rfl) (hpl:(backTo pos (starEach es X.env)).any (·.1)=false:=by rfl) :
  PE X (.Call (.Name x p) (e::es) [] pos) (xhF sp dvs E t):=by
 intro pins s σ H Q I h
 refine wpAny_Call_Name_kw (fW I hg hm ?_ hdb)
 refine PySem.W.callWith_K (h₀:=X.base) I.ok.mod.kin hk (thn (@ha pos pins s σ H _ I h) fun us s1 ⟨vs,H1,I1,r,q⟩=>⟨I1.kIn,?_⟩) he hpl
 exact xg5 F hr hb hd hx I1 r q
end
section
variable {X:Cx} {CX:CXT} {k:Nat} {f C:Addr} {fd:FuncData} {ps ks:List Str} {sp:Sp} {E:XK} {x m:Str} {p pos apos kpos:Pos} {e o:Expr} {es:List Expr} {kws:List Keyword} {te ta:TE} {t tk:TA} {nm:Option Str}
variable {g:List Value→List Value→List Value} {gV:List V→List V→List V}
end
structure xA (N P:List Str)(sc:Scope):Prop where
 kind:sc.kind=.function
 co:sc.isCoroutine=false
 gen:sc.isGenerator=false
 nd:N.Nodup
 pre:N.take P.length=P
 par:∀x∈P,sc.names.lookup x=some .local∨sc.names.lookup x=some .cell
 nofree:∀y∈sc.names,y.2≠.free
theorem nV {kindOf:Str→Option NameKind}{x:Str}:∀ {binds:List (Str×Value)} {m:Str→Option Value},(∀v,(x,v)∉binds)→bindL kindOf binds m x=m x
 | [],_,_=>rfl
 | (n,v)::r,m,h=>by
  unfold bindL
  rw[nV fun w hw=>h w (xkK _ hw)]
  split
  ·have:x≠n:=by rintro rfl;exact h v xkL
   simp[this]
  ·rfl
theorem nI {kindOf:Str→Option NameKind}{x:Str}:∀ {binds:List (Str×Value)} {m:Str→Option Value},(∀v,(x,v)∉binds)→bindC kindOf binds m x=m x
 | [],_,_=>rfl
 | (n,v)::r,m,h=>by
  unfold bindC
  rw[nI fun w hw=>h w (xkK _ hw)]
  split
  ·rfl
  ·have:x≠n:=by rintro rfl;exact h v xkL
   simp[this]
theorem nW {kindOf:Str→Option NameKind}{x:Str}{v:Value}:∀ {P:List Str} {vs:List Value} {i:Nat} {m:Str→Option Value},P.Nodup→P[i]? = some x→vs[i]? = some v→kindOf x=some .local →
  bindL kindOf (P.zip vs) m x=some v
 | [],_,_,_,_,h,_,_=>by simp at h
 | _::_,[],_,_,_,_,h,_=>by simp at h
 | p::P,w::vs,0,m,nd,h1,h2,hk=>by
  simp at h1 h2;subst h1;subst h2
  show bindL kindOf ((p,w)::P.zip vs) m p=_
  unfold bindL
  rw[nV fun v hv=>(xkX.mp nd).1 (xkZ hv).1,if_pos hk]
  simp
 | p::P,w::vs,i+1,m,nd,h1,h2,hk=>by
  show bindL kindOf ((p,w)::P.zip vs) m x=_
  unfold bindL
  exact nW (i:=i) (xkX.mp nd).2 (by simpa using h1) (by simpa using h2) hk
theorem mU {kindOf:Str→Option NameKind}{x:Str}{v:Value}:∀ {P:List Str} {vs:List Value} {i:Nat} {m:Str→Option Value},P.Nodup→P[i]? = some x→vs[i]? = some v→kindOf x≠some .local →
  bindC kindOf (P.zip vs) m x=some v
 | [],_,_,_,_,h,_,_=>by simp at h
 | _::_,[],_,_,_,_,h,_=>by simp at h
 | p::P,w::vs,0,m,nd,h1,h2,hk=>by
  simp at h1 h2;subst h1;subst h2
  show bindC kindOf ((p,w)::P.zip vs) m p=_
  unfold bindC
  rw[nI fun v hv=>(xkX.mp nd).1 (xkZ hv).1,if_neg hk]
  simp
 | p::P,w::vs,i+1,m,nd,h1,h2,hk=>by
  show bindC kindOf ((p,w)::P.zip vs) m x=_
  unfold bindC
  exact mU (i:=i) (xkX.mp nd).2 (by simpa using h1) (by simpa using h2) hk
def start (N:List Str)(vs:List V):St:=vs.map some++List.replicate (N.length-vs.length) none
def dm (CX:CXT)(P:Program)(w:World)(K:PySem.W.Frag)(mg:Str→Option Value)(base:Heap)(N:List Str)(qual:Str)(scope:Scope)(f:Addr)(cd:Value)(A:Around)(outer:List Env)(s:Shared)(H:Hp)(E:XK):Cx where
 prog:=P
 w:=w
 K:=K
 mg:=mg
 base:=base
 A:=A.deeper (envOfC qual scope s.heap.objs.size f cd)
 N:=N
 s₀:=s
 H₀:=H
 env:=envOfC qual scope s.heap.objs.size f cd
 outer:=outer
 stack:=envOfC qual scope s.heap.objs.size f cd::outer
 ex:=[]
 calm:=true
 fn:=fun _=>true
 pn:=[]
 xe:=fun e s'=>wpAny (model P w) (A.deeper (envOfC qual scope s.heap.objs.size f cd)) (leaving (envOfC qual scope s.heap.objs.size f cd) e) (fun _ s''=>CX outer H s E e s'') (fun e' s''=>CX outer H s E e' s'') s'
theorem oB {sc:Scope}{n:Nat}{x:Str}(h:sc.names.lookup x=some .cell):∃c,(cellsFrom n sc.names []).lookup x=some c:=by
 have q:=PySem.W.cellsFrom_some sc.names n [] (.inl h)
 exact Option.isSome_iff_exists.mp q
theorem xaU {CX:CXT}{P:Program}{w:World}{K:PySem.W.Frag}{mg:Str→Option Value}{base:Heap}{N ps:List Str}{qual:Str}{scope:Scope}{f:Addr}{cd:Value}{A:Around}{outer:List Env}{s s1:Shared}{H:Hp}{E:XK}{us:List Value}{vs:List V}
  (S:xA N ps scope) (hd:A.handled=none) (e0:xdA P w K mg base A outer s H) (hl:vs.length=ps.length) (r:zQ vs us)
  (x:InCallC s s.heap.objs.size (bindL (envOfC qual scope s.heap.objs.size f cd).kindOf (ps.zip us) fun _=>none) (cellsFrom (s.heap.objs.size+1) scope.names []) (bindC (envOfC qual scope s.heap.objs.size f cd).kindOf (ps.zip us) fun _=>none) s1) :
  Inv (dm CX P w K mg base N qual scope f cd A outer s H E) [] (start N vs) H s1:=by
 have hpl:ps.length≤N.length:=by have:=xlq List.length S.pre;rw[xkA] at this;omega
 obtain⟨h1,tk,rfl,hk⟩:=x.done
 have noA:∀b:Addr,b∉(dm CX P w K mg base N qual scope f cd A outer s H E).ex:=fun b z=>absurd (show b∈([]:List Addr) from z) (by simp)
 refine⟨⟨e0.mod,S.kind,rfl,rfl,xlb _,fun y z c h1 h2=>?_,fun y hy=>?_,fun y c _ h=>?_,fun _=>hd,Around.frames_deeper e0.frames,.inr ⟨rfl,rfl⟩,fun b z=>absurd z (noA b),e0.bs,e0.bsz,fun b _ _=>noA b,fun b z=>absurd z (noA b),e0.funs,e0.frf⟩,
  rfl,e0.bare,Un.kept hk,⟨_,x.toInCall.ns,fun i y v h1 h2 h3=>?_⟩,fun y c h=>⟨_,x.cell y c h⟩,e0.hok.fresh (xlb _),fun y c h=>?_,fun p hp=>absurd (show p∈([]:List (Addr×Obj)) from hp) (by simp),e0.hok.kept hk,?_⟩
 ·exact name_of_addr x.apart (PySem.mem_of_lookup h1) (PySem.mem_of_lookup h2)
 ·have hy:scope.names.lookup y=some .cell∨scope.names.lookup y=some .free:=hy
  rcases hy with hy | hy
  ·exact oB hy
  ·exact absurd rfl (S.nofree _ (PySem.mem_of_lookup hy))
 ·exact xla (x.above y c (PySem.mem_of_lookup h))
 ·have hi:i<vs.length:=by
   unfold start at h2
   by_cases hi:i<vs.length
   ·exact hi
   ·rw[xkh (by simpa using hi)] at h2
    rw[xkm] at h2
    split at h2<;>cases h2
  have ha:vs[i]? = some v:=by
   unfold start at h2
   rw[xkg (by simpa using hi),xkl] at h2
   cases e:vs[i]? with
   | none=>rw[e] at h2;cases h2
   | some a=>rw[e] at h2;cases h2;rfl
  obtain⟨u,hu,rv⟩:=r.get ha
  have hp:ps[i]? = some y:=by
   rw[←S.pre,List.getElem?_take_of_lt (by omega)];exact h1
  have ndP:ps.Nodup:=by rw[←S.pre];exact S.nd.sublist (List.take_sublist _ _)
  refine⟨u,rv,?_⟩
  rcases S.par y (xkR hp) with k | k
  ·exact .inl ⟨k,nW ndP hp hu k⟩
  ·obtain⟨c,e⟩:=oB (n:=s.heap.objs.size+1) k
   refine .inr ⟨.inl k,c,e,?_⟩
   have q:=x.cell y c e
   rw[mU ndP hp hu (by show scope.names.lookup y≠_;rw[k];decide)] at q
   exact q
 ·exact e0.hok.fresh (xla (x.above y c (PySem.mem_of_lookup h)))
 ·unfold start
  show _=N.length
  rw[xkq,xkv,xkx]
  omega
theorem xe6 {CX:CXT}{P:Program}{w:World}{K:PySem.W.Frag}{mg:Str→Option Value}{base:Heap}{k:Nat}{f:Addr}{name qual:Str}{params:Arguments}{body:List Stmt}{scope:Scope}{dV kV doc pm cdv ct oc:Value}{an od:Option Addr}
  {osl:Array (Option Value)} {N ps:List Str} {sp:Sp} (lk:K.lookup f=some ⟨oc,od,.func (PySem.W.fnOf name qual params body scope dV kV doc pm an cdv ct),osl⟩) (hcd:PySem.W.codeIn K cdv qual=true) (S:xA N ps scope)
  (len:∀vs H Q E,sp vs H Q E→vs.length=ps.length)
  (hbody:∀(A:Around) (outer:List Env) (s:Shared) (H:Hp) (vs:List V) (Q:VK) (E:XK),jg k (A.deeper (envOfC qual scope s.heap.objs.size f cdv))→sp vs H Q E →
   ∃t,PSs (dm CX P w K mg base N qual scope f cdv A outer s H E) body t∧t { nx:=fun _ H'=>Q .non H',rt:=Q } (start N vs) H) :
  aM P w K mg base CX (k+1) f (PySem.W.fnOf name qual params body scope dV kV doc pm an cdv ct) ps sp:=by
 refine⟨len,fun A outer s H args us vs Q E hr e0 hb r hsp=>?_⟩
 have hl:=len _ _ _ _ hsp
 have KX:K.In s.heap:=e0.mod.kin.keeps fun b o e=>(e0.bs b o e).1
 have lim:s.heap.NoLimit:=e0.mod.nolimit.keeps fun b o e=>(e0.bs b o e).1
 have hkind:∀y∈ps.zip us,scope.names.lookup y.1=some .local∨(scope.names.lookup y.1=some .cell∧((cellsFrom (s.heap.objs.size+1) scope.names []).lookup y.1).isSome=true):=fun⟨n,v⟩ hy=>by
  rcases S.par n (xkZ hy).1 with q | q
  ·exact .inl q
  ·exact .inr ⟨q,PySem.W.cellsFrom_some _ _ _ (.inl q)⟩
 refine codeAny_call_function hr.depth (KX _ _ lk) rfl S.co S.gen rfl (PySem.W.codeRec_of KX hcd) (hb _ _ _ _ ?_)
 refine wpAny_newFunctionEnv_cells S.kind hkind fun env he s1 x=>?_
 subst he
 refine⟨lim.keeps x.toInCall.keep,codeAny_func ?_⟩
 obtain⟨t,ht,hq⟩:=hbody A outer s H vs Q E (hr.deeper _) hsp
 have I:Inv (dm CX P w K mg base N qual scope f cdv A outer s H E) [] (start N vs) H s1:=xaU S hr.hd e0 hl r x
 refine wpAny_mono (@ht [] s1 (start N vs) H _ I hq) (fun fl s' hs=>?_) fun e s' hs=>hs
 have fin:∀ {σ':St} {H':Hp} {v:V} {u:Value},Inv (dm CX P w K mg base N qual scope f cdv A outer s H E) [] σ' H' s'→RelV v u→Q v H'→CE outer P w H s Q u s' :=
  fun {σ' H' v u} J rv q=>⟨v,H',J.os,J.bare,J.base,J.hok,rv,q⟩
 cases fl with
 | ret u =>
  obtain⟨v,σ',H',J,rv,q⟩:=hs
  exact fin J rv q
 | next =>
  obtain⟨σ',H',J,q⟩:=hs
  exact fin (v:=V.non) (u:=Value.none) J rfl q
 | brk =>
  obtain⟨_,_,_,q⟩:=hs
  exact False.elim q
 | cont =>
  obtain⟨_,_,_,q⟩:=hs
  exact False.elim q
end L2
namespace L2
open PySem PySem.Spec PyProof.Rows
section
variable {X:Cx} {x:Str} {p pos:Pos} {e:Expr} {es:List Expr} {t:TA} {id T:String} {r:List V→Hp→VK→Prop}
def tCB (r:List V→Hp→VK→Prop)(t:TA):TE:=fun σ H Q=>t σ H fun vs H1=>r vs H1 Q
theorem xG (hc:jA X (.builtin id) r)(hg:Gl X x)(hm:X.mg x=none)(hv:bootBuiltins x=some (.builtin id))(ha:PA X (e::es) t)(hn:x ≠ "__name__" := by decide)(hdb:(x == ("__debug__" : Str))=false:=by decide)
  (he:starEach (e::es) X.env=(false,eval e X.env)::starEach es X.env:=by rfl) (hpl:(backTo pos (starEach es X.env)).any (·.1)=false:=by rfl):PE X (.Call (.Name x p) (e::es) [] pos) (tCB r t):=by
 intro pins s σ H Q I h
 refine wpAny_Call_Name_kw (rA I hg hm hv ?_ hn hdb)
 exact PyProof.Rows.callWith_builtin1 (thn (@ha pos pins s σ H _ I h) fun us s1 ⟨vs,H1,I1,r1,q1⟩=>@hc pins s1 σ H1 vs us Q I1 r1 q1) he hpl
theorem qH (hc:jA X (.type T) r)(hg:Gl X x)(hm:X.mg x=none)(hv:bootBuiltins x=some (.type T))(ha:PA X (e::es) t)(hn:x ≠ "__name__" := by decide)(hdb:(x == ("__debug__" : Str))=false:=by decide)
  (he:starEach (e::es) X.env=(false,eval e X.env)::starEach es X.env:=by rfl) (hpl:(backTo pos (starEach es X.env)).any (·.1)=false:=by rfl):PE X (.Call (.Name x p) (e::es) [] pos) (tCB r t):=by
 intro pins s σ H Q I h
 refine wpAny_Call_Name_kw (rA I hg hm hv ?_ hn hdb)
 exact PyProof.Rows.callWith_type1 (thn (@ha pos pins s σ H _ I h) fun us s1 ⟨vs,H1,I1,r1,q1⟩=>@hc pins s1 σ H1 vs us Q I1 r1 q1) he hpl
end
end L2
namespace HT
open PySem PyProof.Rows
def lexLt:List Int→List Int→Bool
 | [],[]=>false
 | [],_::_=>true
 | _::_,[]=>false
 | x::xs,y::ys=>if x=y then lexLt xs ys else decide (x<y)
theorem lI (x y:Int)(xs ys:List Int):lexLt (x::xs) (y::ys)=if x=y then lexLt xs ys else decide (x<y):=rfl
theorem mG:lexLt [] []=false:=rfl
theorem ao (y:Int)(ys:List Int):lexLt [] (y::ys)=true:=rfl
theorem ax (x:Int)(xs:List Int):lexLt (x::xs) []=false:=rfl
theorem xda (A:Around)(s:Shared)(a:Int)(t:Tok)(c:Int)(u:Tok):∃e,SeqAt.EqAt A s (.int a t) (.int c u) e∧(e=true↔a=c) :=
 ⟨(a == c),SeqAt.EqAt.int_int a t c u,by simp⟩
theorem xdu (A:Around)(s:Shared)(a:Int)(t:Tok)(c:Int)(u:Tok)(prog:Program)(w:World)(E:Value→Shared→Prop)(Q:Value→Shared→Prop)(h:Q (.bool (decide (a<c))) s) :
  wpAny (model prog w) A (richCompare .Lt (.int a t) (.int c u)) Q E s :=
 (PyProof.Rows.lt_int h:wpAny (model prog w) A (compareOp .Lt (.int a t) (.int c u)) Q E s)
section
open PySem.SeqAt
open PySem.AutoSeq1 (wpAny_loadPart')
open PySem.MeetsSeq PySem.MeetsSeq2 PySem.MeetsSeq3
theorem tV (l b:Addr)(items items2:Array Value)(n n2:Nat)(dd dd2:Option Addr)(sl sl2:Array (Option Value))(ns ms:List Int)(hi:IntsAre items.toList ns)(hj:IntsAre items2.toList ms) :
  Meets (Builtin.«tuple.__lt__» ⟨[.ref l,.ref b],[]⟩)
   (fun _ R s=>s.heap.get? l=some { cls:=.type "tuple", dict:=dd,data:=.seq items n,slots:=sl }∧s.heap.get? b=some { cls:=.type "tuple", dict:=dd2,data:=.seq items2 n2,slots:=sl2 } ∧
    R (.ok (.ret (.bool (lexLt ns ms)))) s) :=
 .of_wp fun prog w A R s h=>by
  obtain⟨hp,g,d,tk,os⟩:=s;obtain⟨hl,hb,h⟩:=h
  have f2:=AutoSeq1.sub_tuple_tuple
  have z1:items.size=ns.length:=by rw[←hi.length];simp
  have z2:items2.size=ms.length:=by rw[←hj.length];simp
  wp_walk using wpAny_loadPart' hl,wpAny_loadPart' hb,wpAny_forIn_list _ (fun rest b s'=>b.1=none∧s'=⟨hp,g,d,tk,os⟩∧∃(vs ws:List Value) (ns' ms':List Int),rest=vs.zip ws ∧
   IntsAre vs ns'∧IntsAre ws ms'∧ns'.length+items2.size=ms'.length+items.size∧R (.ok (.ret (.bool (lexLt ns' ms')))) ⟨hp,g,d,tk,os⟩) _
  case turn =>
   rintro⟨y,x⟩ rest b s' ⟨hb',rfl,vs,ws,ns',ms',hz,hvi,hwi,hlen,hR⟩
   cases hvi with
   | nil=>rw[List.zip_nil_left] at hz;cases hz
   | cons a t hvi' =>
    cases hwi with
    | nil=>rw[List.zip_nil_right] at hz;cases hz
    | cons c u hwi' =>
     rw[xk9] at hz
     injection hz with hyx hrest
     injection hyx with hy hx
     subst hy hx
     rw[lI] at hR
     simp only[xkr] at hlen
     obtain⟨e,he,hiff⟩:=xda A.in1 ⟨hp,g,d,tk,os⟩ a t c u
     refine wpAny_bind (he prog w _ _ ?_)
     cases e with
     | true =>
      rw[if_pos (hiff.mp rfl)] at hR
      wp_walk
      exact⟨rfl,rfl,_,_,_,_,hrest,hvi',hwi',by omega,hR⟩
     | false =>
      rw[if_neg (fun q=>absurd (hiff.mpr q) xjn)] at hR
      have hri:=xdu A.in1 ⟨hp,g,d,tk,os⟩ a t c u prog w
      wp_walk using hri
      exact⟨_,rfl,by simpa using hR⟩
  case fin =>
   rintro⟨b1,b2⟩ s' ⟨hb',rfl,vs,ws,ns',ms',hz,hvi,hwi,hlen,hR⟩
   simp only at hb'
   subst hb'
   have hv:lexLt ns' ms'=decide (items.size<items2.size):=by
    cases hvi with
    | nil =>
     cases hwi with
     | nil =>
      simp only[xkw] at hlen
      rw[mG]
      exact(xls (by omega)).symm
     | cons c u hw =>
      simp only[xkw,xkr] at hlen
      rw[ao]
      exact(xlt (by omega)).symm
    | cons a t hv =>
     cases hwi with
     | nil =>
      simp only[xkw,xkr] at hlen
      rw[ax]
      exact(xls (by omega)).symm
     | cons c u hw =>
      rw[xk9] at hz
      cases hz
   rw[hv] at hR
   wp_walk
   exact⟨_,rfl,by simpa [Builtin.Tuple.tupleCompareSizes] using hR⟩
  case h =>
   exact⟨rfl,rfl,items.toList,items2.toList,ns,ms,rfl,hi,hj,by omega,h⟩
end
section
variable {prog:Program} {w:World} {A:Around} {E:Value→Shared→Prop} {s:Shared}
theorem lQ (hl:IsTup s.heap l items)(hb:IsTup s.heap b items2)(hi:IntsAre items.toList ns)(hj:IntsAre items2.toList ms)
  (hu:A.units<cLine) (h:Q (.bool (lexLt ns ms)) s):wpAny (model prog w) A (compareOp .Lt (.ref l) (.ref b)) Q E s:=by
 obtain⟨⟨cls,dd,data,sl⟩,ho,hc,n,hd⟩:=id hl
 obtain⟨⟨cls2,dd2,data2,sl2⟩,ho2,hc2,n2,hd2⟩:=id hb
 simp only at hc hd hc2 hd2
 subst hc hd hc2 hd2
 exact richCompare_meets_room (op:=.Lt) ⟨_,ho,rfl⟩ ⟨_,ho2,rfl⟩ PySem.F.slot_tuple_lt PySem.F.entry_tuple_lt (PySem.F.args_tuple_lt_2 _ _) (tV l b items items2 n n2 dd dd2 sl sl2 ns ms hi hj)
  ⟨ho,ho2,show Value.bool (lexLt ns ms)≠Value.notImplemented∧Q (.bool (lexLt ns ms)) s from⟨(fun x=>nomatch x),h⟩⟩ hu
theorem xfv (ht:IsTup s.heap t vs.toArray)(hb:IsTup s.heap b ws.toArray)(hv:vs≠[])
  (h1:ws=[]→Q (.ref t) s) (h2:ws≠[]→Q (.ref s.heap.objs.size) { s with heap:=s.heap.push { cls:=.type "tuple", data:=.seq (vs++ws).toArray } })
  (hsz:vs.length+ws.length≤sizeLine):wpAny (model prog w) A (binaryOp .Add (.ref t) (.ref b)) Q E s:=by
 obtain⟨⟨cls,dd,data,sl⟩,ho,hc,n,hd⟩:=id ht
 obtain⟨⟨cls2,dd2,data2,sl2⟩,ho2,hc2,n2,hd2⟩:=id hb
 simp only at hc hd hc2 hd2
 subst hc hd hc2 hd2
 have e:vs.toArray++ws.toArray=(vs++ws).toArray:=by simp
 by_cases hw:ws=[]
 ·exact concat_meets ⟨_,ho,rfl⟩ ⟨_,ho2,rfl⟩ noFill_tuple_add seq_tuple_add PySem.F.slot_tuple_add PySem.F.entry_tuple_add (PySem.F.args_tuple_add_2 _ _)
   (tuple_addW1 t b vs.toArray ws.toArray n n2 dd dd2 sl sl2 (by simpa using hv) (by simp[hw])) ⟨ho,ho2,h1 hw⟩
 ·refine concat_meets ⟨_,ho,rfl⟩ ⟨_,ho2,rfl⟩ noFill_tuple_add seq_tuple_add PySem.F.slot_tuple_add PySem.F.entry_tuple_add (PySem.F.args_tuple_add_2 _ _)
   (tuple_addW2 t b vs.toArray ws.toArray n n2 dd dd2 sl sl2 (by simpa using hv) (by simpa using hw) (by rw[xk2,xk2];exact hsz)) ⟨ho,ho2,?_⟩
  rw[e]
  exact h2 hw
def sIx (n d:Nat):Option Int→Nat
 | none=>d
 | some v=>if v<0 then(v+(n:Int)).toNat else min v.toNat n
theorem oX (n d:Nat):sIx n d none=d:=rfl
theorem xa6 (n d k:Nat):sIx n d (some (k:Int))=min k n:=by
 show(if (k:Int)<0 then((k:Int)+(n:Int)).toNat else min (k:Int).toNat n)=min k n
 rw[if_neg (by omega),xjX]
theorem xf9 (n d:Nat)(hd:d≤n)(o:Option Int):sIx n d o≤n:=by
 cases o with
 | none=>exact hd
 | some v =>
  show(if v<0 then(v+(n:Int)).toNat else min v.toNat n)≤n
  by_cases hv:v<0
  ·rw[if_pos hv];omega
  ·rw[if_neg hv];exact Nat.min_le_right _ _
theorem xcr (v:Int)(n d:Nat):(if v<0 then max (v+(n:Int)) 0 else min v (n:Int))=((sIx n d (some v):Nat):Int):=by
 show(if v<0 then max (v+(n:Int)) 0 else min v (n:Int))=(((if v<0 then(v+(n:Int)).toNat else min v.toNat n):Nat):Int)
 by_cases hv:v<0
 ·simp only[if_pos hv];omega
 ·simp only[if_neg hv];omega
theorem xal (lo hi:Option Int)(n:Nat):Builtin.Slice.sliceAdjust lo hi 1 (n:Int)=(((sIx n 0 lo:Nat):Int),((sIx n n hi:Nat):Int)):=by
 have h1:¬((1:Int)<0):=by omega
 unfold Builtin.Slice.sliceAdjust
 simp only[h1,if_false]
 refine Prod.ext ?_ ?_
 ·cases lo with
  | none=>rfl
  | some v=>exact xcr v n 0
 ·cases hi with
  | none=>rfl
  | some v=>exact xcr v n n
theorem lT (i j:Nat):Builtin.Slice.slicePlaces (i:Int) (j:Int) 1=j-i:=by
 unfold Builtin.Slice.slicePlaces
 have h1:(1:Int)>0:=by omega
 simp only[h1,if_true,Int.ediv_one]
 split<;>omega
theorem rD (p:IsPart v o)(h:Q o s):wpAny (model prog w) A (Builtin.Slice.slicePartIndex v) Q E s:=by
 cases p with
 | none=>exact slicePart_none h
 | int i t=>exact slicePart_int h
theorem qu {sl:Addr}{vl vu:Value}{lo hi:Option Int}{n:Nat}{Q:Int×Int×Nat→Shared→Prop}(hs:s.heap.IsSliceOf sl vl vu .none)(pl:IsPart vl lo)(pu:IsPart vu hi)
  (h:Q (((sIx n 0 lo:Nat):Int),1,sIx n n hi-sIx n 0 lo) s):wpAny (model prog w) A (Builtin.Slice.sliceApplied (.ref sl) (pure (n:Int))) Q E s:=by
 obtain⟨os,hos,hcs,hds⟩:=id hs
 unfold Builtin.Slice.sliceApplied Builtin.Slice.sliceFields
 refine wpAny_bind (wpAny_bind (wpAny_field hos hds (x:=vl) rfl (wpAny_bind (wpAny_field hos hds (x:=vu) rfl (wpAny_bind (wpAny_field hos hds (x:=.none) rfl (wpAny_pure ?_)))))))
 refine wpAny_bind (slicePart_none ?_)
 show wpAny _ _ (if ((1:Int) == 0)=true then _ else _) _ _ s
 rw[if_neg (by decide)]
 refine wpAny_bind (rD pl (wpAny_bind (rD pu (wpAny_bind (wpAny_pure ?_)))))
 show wpAny _ _ (match Builtin.Slice.sliceAdjust lo hi 1 (n:Int) with | (lo,hi)=>pure (lo,(1:Int),Builtin.Slice.slicePlaces lo hi 1)) _ _ s
 rw[xal lo hi n]
 show wpAny _ _ (pure (((sIx n 0 lo:Nat):Int),(1:Int),Builtin.Slice.slicePlaces ((sIx n 0 lo:Nat):Int) ((sIx n n hi:Nat):Int) 1)) _ _ s
 rw[lT]
 exact wpAny_pure h
theorem xdj (xs:Array Value)(i k:Nat):((List.range k).filterMap fun(m:Nat)=>xs[((i:Int)+(m:Int)*1).toNat]?).toArray=((xs.toList.drop i).take k).toArray:=by
 have e:(fun(m:Nat)=>xs[((i:Int)+(m:Int)*1).toNat]?)=fun m=>xs[i+m]?:=by
  funext m
  have:((i:Int)+(m:Int)*1).toNat=i+m:=by omega
  rw[this]
 rw[e]
 have:=pick_run xs i k
 rw[List.filterMap_map] at this
 have e2:((fun x=>xs[x]?) ∘ fun x=>i+x)=fun m=>xs[i+m]?:=rfl
 rw[e2] at this
 rw[this]
theorem gP {t sl:Addr}{items:Array Value}{vl vu:Value}{lo hi:Option Int}{Q:Value→Shared→Prop}(ht:IsTup s.heap t items)(hs:s.heap.IsSliceOf sl vl vu .none)(pl:IsPart vl lo)(pu:IsPart vu hi)
  (hw:¬(sIx items.size 0 lo=0∧sIx items.size items.size hi=items.size))
  (h:Q (.ref s.heap.objs.size) { s with heap:=s.heap.push { cls:=.type "tuple", data:=.seq ((items.toList.drop (sIx items.size 0 lo)).take (sIx items.size items.size hi-sIx items.size 0 lo)).toArray } })
  (hsz:items.size≤sizeLine):wpAny (model prog w) A (getItem (.ref t) (.ref sl)) Q E s:=by
 have htake:sizeOk (.seq ((items.toList.drop (sIx items.size 0 lo)).take (sIx items.size items.size hi-sIx items.size 0 lo)).toArray):=by
  show((items.toList.drop (sIx items.size 0 lo)).take (sIx items.size items.size hi-sIx items.size 0 lo)).toArray.size≤sizeLine
  rw[xk2,xkA,xks,Array.length_toList]
  omega
 have hj:sIx items.size items.size hi≤items.size:=xf9 _ _ (xlb _) hi
 obtain⟨os,hos,hcs,hds⟩:=id hs
 have hTs:s.TypeIs (.ref sl) "slice" := ⟨os,hos,hcs⟩
 unfold getItem
 try with_reducible refine wpAny_holding ?_
 first | refine wpAny_bind (wpAny_pure ?_) | skip
 refine wpAny_bind (wpAny_sequenceKey ht.typeIs (by decide) ?_)
 refine wpAny_bind (wpAny_callSpecial?_slot (name:=Str.ofString "__getitem__") ht.typeIs PyProof.Rows.slot_tuple_getitem
  (wpAny_call_entry PyProof.Rows.slot_tuple_getitem ht.typeIs entry_tuple_getitem ?_ (args_tuple_getitem _ _)))
 show wpAny _ _ (Builtin.Tuple.tupleItemsOf (.ref t) >>= _) _ _ s
 refine wpAny_bind (tupleItemsOf_ ht ?_)
 refine wpAny_bind (wpAny_typeOf hTs ?_)
 rw[if_pos (by decide)]
 refine wpAny_bind (qu hs pl pu ?_)
 have hno:¬((((sIx items.size 0 lo:Nat):Int) == 0&&(1:Int) == 1&&(sIx items.size items.size hi-sIx items.size 0 lo) == items.size)=true):=by
  intro q
  rw[xjm,xjm] at q
  have q1:((sIx items.size 0 lo:Nat):Int)=0:=eq_of_beq q.1.1
  have q2:sIx items.size items.size hi-sIx items.size 0 lo=items.size:=eq_of_beq q.2
  exact hw ⟨by omega,by omega⟩
 show wpAny _ _ (if (((sIx items.size 0 lo:Nat):Int) == 0&&(1:Int) == 1&&(sIx items.size items.size hi-sIx items.size 0 lo) == items.size)=true then _ else _) _ _ s
 rw[if_neg hno,xdj]
 first
  | exact wpAny_bind (m:=Builtin.Tuple.tupleExact _) (wpAny_newObj_type (wpAny_pure ⟨_,rfl,wpAny_pure h⟩) htake)
  | exact wpAny_bind (m:=Builtin.Tuple.tupleExact _) (wpAny_newObj_type (wpAny_bind (wpAny_pure (wpAny_pure ⟨_,rfl,wpAny_pure h⟩))) htake)
  | exact wpAny_bind (wpAny_bind (m:=Builtin.Tuple.tupleExact _) (wpAny_newObj_type (wpAny_pure (wpAny_pure ⟨_,rfl,wpAny_pure h⟩)) htake))
  | exact wpAny_bind (wpAny_bind (m:=Builtin.Tuple.tupleExact _) (wpAny_newObj_type (wpAny_pure ⟨_,rfl,wpAny_pure h⟩) htake))
end
end HT
namespace L2
open PySem PySem.Spec PyProof.Rows
abbrev TO:=St→Hp→(Option Int→Hp→Prop)→Prop
def PO (X:Cx)(e:Option Expr)(t:TO):Prop :=
 ∀(pins:List (Addr×Obj)) (s:Shared) (σ:St) (H:Hp) (Q:Option Int→Hp→Prop),Inv X pins σ H s→t σ H Q →
  wpAny (model X.prog X.w) X.A (evalPart e X.env) (fun u s'=>∃o H',Inv X pins σ H' s'∧IsPart u o∧Q o H') X.xe s
def xca:TO:=fun _ H Q=>Q none H
def xgm (t:TE):TO:=fun σ H Q=>t σ H fun x H1=>∃i,x=.int i∧Q (some i) H1
theorem intsAre_of:∀ {us:List Value},zQ (ns.map V.int) us→IntsAre us ns:=by
 induction ns with
 | nil=>intro us r;rw[xkF] at r;cases r;exact .nil
 | cons n ns ih =>
  intro us r
  rw[xkD] at r
  cases r with
  | cons r1 r2 =>
   obtain⟨t,e⟩:=r1
   subst e
   exact .cons n t (ih r2)
section
variable {X:Cx} {e:Expr} {te:TE} {lo hi:Option Expr} {tl th:TO} {pos p2:Pos}
theorem jd:PO X none xca:=by
 intro pins s σ H Q I h
 rw[evalPart_none]
 exact wpAny_pure ⟨none,H,I,.none,h⟩
theorem k9 (h:PE X e te):PO X (some e) (xgm te):=by
 intro pins s σ H Q I hw
 rw[evalPart_some]
 refine thn (@h pins s σ H _ I hw) fun u s1 ⟨x,H1,I1,r1,q1⟩=>?_
 obtain⟨i,rfl,q⟩:=q1
 obtain⟨t,rfl⟩:=r1
 exact⟨some i,H1,I1,.int i t,q⟩
def SlR (X:Cx)(r:V→Option Int→Option Int→Hp→VK→Prop):Prop :=
 ∀(pins:List (Addr×Obj)) (s:Shared) (σ:St) (H:Hp) (x:V) (v vl vu:Value) (lo hi:Option Int) (sl:Addr) (Q:VK),Inv X pins σ H s→RelV x v→s.heap.IsSliceOf sl vl vu .none→IsPart vl lo→IsPart vu hi→r x lo hi H Q →
  ∃T id,typeLookup (.type T) "__getitem__" = pure (some (.builtin id))∧s.TypeIs v T∧wpAny (model X.prog X.w) X.A (getItem v (.ref sl)) (EP X pins σ Q) X.xe s
def tSl (r:V→Option Int→Option Int→Hp→VK→Prop)(te:TE)(tl th:TO):TE:=fun σ H Q=>te σ H fun x H1=>tl σ H1 fun l H2=>th σ H2 fun u H3=>r x l u H3 Q
theorem qg (hr:SlR X r)(he:PE X e te)(hl:PO X lo tl)(hu:PO X hi th):PE X (.Subscript e (.Slice lo hi none p2) pos) (tSl r te tl th):=by
 intro pins s σ H Q I h
 refine Subscript_ (thn (@he pins s σ H _ I h) fun v s1 ⟨x,H1,I1,r1,q1⟩=>?_)
 refine wpAny_Slice (thn (@hl pins s1 σ H1 _ I1 q1) fun vl s2 ⟨l,H2,I2,pl,q2⟩=>thn (@hu pins s2 σ H2 _ I2 q2) fun vu s3 ⟨u,H3,I3,pu,q3⟩=>?_)
 rw[evalPart_none]
 refine wpAny_pure ?_
 have I4:Inv X pins σ H3 { s3 with heap:=s3.heap.push { cls:=.type "slice", data:=.fields #[vl,vu,.none] } }:=I3.kept (t':=s3.toks) fun b ob q=>Heap.get?_push_of_some _ q
 obtain⟨T,id,hT,ht,hg⟩:=hr pins { s3 with heap:=s3.heap.push { cls:=.type "slice", data:=.fields #[vl,vu,.none] } } σ H3 x v vl vu l u s3.heap.objs.size Q I4 r1 (Heap.IsSliceOf.new ..) pl pu q3
 show wpAny (model X.prog X.w) X.A (subscriptTail e (.Slice lo hi none p2) v (.ref s3.heap.objs.size)) (EP X pins σ Q) X.xe { s3 with heap:=s3.heap.push { cls:=.type "slice", data:=.fields #[vl,vu,.none] } }
 exact tail_any (ops:=[.ref s3.heap.objs.size,v]) ht hT hg (by with_unfolding_all rfl)
def l_ (xs:List V)(lo hi:Option Int):List V:=(xs.drop (HT.sIx xs.length 0 lo)).take (HT.sIx xs.length xs.length hi-HT.sIx xs.length 0 lo)
theorem fZ (xs:List V)(lo hi:Option Int):(l_ xs lo hi).length≤xs.length:=by
 unfold l_
 rw[xkA,xks]
 omega
def xi3 (K:PySem.W.Frag):V→Option Int→Option Int→Hp→VK→Prop:=fun x lo hi H Q=>∃a xs,x=.ref a∧SqT K H a xs ∧
 ¬(HT.sIx xs.length 0 lo=0∧HT.sIx xs.length xs.length hi=xs.length)∧∀p,H p=none→Q (.ref p) (upd H p (.tup (l_ xs lo hi)))
theorem xgD:SlR X (xi3 X.K):=by
 intro pins s σ H x v vl vu lo hi sl Q I rx hs pl pu h
 obtain⟨a,xs,rfl,hx,hw,q⟩:=h
 cases rx
 obtain⟨its,r,ht,hz⟩:=I.tuple hx
 have hlen:its.toArray.size=xs.length:=by rw[xk2];exact r.length.symm
 refine⟨"tuple", _,PyProof.Rows.slot_tuple_getitem.lookup,ht.typeIs,?_⟩
 refine HT.gP ht hs pl pu (by rw[hlen];exact hw) ?_ (by rw[hlen];exact hz)
 rw[hlen]
 refine⟨.ref s.heap.objs.size,_,I.laid (t':=s.toks) (o:=.tup (l_ xs lo hi)) (fun b ob q=>Heap.get?_push_of_some _ q) (xlb _) ?_,rfl,q _ (I.hok.fresh (xlb _))⟩
 exact⟨xld (fZ xs lo hi) hz,_,(r.drop (HT.sIx xs.length 0 lo)).take (HT.sIx xs.length xs.length hi-HT.sIx xs.length 0 lo),IsTup.new _ _⟩
def xii (K:PySem.W.Frag):R2:=fun x y H Q=>∃a b ns ms,x=.ref a∧y=.ref b∧SqT K H a (ns.map V.int)∧SqT K H b (ms.map V.int)∧Q (.bl (HT.lexLt ns ms)) H
theorem xhk (hu:X.A.units<cLine):OpR X (compareOp .Lt) (xii X.K):=by
 intro pins s σ H x y v u Q I rx ry h
 obtain⟨a,b,ns,ms,rfl,rfl,ha,hb,q⟩:=h
 cases rx
 cases ry
 obtain⟨its,r1,p1,_⟩:=I.tuple ha
 obtain⟨its2,r2,p2,_⟩:=I.tuple hb
 have i1:IntsAre its.toArray.toList ns:=intsAre_of r1
 have i2:IntsAre its2.toArray.toList ms:=intsAre_of r2
 exact HT.lQ p1 p2 i1 i2 hu ⟨.bl (HT.lexLt ns ms),H,I,rfl,q⟩
def xh3 (K:PySem.W.Frag):R2:=fun x y H Q=>∃a b xs ys,x=.ref a∧y=.ref b∧SqT K H a xs∧SqT K H b ys∧xs≠[]∧xs.length+ys.length≤sizeLine ∧
 (ys=[]→Q (.ref a) H)∧(ys≠[]→∀p,H p=none→Q (.ref p) (upd H p (.tup (xs++ys))))
theorem zQ.nil_iff (r:zQ xs us):us=[]↔xs=[]:=by
 cases r with
 | nil=>simp
 | cons _ _=>simp
theorem xfk:OpR X (binaryOp .Add) (xh3 X.K):=by
 intro pins s σ H x y v u Q I rx ry h
 obtain⟨a,b,xs,ys,rfl,rfl,ha,hb,hx,hz,q1,q2⟩:=h
 cases rx
 cases ry
 obtain⟨its,r1,p1,_⟩:=I.tuple ha
 obtain⟨its2,r2,p2,_⟩:=I.tuple hb
 refine HT.xfv p1 p2 (fun z=>hx (r1.nil_iff.mp z)) (fun z=>⟨.ref a,H,I,rfl,q1 (r2.nil_iff.mp z)⟩) (fun z=>?_) (by rw[←r1.length,←r2.length];exact hz)
 refine⟨.ref s.heap.objs.size,_,I.laid (t':=s.toks) (o:=.tup (xs++ys)) (fun b ob q=>Heap.get?_push_of_some _ q) (xlb _) ?_,rfl,q2 (fun w=>z (r2.nil_iff.mpr w)) _ (I.hok.fresh (xlb _))⟩
 exact⟨by rw[xkq];exact hz,_,r1.append r2,IsTup.new _ _⟩
end
end L2
namespace L2
open PySem PySem.Spec PyProof.Rows
def ixN (n:Nat)(i:Int):Option Nat:=if 0≤i then(if i<n then some i.toNat else none) else if -(n:Int)≤i then some (i+n).toNat else none
def atI (xs:List α)(i:Int):Option α:=(ixN xs.length i).bind fun j=>xs[j]?
theorem xay (h:ixN n i=some j):seqIndex? i n=some j∧j<n∧-(n:Int)≤i∧i<n:=by
 unfold ixN at h
 by_cases h0:0≤i
 ·rw[if_pos h0] at h
  by_cases h1:i<n
  ·rw[if_pos h1] at h
   have e:i.toNat=j:=xlp h
   exact⟨by rw[seqIndex_of h0 h1,e],by omega,by omega,h1⟩
  ·rw[if_neg h1] at h;cases h
 ·rw[if_neg h0] at h
  by_cases h1:-(n:Int)≤i
  ·rw[if_pos h1] at h
   have e:(i+n).toNat=j:=xlp h
   exact⟨by rw[seqIndex_neg (by omega) h1,e],by omega,h1,by omega⟩
  ·rw[if_neg h1] at h;cases h
theorem pX (h:atI xs i=some v):∃j,seqIndex? i xs.length=some j∧xs[j]? = some v∧j<xs.length∧-(xs.length:Int)≤i∧i<xs.length:=by
 unfold atI at h
 cases e:ixN xs.length i with
 | none=>rw[e] at h;cases h
 | some j =>
  rw[e] at h
  obtain⟨h1,h2,h3,h4⟩:=xay e
  exact⟨j,h1,h,h2,h3,h4⟩
theorem xfr {α:Type}{xs:List α}{j:Nat}{v:α}(h:xs[j]? = some v):atI xs (j:Int)=some v:=by
 have hj:j<xs.length:=(xkk.mp h).1
 have e:ixN xs.length (j:Int)=some j:=by
  unfold ixN
  rw[if_pos (by omega),if_pos (by omega)];simp
 unfold atI;rw[e];exact h
theorem xcY (xs:List α)(v:α):atI (xs++[v]) (-1)=some v:=by
 have hl:(xs++[v]).length=xs.length+1:=by simp
 have e:ixN (xs++[v]).length (-1)=some xs.length:=by
  unfold ixN
  rw[hl,if_neg (by decide),if_pos (by omega)]
  congr 1
  omega
 unfold atI
 rw[e]
 show(xs++[v])[xs.length]? = some v
 simp
def xfu (b:Expr):Prop:=∀o i,subscripted b false o i=operate [o,i] (getItem o i)
def IxR (X:Cx)(r:R2):Prop :=
 ∀(value slice:Expr) (pins:List (Addr×Obj)) (s:Shared) (σ:St) (H:Hp) (x y:V) (v u:Value) (Q:VK),Inv X pins σ H s→RelV x v→RelV y u→r x y H Q →
  subscripted slice false v u=operate [v,u] (getItem v u)→wpAny (model X.prog X.w) X.A (subscriptTail value slice v u) (EP X pins σ Q) X.xe s
def MtR (X:Cx)(id:String)(r:V→List V→Hp→VK→Prop):Prop :=
 ∀(pins:List (Addr×Obj)) (s:Shared) (σ:St) (H:Hp) (x:V) (xs:List V) (v:Value) (us:List Value) (Q:VK),Inv X pins σ H s→RelV x v→zQ xs us→r x xs H Q →
  wpAny (model X.prog X.w) X.A (call (.builtin id) (v::us)) (EP X pins σ Q) X.xe s
section
variable {X:Cx} {a b:Expr} {ta tb:TE} {pos:Pos}
theorem IxR.or (h:IxR X r)(h':IxR X r'):IxR X (fun x y H Q=>r x y H Q∨r' x y H Q):=by
 intro value slice pins s σ H x y v u Q I rx ry q hs
 rcases q with q | q
 ·exact h value slice pins s σ H x y v u Q I rx ry q hs
 ·exact h' value slice pins s σ H x y v u Q I rx ry q hs
theorem y4 (hr:IxR X r)(ha:PE X a ta)(hb:PE X b tb)(hs:xfu b):PE X (.Subscript a b pos) (tOp r ta tb):=by
 intro pins s σ H Q I h
 exact Subscript_ (xhH ha hb I h fun v u s2 x y H2 I2 rx ry q=>hr a @b pins s2 σ H2 x y v u Q I2 rx ry q (hs _ _))
def xhI (K:PySem.W.Frag):R2:=fun x y H Q=>∃p xs i v,x=.ref p∧y=.int i∧SqL K H p xs∧atI xs i=some v∧Q v H
def xio (K:PySem.W.Frag):R2:=fun x y H Q=>∃p xs i v,x=.ref p∧y=.int i∧SqT K H p xs∧atI xs i=some v∧Q v H
def xiI:R2:=fun x y H Q=>∃z i c,x=.str z∧y=.int i∧z.length≤sizeLine∧atI z.cps.toList i=some c∧Q (.str ⟨#[c]⟩) H
theorem xaz:IxR X (xhI X.K):=by
 intro value slice pins s σ H x y v u Q I rx ry h hs
 obtain⟨p,xs,i,z,rfl,rfl,hq,he,q⟩:=h
 cases rx
 obtain⟨t,rfl⟩:=ry
 obtain⟨its,r,pl,hz⟩:=I.list hq
 obtain⟨j,h1,h2,h3,h4,h5⟩:=pX he
 obtain⟨w,ew,rw'⟩:=r.get h2
 have hl:=r.length
 have hn:=n5
 have fin:EP X pins σ Q w s:=⟨z,H,I,rw',q⟩
 by_cases h0:0≤i
 ·have hj:i.toNat=j:=by
   rw[seqIndex_of h0 h5] at h1
   exact xlp h1
  exact item_listR pl.isList h0 (by omega) (by rw[hj];simpa using ew) fin hs
 ·have hj:(i+(its.toArray.size:Int)).toNat=j:=by
   rw[seqIndex_neg (by omega) h4] at h1
   rw[xk2,←hl]
   exact xlp h1
  exact subscriptTail_builtinR (x:=w) pl.isList.typeIs slot_list_getitem.lookup
   (wpAny_getItem_list_neg (Q:=fun r s'=>r=w∧EP X pins σ Q r s') pl.isList (by omega) (by rw[xk2]<;>omega) (by omega) (by rw[hj];simpa using ew) ⟨rfl,fin⟩) hs
theorem xf1:IxR X (xio X.K):=by
 intro value slice pins s σ H x y v u Q I rx ry h hs
 obtain⟨p,xs,i,z,rfl,rfl,hq,he,q⟩:=h
 cases rx
 obtain⟨t,rfl⟩:=ry
 obtain⟨its,r,pl,hz⟩:=I.tuple hq
 obtain⟨j,h1,h2,h3,h4,h5⟩:=pX he
 obtain⟨w,ew,rw'⟩:=r.get h2
 have hl:=r.length
 have hn:=n5
 have fin:EP X pins σ Q w s:=⟨z,H,I,rw',q⟩
 exact subscriptTail_builtinR (x:=w) pl.typeIs slot_tuple_getitem.lookup
  (getItem_tuple (j:=j) (Q:=fun r s'=>r=w∧EP X pins σ Q r s') pl (by omega) (by omega) (by rw[xk2,←hl];exact h1) (by simpa using ew) ⟨rfl,fin⟩) hs
theorem xg1:IxR X xiI:=by
 intro value slice pins s σ H x y v u Q I rx ry h hs
 obtain⟨z,i,c,rfl,rfl,hz,he,q⟩:=h
 obtain⟨t,rfl⟩:=rx
 obtain⟨t',rfl⟩:=ry
 obtain⟨j,h1,h2,h3,h4,h5⟩:=pX he
 have hl:z.cps.toList.length=z.length:=by simp[Str.length]
 rw[hl] at h1 h4 h5
 have hn:=n5
 exact tail_any (typeIs_str s z t) slot_str_getitem.lookup (getItem_str (c:=c) (by
  have e1:decide (i < -(2 ^ 63:Int))=false:=xls (by omega)
  have e2:decide (i≥2 ^ 63)=false:=xls (by omega)
  rw[e1,e2,Bool.or_false]) (by rw[h1];simpa using h2) ⟨.str ⟨#[c]⟩,H,I.tok _,⟨_,rfl⟩,q⟩) hs
def rIx (K:PySem.W.Frag):R2:=fun x y H Q=>xhI K x y H Q∨xio K x y H Q∨xiI x y H Q
theorem xgB:IxR X (rIx X.K):=xaz.or (xf1.or xg1)
theorem l5 (its:List Value)(n j:Nat)(u:Value):Obj.mapSeq (·.setIfInBounds j u) { cls:=.type "list", data:=.seq its.toArray n }={ cls:=.type "list", data:=.seq (its.set j u).toArray n }:=by
 simp[Obj.mapSeq]
theorem Inv.lst {pins:List (Addr×Obj)}{σ:St}{H:Hp}{s:Shared}{p:Addr}{xs:List V}(I:Inv X pins σ H s)(h:H p=some (.lst xs)) :
  ∃(its:List Value) (n:Nat),zQ xs its∧s.heap.get? p=some { cls:=.type "list", data:=.seq its.toArray n }∧xs.length≤sizeLine:=by
 obtain⟨z,its,n,r,e⟩:=I.hok p _ h
 exact⟨its,n,r,e,z⟩
theorem Inv.lstUpd {pins:List (Addr×Obj)}{σ:St}{H:Hp}{s:Shared}{p:Addr}{xs ys:List V}{its its':List Value}{n n':Nat}{f:Obj→Obj}(I:Inv X pins σ H s)(h:H p=some (.lst xs))
  (ho:s.heap.get? p=some { cls:=.type "list", data:=.seq its.toArray n }) (hf:f { cls:=.type "list", data:=.seq its.toArray n }={ cls:=.type "list", data:=.seq its'.toArray n' }) (r:zQ ys its') (hz:ys.length≤sizeLine) (t:Nat) :
  Inv X pins σ (upd H p (.lst ys)) { s with heap:=s.heap.update p f,toks:=t }:=by
 have e:(s.heap.update p f).get? p=some { cls:=.type "list", data:=.seq its'.toArray n' }:=by
  rw[Heap.get?_update_self f ho (by rw[hf]<;>rfl),hf]
 refine I.write (x:=p) (e:=p) (by rw[h];trivial) (.inl rfl) (fun b u hb q=>(Heap.get?_update_other _ _ (Ne.symm hb)).trans q) ⟨_,e⟩ ?_
 exact⟨hz,its',n',r,e⟩
def xg4:V→V→V→Hp→(Hp→Prop)→Prop:=fun o i v H Q=>∃p xs k j,o=.ref p∧i=.int k∧H p=some (.lst xs)∧ixN xs.length k=some j∧Q (upd H p (.lst (xs.set j v)))
theorem set_list:xiD X xg4:=by
 intro pins s σ H o i v ov iv u Q I ro ri rv h
 obtain⟨p,xs,k,j,rfl,rfl,hp,hj,q⟩:=h
 cases ro
 obtain⟨t,rfl⟩:=ri
 obtain⟨its,n,r,ho,hz⟩:=I.lst hp
 obtain⟨h1,h2,h3,h4⟩:=xay hj
 have hl:=r.length
 have hn:=n5
 have I':Inv X pins σ (upd H p (.lst (xs.set j v))) { s with heap:=s.heap.update p (Obj.mapSeq (·.setIfInBounds j u)) } :=
  I.lstUpd hp ho (l5 its n j u) (r.set rv j) (by rw[xky];exact hz) s.toks
 by_cases h0:0≤k
 ·have hk:k.toNat=j:=by
   rw[seqIndex_of h0 h4] at h1
   exact xlp h1
  exact PySem.W.ki_setAt ho h0 (by omega) (by rw[xk2,←hl];exact h4) (by rw[hk];exact⟨_,I',q⟩)
 ·have hk:(k+(its.toArray.size:Int)).toNat=j:=by
   rw[seqIndex_neg (by omega) h3] at h1
   rw[xk2,←hl]
   exact xlp h1
  exact PySem.W.ki_setBack ho (by omega) (by rw[xk2,←hl];exact h3) (by omega) (by rw[hk];exact⟨_,I',q⟩)
theorem bL (lo hi:Option Int)(n:Nat):(sliceBounds lo hi none n).1=((HT.sIx n 0 lo:Nat):Int)∧(sliceBounds lo hi none n).2.1=((HT.sIx n n hi:Nat):Int)∧(sliceBounds lo hi none n).2.2=1:=by
 refine⟨?_,?_,rfl⟩
 ·cases lo with
  | none=>simp[sliceBounds,HT.sIx]
  | some i =>
   simp only[sliceBounds,HT.sIx,Option.getD_none,show(1:Int)>0 by decide,if_true]
   by_cases h:i<0
   ·simp only[h,if_true]<;>omega
   ·simp only[h,if_false]<;>omega
 ·cases hi with
  | none=>simp[sliceBounds,HT.sIx]
  | some i =>
   simp only[sliceBounds,HT.sIx,Option.getD_none,show(1:Int)>0 by decide,if_true]
   by_cases h:i<0
   ·simp only[h,if_true]<;>omega
   ·simp only[h,if_false]<;>omega
theorem md (its:List Value)(lo hi:Option Int):slicePick its.toArray lo hi none=((its.drop (HT.sIx its.length 0 lo)).take (HT.sIx its.length its.length hi-HT.sIx its.length 0 lo)).toArray:=by
 obtain⟨h1,h2,h3⟩:=bL lo hi its.toArray.size
 unfold slicePick
 rw[h1,h2,h3]
 simp only[sliceRange_one,pick_run,xk2]<;>rfl
def xf3 (K:PySem.W.Frag):V→Option Int→Option Int→Hp→VK→Prop:=fun x lo hi H Q=>∃a xs,x=.ref a∧SqL K H a xs∧∀p,H p=none→Q (.ref p) (upd H p (.lst (l_ xs lo hi)))
theorem xbN:SlR X (xf3 X.K):=by
 intro pins s σ H x v vl vu lo hi sl Q I rx hs pl pu h
 obtain⟨a,xs,rfl,hx,q⟩:=h
 cases rx
 obtain⟨its,r,ht,hz⟩:=I.list hx
 have hlen:=r.length
 refine⟨"list", _,slot_list_getitem.lookup,ht.isList.typeIs,?_⟩
 refine wpAny_getItem_list_slice ht.isList hs pl pu .none (by simp) ?_ (by rw[xk2]<;>omega)
 rw[md,←hlen]
 refine⟨.ref s.heap.objs.size,_,I.laid (t':=s.toks) (o:=.lst (l_ xs lo hi)) (fun b ob q=>Heap.get?_push_of_some _ q) (xlb _) ?_,rfl,q _ (I.hok.fresh (xlb _))⟩
 exact⟨xld (fZ xs lo hi) hz,_,0,(r.drop (HT.sIx xs.length 0 lo)).take (HT.sIx xs.length xs.length hi-HT.sIx xs.length 0 lo),Heap.get?_push_size _ rfl⟩
theorem nr:jA X (.builtin "len") (fun xs H Q=>∃p ys,xs=[.ref p]∧(SqL X.K H p ys∨SqT X.K H p ys)∧Q (.int ys.length) H):=by
 intro pins s σ H xs us Q I r h
 obtain⟨p,ys,rfl,hq,q⟩:=h
 obtain⟨u,rfl,rx⟩:=vals1 r
 cases rx
 have hn:=n5
 rcases hq with hq | hq
 ·obtain⟨its,r',pl,hz⟩:=I.list hq
  have hlen:=r'.length
  exact Calls.call_len_list pl.isList (by simp only[xk2]<;>omega) ⟨.int ys.length,H,I.tok _,⟨s.toks+1,by rw[xk2,hlen]⟩,q⟩
 ·obtain⟨its,r',pl,hz⟩:=I.tuple hq
  have hlen:=r'.length
  exact len_tuple pl (by simp only[xk2]<;>omega) ⟨.int ys.length,H,I.tok _,⟨s.toks+1,by rw[xk2,hlen]⟩,q⟩
theorem rP:jA X (.type "tuple") (fun xs H Q=>∃p ys,xs=[.ref p]∧((SqL X.K H p ys∧∀l,H l=none→Q (.ref l) (upd H l (.tup ys)))∨(SqT X.K H p ys∧Q (.ref p) H))):=by
 intro pins s σ H xs us Q I r h
 obtain⟨p,ys,rfl,h⟩:=h
 obtain⟨u,rfl,rx⟩:=vals1 r
 cases rx
 rcases h with ⟨hq,q⟩ | ⟨hq,q⟩
 ·obtain⟨its,r',pl,hz⟩:=I.list hq
  have hlen:=r'.length
  refine call_tuple_list pl.isList (fun h' kp=>?_) (by simp only[xk2]<;>omega)
  have I1:Inv X pins σ H { s with heap:=h' }:=I.kept (t':=s.toks) kp
  have I2:Inv X pins σ (upd H h'.objs.size (.tup ys)) { s with heap:=h'.push { cls:=.type "tuple", data:=.seq its.toArray } } :=
   I1.laid (t':=s.toks) (fun b o e=>Heap.get?_push_of_some _ e) (xlb _) (show uH X.prog X.w _ _ _ (.tup ys) from⟨hz,its,r',IsTup.new _ _⟩)
  exact⟨.ref h'.objs.size,_,I2,rfl,q _ (I1.hok.fresh (xlb _))⟩
 ·obtain⟨its,r',pl,hz⟩:=I.tuple hq
  exact call_tuple_same pl ⟨.ref p,H,I,rfl,q⟩
def tyV (K:PySem.W.Frag)(T:String)(x:V)(H:Hp):Prop:=match x with
 | .str _=>T = "str"
 | .int _=>T = "int"
 | .ref p=>(T = "list" ∧ ∃xs,SqL K H p xs)∨(T = "tuple" ∧ ∃o,K.lookup p=some o∧o.cls=.type "tuple" ∧ o.dict=none) ∨
   (T = "dict" ∧ ((∃kvs,H p=some (.dK kvs))∨∃kvs,H p=some (.dT kvs)))∨(T = "set" ∧ ∃S n,H p=some (.set S n))
 | _=>False
theorem xf_ (I:Inv X pins σ H s)(r:RelV x v)(ty:tyV X.K T x H) :
  s.TypeIs v T∧∀a,v=.ref a→∃ob,s.heap.get? a=some ob∧ob.dict=none:=by
 cases x with
 | str z =>
  obtain⟨t,rfl⟩:=r
  cases (show T = "str" from ty)
  exact⟨typeIs_str s z t,fun _ e=>nomatch e⟩
 | int i =>
  obtain⟨t,rfl⟩:=r
  cases (show T = "int" from ty)
  exact⟨typeIs_int s i t,fun _ e=>nomatch e⟩
 | ref p =>
  cases r
  rcases ty with ⟨rfl,xs,hq⟩ | ⟨rfl,o,hk,hc,hd⟩ | ⟨rfl,hk⟩ | ⟨rfl,S,n,hk⟩
  ·obtain⟨its,_,pl,_⟩:=I.list hq
   refine⟨pl.isList.typeIs,fun a e=>?_⟩
   cases e
   obtain⟨o,n,e,c,hd,_⟩:=pl
   exact⟨o,e,hd⟩
  ·refine⟨⟨o,I.kIn p o hk,hc⟩,fun a e=>?_⟩
   cases e
   exact⟨o,I.kIn _ o hk,hd⟩
  ·have z:∃o,s.heap.get? p=some o∧o.ExactDict:=by
    rcases hk with ⟨kvs,hk⟩ | ⟨kvs,hk⟩
    ·obtain⟨_,_,_,_,o,_,_,e,ex,_⟩:=I.hok p _ hk
     exact⟨o,e,ex⟩
    ·obtain⟨_,_,_,_,o,_,_,e,ex,_⟩:=I.hok p _ hk
     exact⟨o,e,ex⟩
   obtain⟨o,e,ex⟩:=z
   refine⟨⟨o,e,ex.1⟩,fun a e2=>?_⟩
   cases e2
   exact⟨o,e,ex.2.1⟩
  ·obtain⟨o,_,_,_,e,ex,_⟩:=I.hok p _ hk
   refine⟨⟨o,e,ex.1⟩,fun a e2=>?_⟩
   cases e2
   exact⟨o,e,ex.2.1⟩
 | _=>exact False.elim ty
def tBM (K:PySem.W.Frag)(T:String)(r:V→List V→Hp→VK→Prop)(to:TE)(t:TA):TE:=fun σ H Q=>to σ H fun x H1=>tyV K T x H1∧t σ H1 fun xs H2=>r x xs H2 Q
variable {o e:Expr} {es:List Expr} {to:TE} {t:TA} {name:Str} {apos cpos:Pos} {T id:String} {r:V→List V→Hp→VK→Prop}
theorem dN (pa:PlainAttrs T)(slot:Slot T name id)(hty:typeOf (.builtin id)=pure (.type "method_descriptor"))(hm:MtR X id r)(ho:PE X o to)(ha:PA X (e::es) t)
  (hbase:attributeBase o name X.env (eval o X.env)=eval o X.env:=by rfl)
  (hfew:((backTo cpos (starEach (e::es) X.env)).all (fun x=>!x.1)&&(backToKw cpos (keywordEach [] X.env)).all (fun x=>x.1.isSome)
   && decide ((e::es).length+([]:List Keyword).length+(if ([]:List Keyword).isEmpty then 0 else 1)<30))=true:=by rfl)
  (hline:(apos.endLine == cpos.line)=true:=by rfl) (hs:starEach (e::es) X.env=(false,eval e X.env)::starEach es X.env:=by rfl) (hplain:(backTo cpos (starEach es X.env)).any (·.1)=false:=by rfl) :
  PE X (.Call (.Attribute o name apos) (e::es) [] cpos) (tBM X.K T r to t):=by
 intro pins s σ H Q I h
 refine wpAny_Call_method_late hbase hfew hline rfl (thn (@ho pins s σ H _ I h) fun v s1 ⟨x,H1,I1,r1,ty,q1⟩=>?_)
 obtain⟨h1,h2⟩:=xf_ I1 r1 ty
 refine⟨T,id,pa,slot,hty,h1,h2,?_⟩
 have hA:=@ha cpos pins s1 σ H1 _ I1 q1
 rw[hs] at hA ⊢
 refine Calls.callWith_builtin (by show(false || (backTo cpos (starEach es X.env)).any (·.1))=false;rw[hplain]<;>rfl) (Calls.evalArgs_plain ?_)
 exact thn hA fun us s2 ⟨vs,H2,I2,r2,q2⟩=>@hm pins s2 σ H2 x vs v us Q I2 r1 r2 q2
end
end L2
namespace L2
open PySem PySem.Spec PyProof.Rows
def MtM (X:Cx)(id:String)(r:V→List V→Hp→VK→Prop):Prop :=
 ∀(pins:List (Addr×Obj)) (s:Shared) (σ:St) (H:Hp) (x:V) (xs:List V) (v:Value) (us:List Value) (Q:VK),Inv X pins σ H s→RelV x v→zQ xs us→r x xs H Q →
  wpAny (model X.prog X.w) X.A (call (.builtin id) (v::us)) (EP X pins σ Q) X.xe s
theorem zQ.one:∀ {x:V} {us:List Value},zQ [x] us→∃u,us=[u]∧RelV x u
 | _,_,.cons r .nil=>⟨_,rfl,r⟩
theorem zQ.rep (h:zQ xs us):∀k:Nat,zQ (List.replicate k xs).flatten (List.replicate k us).flatten
 | 0=>.nil
 | k+1=>by
  rw[xk0,xk0,xkc,xkc]
  exact zQ.append h (zQ.rep h k)
theorem foldl_rep (its:List Value):∀(k:Nat) (acc:List Value),
  List.foldl (fun x1 x2=>x1++x2) acc.toArray (List.replicate k its.toArray)=(acc++(List.replicate k its).flatten).toArray
 | 0,acc=>by simp
 | k+1,acc=>by
  have e:acc.toArray++its.toArray=(acc++its).toArray:=by simp
  have e2:(acc++its)++(List.replicate k its).flatten=acc++(List.replicate (k+1) its).flatten:=by
   rw[xk0,xkc,xj4]
  rw[←e2,←foldl_rep its k (acc++its),←e,xk0,xke]
section
variable {X:Cx} {pins:List (Addr×Obj)} {σ:St} {H:Hp} {s:Shared} {l b:Addr} {xs ys zs:List V}
theorem Inv.lset {its its':List Value}{n:Nat}{f:Array Value→Array Value}{t':Nat}(I:Inv X pins σ H s)(hH:H l=some (.lst xs))
  (e:s.heap.get? l=some { cls:=.type "list", data:=.seq its.toArray n }) (hf:f its.toArray=its'.toArray) (hv:zQ ys its') (hz:ys.length≤sizeLine) :
  Inv X pins σ (upd H l (.lst ys)) { s with heap:=s.heap.update l (Obj.mapSeq f),toks:=t' }:=by
 have q:=PySem.IsL.update e f
 rw[hf] at q
 refine I.write (x:=l) (e:=l) (by rw[hH];exact trivial) (.inl rfl) (fun b' u hb hu=>(Heap.get?_update_other s.heap (Obj.mapSeq f) (Ne.symm hb)).trans hu) ⟨_,q⟩ ?_
 exact⟨hz,its',_,hv,q⟩
theorem Inv.lnew (I:Inv X pins σ H s)(hv:zQ ys its)(hz:ys.length≤sizeLine) :
  Inv X pins σ (upd H s.heap.objs.size (.lst ys)) { s with heap:=s.heap.push { cls:=.type "list", data:=.seq its.toArray },toks:=t' } :=
 I.laid (fun _ _ q=>Heap.get?_push_of_some _ q) (xlb _) ⟨hz,its,0,hv,Heap.get?_push_size _ rfl⟩
theorem Inv.fresh (I:Inv X pins σ H s):H s.heap.objs.size=none:=I.hok.fresh (xlb _)
theorem Inv.lstM (I:Inv X pins σ H s)(hH:H l=some (.lst xs)):xs.length≤sizeLine∧∃(its:List Value) (n:Nat),zQ xs its∧xs.length=its.length∧s.heap.get? l=some { cls:=.type "list", data:=.seq its.toArray n }:=by
 obtain⟨z,its,n,r,e⟩:=I.hok l _ hH
 exact⟨z,its,n,r,r.length,e⟩
theorem xdS (h:n≤sizeLine):Builtin.List.listTooLong n=false:=by
 unfold Builtin.List.listTooLong
 exact xls (by omega)
end
section
variable {X:Cx}
def xbc:V→List V→Hp→VK→Prop:=fun x vs H Q=>∃l xs y,x=.ref l∧vs=[y]∧H l=some (.lst xs)∧xs.length<sizeLine∧Q .non (upd H l (.lst (xs++[y])))
theorem zY:MtM X "list.append" xbc:=by
 intro pins s σ H x vs v us Q I rx rv h
 obtain⟨l,xs,y,rfl,rfl,hH,hz,q⟩:=h
 cases rx
 obtain⟨u,rfl,ru⟩:=rv.one
 obtain⟨z,its,n,r,hl,e⟩:=I.lstM hH
 refine call_meets F.slot_list_append ⟨_,e,rfl⟩ F.entry_list_append (F.args_list_append_2 _ _) (PySem.list_append l its.toArray n u (by rw[xk2];omega)) ⟨e,?_⟩
 refine⟨.non,_,I.lset (its':=its++[u]) hH e (by simp) (r.append (.cons ru .nil)) ?_,rfl,q⟩
 rw[xkq,xkz]
 omega
def xhu:R2:=fun x y H Q=>∃l b xs zs,x=.ref l∧y=.ref b∧H l=some (.lst xs)∧H b=some (.lst zs)∧xs.length+zs.length≤sizeLine∧∀p,H p=none→Q (.ref p) (upd H p (.lst (xs++zs)))
theorem aL:OpR X (binaryOp .Add) xhu:=by
 intro pins s σ H x y v u Q I rx ry h
 obtain⟨l,b,xs,zs,rfl,rfl,hH,hB,hz,q⟩:=h
 cases rx
 cases ry
 obtain⟨z,its,n,r,hl,e⟩:=I.lstM hH
 obtain⟨z2,its2,n2,r2,hl2,e2⟩:=I.lstM hB
 refine PySem.P.add_list e e2 ?_ (by rw[xk2,xk2];omega)
 have ea:its.toArray++its2.toArray=(its++its2).toArray:=by simp
 rw[ea]
 exact⟨.ref _,_,I.lnew (t':=s.toks) (r.append r2) (by rw[xkq];omega),rfl,q _ I.fresh⟩
def xiG:R2:=fun x y H Q=>∃l k xs,x=.ref l∧y=.int k∧H l=some (.lst xs)∧-(2 ^ 63)≤k∧k<2 ^ 63∧xs.length*k.toNat≤sizeLine ∧
 ∀p,H p=none→Q (.ref p) (upd H p (.lst (List.replicate k.toNat xs).flatten))
theorem len_rep (xs:List α)(k:Nat):(List.replicate k xs).flatten.length=k*xs.length:=by
 induction k with
 | zero=>simp
 | succ k ih=>rw[xk0,xkc,xkq,ih,Nat.succ_mul,Nat.add_comm]
theorem xhb:OpR X (binaryOp .Mult) xiG:=by
 intro pins s σ H x y v u Q I rx ry h
 obtain⟨l,k,xs,rfl,rfl,hH,h1,h2,hz,q⟩:=h
 cases rx
 obtain⟨t,rfl⟩:=ry
 obtain⟨z,its,n,r,hl,e⟩:=I.lstM hH
 have hlen:its.toArray.size*k.toNat≤sizeLine:=by rw[xk2,←hl];exact hz
 have hcap:¬its.toArray.size*k.toNat>(2 ^ 63-1) / 8:=by
  have:(sizeLine:Nat)≤(2 ^ 63-1) / 8:=by decide
  omega
 have hfit:¬(!Builtin.List.listFitsIndex k)=true:=by
  rw[fitsIndex_both h1 h2]
  exact xjn
 have hlong:¬Builtin.List.listTooLong (its.toArray.size*k.toNat)=true:=by
  rw[xdS hlen]
  exact xjn
 have hnew:List.foldl (fun x1 x2=>x1++x2) #[] (List.replicate (if its.toArray.isEmpty=true then 0 else k.toNat) its.toArray)=(List.replicate k.toNat its).flatten.toArray:=by
  have f0:∀m:Nat,List.foldl (fun x1 x2=>x1++x2) #[] (List.replicate m its.toArray)=(List.replicate m its).flatten.toArray:=fun m=>by
   have:=foldl_rep its m []
   rw[xkV] at this
   exact this
  rw[f0]
  cases its with
  | nil=>simp
  | cons a r'=>rw[if_neg (by simp)]
 refine wpAny_binaryOp_repeat_ref (T := "list") (U := "int") (by decide) ⟨_,e,rfl⟩ (fun s'=>typeIs_int s' k t) noFill_list_mul F.fills_int_mul F.slot_int_rmul repeat_list F.slot_int_index.lookup
  (call_meets F.slot_int_rmul (typeIs_int s k t) F.entry_int_rmul (F.args_int_rmul_2 _ _) (int___rmul___int_list k t l its.toArray n)
   ⟨e,rfl,⟨_,e,rfl⟩,call_meets F.slot_list_mul ⟨_,e,rfl⟩ F.entry_list_mul (F.args_list_mul_2 _ _) (AutoListH.list___mul___list_int_3 l its.toArray n k t hfit hcap hlong) ⟨e,?_⟩⟩)
 rw[hnew]
 exact⟨.ref _,_,I.lnew (t':=s.toks) (r.rep k.toNat) (by rw[len_rep,Nat.mul_comm];exact hz),rfl,q _ I.fresh⟩
end
section
variable {prog:Program} {w:World} {A:Around} {E:Value→Shared→Prop} {s:Shared}
end
section
variable {X:Cx}
end
end L2
namespace Att
open PySem PySem.W PySem.Calls PyProof.Rows
theorem dS:∀(ns:List Int) (vs:List Value),WellAll P h vs (ns.map WData.int)→IntsAre vs ns:=by
 intro ns
 induction ns with
 | nil =>
  intro vs w
  rw[xkF] at w
  cases w
  exact .nil
 | cons n ns ih =>
  intro vs w
  rw[xkD] at w
  cases w with
  | cons a b =>
   cases a
   exact .cons _ _ (ih _ b)
theorem xaA {l:OpenLaw}{n:Nat}(hn:l.most=some n){P:Params}{h:Heap}{args:List WData}{vals:List Value}
  (hpre:l.row.toRowW.claim.pre args=true) (hwl:WellAll P h vals args) :
  ∃a vs ns,vals=[Value.ref a]∧args=[WData.list (ns.map WData.int)]∧h.get? a=some { cls:=.type "list", data:=.seq vs.toArray }∧IntsAre vs ns∧ns.length≤n:=by
 have hsh:WShape.hasAll [] args [.list .int]=true:=(pre_splitW hpre).1
 have hc:l.pre.holds [] { args:=args }=true:=(pre_splitW hpre).2
 obtain⟨d,r,rfl,h1,h2⟩:=hasAllW_cons hsh
 obtain rfl:=hasAllW_nil h2
 obtain⟨xs,rfl,h3⟩:=hasW_list h1
 obtain⟨ns,rfl⟩:=items_int h3
 have hlen:ns.length≤n:=by
  unfold OpenLaw.pre at hc
  have h4:(WTm.not (.lt (.lit (.int (n:Int))) (.len (.arg 0)))).holds [] { args:=[.list (ns.map .int)] }=true:=by
   have h4:=(holds_andW hc).1
   rw[hn] at h4
   exact h4
  have h5:=condW_of h4 (w_not (w_lt w_lit (w_len_list (w_arg rfl))))
  rw[xkv] at h5
  refine Nat.le_of_not_lt fun q=>?_
  have q':(n:Int)<((ns.length:Nat):Int):=by omega
  first
   | (rw[xlt q'] at h5;exact absurd h5 (by decide))
   | (simp at h5;omega)
 cases hwl with
 | cons w1 w2 =>
  cases w2
  cases w1 with
  | list ho hall=>exact⟨_,_,ns,rfl,rfl,ho,dS ns _ hall,hlen⟩
theorem xbW (l:OpenLaw)(args:List WData):l.row.toRowW.claim.post args (.bool true) args=true :=
 postW_of (r:=l.row.toRowW) (X:=(true == true))
  (show WShape.has [] (.bool true) .bool=true by first | rfl | decide | simp[WShape.has,WShape.arms,WShape.armsAll])
  (show(WTm.eq .res (.lit (.bool true))).value [] { args:=args,res:=some (.bool true),after:=args }=some (.bool (true == true)) from w_eq_bool (w_res rfl) w_lit) rfl
theorem dJ {l:OpenLaw}{n:Nat}{q:Program}{loose:List Str}{XP:(Str→Option Value)→Heap→Prop}{YP:World→Heap→Prop}{d:DefRec}
  (hn:l.most=some n) (hdf:d.params.defaults=[])
  (call:∀(w:World) (s₀ s₁:Shared) (mg mb:Str→Option Value) (fa:Addr) (o:Obj) (pm cd doc:Value) (a:Addr) (vs:List Value) (ns:List Int),
   Ground q loose [] XP w s₀ mg mb s₁.heap→YP w s₁.heap →
   s₁.heap.get? fa=some o→o.data=.func (docDef d.name d.params d.body d.scope pm cd doc)→s₁.heap.CodeRec cd d.name→mg d.name=some (.ref fa) →
   s₁.heap.get? a=some { cls:=.type "list", data:=.seq vs.toArray }→IntsAre vs ns→ns.length≤n→s₁.gens = #[] →
   codeAny (model l.prog w) callerA (.call (.ref fa) ⟨[.ref a],[]⟩) (fun r s'=>r=.ok (.ret (.bool true))∧OldK s₁.heap s'.heap∧s'.os=s₁.os∧AllBare s'.gens) s₁) :
  WalkO q loose XP YP l.row.toRowW d [] (fun f vs=>PySem.call f vs):=by
 intro w s₀ s₁ mg mb G Y fa o pm cd doc dV kV ho hd hcd hD hmg hg args vals as hpre hlay hrd hwl hlo
 obtain rfl:dV=.none:=Dflts.none hD hdf
 obtain rfl:kV=.none:=Dflts.noKw hD
 obtain⟨a,vs,ns,rfl,rfl,hobj,hints,hlen⟩:=xaA hn hpre hwl
 refine enter_call (codeAny_mono (call w s₀ s₁ mg mb fa o pm cd doc a vs ns G Y ho (fd_plain hd) hcd hmg hobj hints hlen hg) fun r s' hq=>?_)
 obtain⟨rfl,h2,h3,h4⟩:=hq
 exact⟨.inl ⟨.bool true,.bool true,[],rfl,fun _=>rfl,.bool true,xbW l _,fun _=>⟨List.Pairwise.nil,fun _ hm=>(nomatch hm)⟩⟩,h2,h3,h4⟩
section
variable {prog:Program} {w:World} {A:Around} {E:Value→Shared→Prop} {s:Shared} {K:Frag}
def ledger (h:Heap)(L d:Addr):List (Addr×Obj):=(List.range h.objs.size).filterMap fun a=>if a=L∨a=d then none else(h.get? a).map fun o=>(a,o)
end
end Att
namespace L2
open PySem PySem.Spec PyProof.Rows
theorem sC:∀ {vs:List Value} {ns:List Int},IntsAre vs ns→zQ (ns.map V.int) vs
 | _,_,.nil=>.nil
 | _,_,.cons n t h=>.cons ⟨t,rfl⟩ (sC h)
def xhJ (H:Hp):Prop:=∀b,H b=none∨∃o xs,H b=some (.frz o (.lst xs))
theorem xdN {P:Program}{w:World}{K:PySem.W.Frag}{mg mb:Str→Option Value}{CX:CXT}{k:Nat}{fa a:Addr}{fd:FuncData}{x:Str}{sp:Sp}{s₁:Shared}{vs:List Value}{ns:List Int}
  (KX:K.In s₁.heap) (hns:s₁.heap.Ns mainGlobals mg) (hb:s₁.heap.Ns builtinsNs mb) (hbb:∀x:Str,x ≠ "__name__" → mb x=bootBuiltins x) (hlim:s₁.heap.NoLimit) (hg:s₁.gens = #[])
  (ha:s₁.heap.get? a=some { cls:=.type "list", data:=.seq vs.toArray }) (hi:IntsAre vs ns) (hl:ns.length≤sizeLine) (hr:jg k callerA)
  (F:∀base:Heap,K.In base→base.Ns mainGlobals mg→aM P w K mg base CX k fa fd [x] sp) (hbind:∀(s:Shared) (u:Value),BindsTo s fd ⟨[u],[]⟩ [(x,u)])
  (hsp:∀H:Hp,xhJ H→SqL K H a (ns.map V.int)→sp [.ref a] H (fun v _=>v=.bl true) fun _ _ _=>False)
  (hCX:∀H e s',CX [] H s₁ (fun _ _ _=>False) e s'→False) :
  codeAny (model P w) callerA (.call (.ref fa) ⟨[.ref a],[]⟩) (fun r s'=>r=.ok (.ret (.bool true))∧OldK s₁.heap s'.heap∧s'.os=s₁.os∧AllBare s'.gens) s₁:=by
 have rv:=sC hi
 have lenV:=hi.length
 have core:∀H:Hp,xhJ H→SqL K H a (ns.map V.int)→HOk P w H s₁.heap→(∀b,H b≠none→b=a)→(H a≠none→K.lookup a=none) →
   codeAny (model P w) callerA (.call (.ref fa) ⟨[.ref a],[]⟩) (fun r s'=>r=.ok (.ret (.bool true))∧OldK s₁.heap s'.heap∧s'.os=s₁.os∧AllBare s'.gens) s₁:=by
  intro H hO hS hok hA hK
  have base_of:∀ {b:Addr} {o:Obj},s₁.heap.get? b=some o→H b=none→(o7 s₁.heap H).get? b=some o:=fun e n=>o8 e n
  have noA:∀ {b:Addr} {o:Obj} {es:Array DictEntry} {ep:Nat},s₁.heap.get? b=some o→o.data=.dict es ep→H b=none:=fun {b o es ep} e d=>by
   cases q:H b with
   | none=>rfl
   | some u =>
    have e':b=a:=hA b (by rw[q];simp)
    subst e'
    rw[ha] at e;cases e
    have d':Data.seq vs.toArray _=Data.dict es ep:=d
    cases d'
  have nsK:∀ {b:Addr} {m:Str→Option Value},s₁.heap.Ns b m→(o7 s₁.heap H).Ns b m:=fun {b m} ⟨o,es,ep,e,d,r⟩=>⟨o,es,ep,base_of e (noA e d),d,r⟩
  have hKb:K.In (o7 s₁.heap H):=fun b o e=>base_of (KX b o e) (by
   cases q:H b with
   | none=>rfl
   | some u =>
    have e':b=a:=hA b (by rw[q];simp)
    subst e'
    rw[hK (by rw[q];simp)] at e;cases e)
  have hM:Mod K mg (o7 s₁.heap H):=⟨hKb,nsK hns,⟨mb,nsK hb,hbb⟩,let ⟨mc,h1,h2⟩:=hlim;⟨mc,nsK h1,h2⟩⟩
  have e0:xdA P w K mg (o7 s₁.heap H) callerA [] s₁ H:=⟨rfl,hM,fun b o e=>xcb e,Nat.le_of_eq (mS _ _),trivial,fun b hb=>absurd (show b∈([]:List Addr) from hb) (by simp),hok,.of_eq hg⟩
  refine codeAny_mono ((F _ hKb (nsK hns)).run callerA [] s₁ H ⟨[.ref a],[]⟩ [.ref a] [.ref a] _ _ hr e0 (hbind s₁ (.ref a)) (.cons rfl .nil) (hsp H hO hS)) fun r s' h=>?_
  cases r with
  | error e=>exact(hCX H e s' h).elim
  | ok fl =>
   cases fl with
   | next=>exact False.elim h
   | brk=>exact False.elim h
   | cont=>exact False.elim h
   | ret u =>
    obtain⟨v,H',os,bare,un,hok',r',q⟩:=h
    have q':v=.bl true:=q
    subst q'
    obtain rfl:u=Value.bool true:=r'
    refine⟨rfl,OldK.of_keep fun b o e=>?_,os,bare⟩
    cases q:H b with
    | none=>exact un.keep b o e q (by intro z;exact absurd (show b∈([]:List Addr) from z) (by simp)) (by simp)
    | some u =>
     rcases hO b with z | ⟨ob,xs,z⟩
     ·rw[q] at z;cases z
     ·have z2:=un.frzs b ob _ z
      obtain⟨e1,_⟩:=hok b _ z
      obtain⟨e2,_⟩:=hok' b _ z2
      rw[e] at e1;cases e1
      exact e2
 cases hk:K.lookup a with
 | some o =>
  have e:=KX a o hk
  rw[ha] at e
  cases e
  refine core (fun _=>none) (fun _=>.inl rfl) (.inr ⟨_,vs.toArray,_,hk,rfl,rfl,rfl,by rw[xk2,lenV];exact hl,by simpa using rv⟩) (fun b u z=>by have z':(none:Option HO)=some u:=z;cases z') (fun b z=>absurd rfl z) fun z=>absurd rfl z
 | none =>
  refine core (fun b=>if b=a then some (.frz { cls:=.type "list", data:=.seq vs.toArray } (.lst (ns.map V.int))) else none) (fun b=>?_) (.inl (.inr ⟨{ cls:=.type "list", data:=.seq vs.toArray },if_pos rfl⟩)) (fun b u z=>?_) (fun b z=>?_) fun _=>hk
  ·by_cases hb:b=a
   ·exact .inr ⟨_,_,if_pos hb⟩
   ·exact .inl (if_neg hb)
  ·by_cases hb:b=a
   ·have z':=(if_pos hb).symm.trans z
    cases z'
    subst hb
    exact⟨ha,by rw[xkv];exact hl,vs,_,rv,ha⟩
   ·have z':=(if_neg hb).symm.trans z
    cases z'
  ·by_cases hb:b=a
   ·exact hb
   ·exact absurd (if_neg hb) z
end L2
namespace L2
open PySem PySem.Spec PyProof.Rows
abbrev KOf {K:PySem.W.Frag}{h:Heap}(_:K.In h):PySem.W.Frag:=K
theorem xhK {l:PySem.W.OpenLaw}{n k:Nat}{q:Program}{loose:List Str}{XP:(Str→Option Value)→Heap→Prop}{YP:World→Heap→Prop}{d:DefRec}{K:Params→PySem.W.Frag}{CX:World→CXT}{sp:World→Sp}{x:Str}
  (hn:l.most=some n) (hn2:n≤sizeLine) (hdf:d.params.defaults=[]) (hr:jg k callerA)
  (hY:∀(w:World) (h:Heap),YP w h→(K w.params).In h)
  (F:∀(w:World) (mg:Str→Option Value) (fa:Addr) (h:Heap),(K w.params).In h→h.Ns mainGlobals mg→mg d.name=some (.ref fa) →
   ∃fd:FuncData,(∀(s:Shared) (u:Value),BindsTo s fd ⟨[u],[]⟩ [(x,u)]) ∧
    ∀base:Heap,(K w.params).In base→base.Ns mainGlobals mg→aM l.prog w (K w.params) mg base (CX w) k fa fd [x] (sp w))
  (hsp:∀(w:World) (H:Hp) (a:Addr) (ns:List Int),ns.length≤n→xhJ H→SqL (K w.params) H a (ns.map V.int)→sp w [.ref a] H (fun v _=>v=.bl true) fun _ _ _=>False)
  (hCX:∀(w:World) (H:Hp) (s:Shared) (e:Value) (s':Shared),CX w [] H s (fun _ _ _=>False) e s'→False) :
  PySem.W.WalkO q loose XP YP l.row.toRowW d [] (fun f vs=>PySem.call f vs):=by
 refine Att.dJ hn hdf fun w s₀ s₁ mg mb fa o pm cd doc a vs ns G Y ho hd hcd hmg hobj hints hlen hg=>?_
 have KX:=hY w _ Y
 obtain⟨fd,hb,hF⟩:=F w mg fa _ KX G.T.g hmg
 exact xdN KX G.T.g G.T.b G.T.builtins G.T.nolimit hg hobj hints (xld hlen hn2) hr hF hb (fun H hO hS=>hsp w H a ns hlen hO hS) fun H e s'=>hCX w H s₁ e s'
end L2
namespace L2
open PySem PySem.Spec PyProof.Rows
def uC (s:Stmt):Arguments:=match s with
 | .FunctionDef _ a _ _ _ _ _ _ _ _=>a
 | _=>{ posonlyargs:=[],args:=[],vararg:=none,kwonlyargs:=[],kw_defaults:=[],kwarg:=none,defaults:=[] }
def zj (s:Stmt):List Stmt:=match s with
 | .FunctionDef _ _ b _ _ _ _ _ _ _=>b
 | _=>[]
def xf (s:Stmt):Scope:=match s with
 | .FunctionDef _ _ _ _ _ _ sc _ _ _=>sc
 | _=>{ kind:=.function,names:=[],isGenerator:=false,isCoroutine:=false }
abbrev CX0:CXT:=fun _ _ _ _ _ _=>False
abbrev E0:XK:=fun _ _ _=>False
theorem xhX:a_ CX0 X E0:=fun _ _ _ _ _ _ _ h=>h.elim
structure Fun (K:PySem.W.Frag)(x qual:Str)(st:Stmt)(f:Addr)(fd:FuncData):Prop where
 ex:∃(oc:Value) (od:Option Addr) (kV doc pm:Value) (an:Option Addr) (cdv ct:Value) (osl:Array (Option Value)),
  fd=PySem.W.fnOf x qual (uC st) (zj st) (xf st) .none kV doc pm an cdv ct∧K.lookup f=some ⟨oc,od,.func fd,osl⟩∧PySem.W.codeIn K cdv qual=true
 kp:PySem.W.keepIn K (.ref f)=true
section
variable {P:Program} {w:World} {K:PySem.W.Frag} {mg:Str→Option Value} {base:Heap}
theorem Fun.ok {x qual:Str}{st:Stmt}{f:Addr}{fd:FuncData}{N ps:List Str}{k:Nat}{sp:Sp}(F:Fun K x qual st f fd)(S:xA N ps (xf st))(len:∀vs H Q E,sp vs H Q E→vs.length=ps.length)
  (hbody:∀(cdv:Value) (A:Around) (outer:List Env) (s:Shared) (H:Hp) (vs:List V) (Q:VK) (E:XK),jg k (A.deeper (envOfC qual (xf st) s.heap.objs.size f cdv))→sp vs H Q E →
   ∃t,PSs (dm CX0 P w K mg base N qual (xf st) f cdv A outer s H E).nox (zj st) t∧t { nx:=fun _ H'=>Q .non H',rt:=Q } (start N vs) H):aM P w K mg base CX0 (k+1) f fd ps sp:=by
 obtain⟨oc,od,kV,doc,pm,an,cdv,ct,osl,rfl,lk,hcd⟩:=F.ex
 refine xe6 lk hcd S len fun A outer s H vs Q E hr hsp=>?_
 obtain⟨t,h,q⟩:=hbody cdv A outer s H vs Q E hr hsp
 exact⟨t,h.nox,q⟩
theorem Fun.binds {x qual:Str}{st:Stmt}{f:Addr}{fd:FuncData}{ps:List Str}(F:Fun K x qual st f fd)
  (h:∀(kV doc pm:Value) (an:Option Addr) (cdv ct:Value) (us:List Value),us.length=ps.length→bindArgs (PySem.W.fnOf x qual (uC st) (zj st) (xf st) .none kV doc pm an cdv ct) ⟨us,[]⟩=pure (ps.zip us)):Binds K fd ps []:=by
 obtain⟨oc,od,kV,doc,pm,an,cdv,ct,osl,rfl,lk,hcd⟩:=F.ex
 exact .all (h kV doc pm an cdv ct)
theorem xeG {x qual:Str}{st:Stmt}{f:Addr}{oc:Value}{od an:Option Addr}{osl:Array (Option Value)}{kV doc pm cdv ct:Value}(l:K.lookup f=some ⟨oc,od,.func (PySem.W.fnOf x qual (uC st) (zj st) (xf st) .none kV doc pm an cdv ct),osl⟩)
  (c:PySem.W.codeIn K cdv qual=true) (k:PySem.W.keepIn K (.ref f)=true):Fun K x qual st f (PySem.W.fnOf x qual (uC st) (zj st) (xf st) .none kV doc pm an cdv ct):=⟨⟨oc,od,kV,doc,pm,an,cdv,ct,osl,rfl,l,c⟩,k⟩
end
theorem xaP (h:n≤1000):n<sizeLine:=xlf h (by decide)
section
variable {X:Cx}
theorem pv (i:Nat)(hN:X.N[i]? = some x:=by rfl)(hv:Vis X.env.scope x:=by first | exact Or.inl rfl | exact Or.inr (Or.inl rfl) | exact Or.inr (Or.inr rfl))(hd:(x == ("__debug__" : Str))=false:=by decide)
  (hcd:(x == ("__classdict__" : Str))=false:=by decide):PE X (.Name x pos) (rz i):=xeh hN hv hd hcd
end
theorem pN {A B:Prop}(h:B):if false=true then A else B:=by
 rw[if_neg xjn]
 exact h
theorem xat {A B:Prop}(h:A):if true=true then A else B:=by
 rw[if_pos rfl]
 exact h
theorem xiE {c A B:Prop}[Decidable c](h1:c→A)(h2:¬c→B):if c then A else B:=by
 by_cases h:c
 ·rw[if_pos h]
  exact h1 h
 ·rw[if_neg h]
  exact h2 h
end L2
namespace L2
open PySem PySem.Spec PyProof.Rows
def rq (env:Env):List (Str×NameKind)→List (Str×Addr)→List (Str×Addr)
 | [],cs=>cs
 | (n,k)::r,cs=>if k == NameKind.free then(match env.cells.lookup n with | some a=>rq env r ((n,a)::cs) | none=>rq env r cs) else rq env r cs
theorem cK:∀(l:List (Str×NameKind)) (cs:List (Str×Addr)),(∀y∈l,y.2=NameKind.free→∃c,env.cells.lookup y.1=some c) →
  (forIn l cs (fun(x:Str×NameKind) (r:List (Str×Addr))=>(if (x.2 == NameKind.free)=true then(do let a ←cellOf env x.1;pure (ForInStep.yield ((x.1,a)::r))) else pure (ForInStep.yield r):Sem (ForInStep (List (Str×Addr))))))=pure (rq env l cs)
 | [],cs,_=>rfl
 | (n,k)::r,cs,h=>by
  rw[List.forIn_cons]
  have hr:∀y∈r,y.2=NameKind.free→∃c,env.cells.lookup y.1=some c:=fun y hy=>h y (xkK _ hy)
  by_cases hk:k=NameKind.free
  ·subst hk
   obtain⟨c,hc⟩:=h (n,.free) xkL rfl
   have hc':env.cells.lookup n=some c:=hc
   have e1:cellOf env n=pure c:=by unfold cellOf;rw[hc']
   have e2:rq env ((n,.free)::r) cs=rq env r ((n,c)::cs):=by
    show(if (NameKind.free == NameKind.free)=true then _ else _)=_
    rw[if_pos (show(NameKind.free == NameKind.free)=true from rfl),hc']
   rw[e2,if_pos (show((NameKind.free == NameKind.free)=true) from rfl),e1,pure_bind,pure_bind]
   exact cK r _ hr
  ·have hb:(k == NameKind.free)=false:=by simpa using hk
   have e2:rq env ((n,k)::r) cs=rq env r cs:=by
    show(if (k == NameKind.free)=true then _ else _)=_
    rw[hb];rfl
   rw[e2,if_neg (by rw[hb];exact xjn),pure_bind]
   exact cK r _ hr
theorem xaJ (h:∀y∈sc.names,y.2=NameKind.free→∃c,env.cells.lookup y.1=some c):closureFor sc env=pure (rq env sc.names []):=by
 have q:=cK (env:=env) sc.names [] h
 unfold closureFor
 show(do let r ←forIn sc.names [] (fun(x:Str×NameKind) (r:List (Str×Addr))=>_);pure r)=_
 rw[show(forIn sc.names ([]:List (Str×Addr)) (fun(x:Str×NameKind) (r:List (Str×Addr))=>match x with
   | (name,kind)=>if (kind == NameKind.free)=true then(do let a ←cellOf env name;pure (ForInStep.yield ((name,a)::r))) else pure (ForInStep.yield r)):Sem (List (Str×Addr)))=pure (rq env sc.names []) from q]
 rfl
theorem ve:∀(l:List (Str×NameKind)) (cs:List (Str×Addr)),(rq env l cs).lookup x=some c→(∀c,cs.lookup x=some c→env.cells.lookup x=some c)→env.cells.lookup x=some c
 | [],cs,h,hc=>hc c h
 | (n,k)::r,cs,h,hc=>by
  unfold rq at h
  split at h
  ·split at h
   ·rename_i a ha
    refine ve r _ h fun c' h'=>?_
    rw[xkB] at h'
    by_cases e:x == n
    ·rw[e] at h'
     have:x=n:=by simpa using e
     rw[this,ha];exact h'
    ·have e':(x == n)=false:=by simpa using e
     rw[e'] at h'
     exact hc c' h'
   ·exact ve r _ h hc
  ·exact ve r _ h hc
theorem jI (he:env.cells.lookup x=some c):∀(l:List (Str×NameKind)) (cs:List (Str×Addr)),cs.lookup x=some c→(rq env l cs).lookup x=some c
 | [],cs,h=>h
 | (n,k)::r,cs,h=>by
  unfold rq
  split
  ·split
   ·rename_i a ha
    refine jI he r _ ?_
    rw[xkB]
    by_cases e:x == n
    ·rw[e]
     have e':x=n:=by simpa using e
     rw[e',ha] at he
     exact he
    ·have e':(x == n)=false:=by simpa using e
     rw[e']
     exact h
   ·exact jI he r _ h
  ·exact jI he r _ h
theorem jR (he:env.cells.lookup x=some c):∀(l:List (Str×NameKind)) (cs:List (Str×Addr)),(x,NameKind.free)∈l→(rq env l cs).lookup x=some c
 | (n,k)::r,cs,h=>by
  rcases xkJ.mp h with e | e
  ·have e1:n=x:=xlq (·.1) e.symm
   have e2:k=.free:=xlq (·.2) e.symm
   subst e1 e2
   unfold rq
   rw[if_pos (show(NameKind.free == NameKind.free)=true from rfl),he]
   exact jI he r _ (by rw[xkB];simp)
  ·unfold rq
   split
   ·split
    ·exact jR he r _ e
    ·exact jR he r _ e
   ·exact jR he r _ e
def y7 (X:Cx)(sc:Scope)(N:List Str)(C:Addr)(s:Shared)(H:Hp)(ex:List Addr):Cx :=
 { X with N:=N,s₀:=s,H₀:=H,env:=compEnvC sc (rq X.env sc.names []) C X.env,outer:=X.stack,stack:=X.stack,ex:=ex,fn:=fun _=>false,pn:=[],xe:=fun _ _=>False }
def xbZ (XN:List Str)(xs sc:Scope)(N:List Str)(tau:List (Option Nat)):Bool :=
 decide (sc.kind=.function)&&sc.names.all (fun y=>decide (y.2≠.cell))&&sc.names.all (fun y=>decide (y.2≠.local) || decide (sc.names.lookup y.1=some .local))&&decide N.Nodup&&decide (tau.length=N.length) &&
 (tau.zip N).all (fun p=>match p.1 with | none=>true | some j=>decide (XN[j]? = some p.2)&&decide (sc.names.lookup p.2=some .free)) &&
 sc.names.all (fun y=>decide (y.2≠.free) || decide (xs.names.lookup y.1=some .cell) || decide (xs.names.lookup y.1=some .free))&&decide (xs.kind=.function)
structure ka (X:Cx)(sc:Scope)(N:List Str)(tau:List (Option Nat)):Prop where
 kind:sc.kind=.function
 nocell:∀y∈sc.names,y.2≠.cell
 loc:∀y∈sc.names,y.2=.local→sc.names.lookup y.1=some .local
 nd:N.Nodup
 len:tau.length=N.length
 out:∀(i j:Nat) (x:Str),tau[i]? = some (some j)→N[i]? = some x→X.N[j]? = some x∧sc.names.lookup x=some .free
 fr:∀y∈sc.names,y.2=.free→X.env.scope.names.lookup y.1=some .cell∨X.env.scope.names.lookup y.1=some .free
 okind:X.env.scope.kind=.function
theorem zip_get:∀ {l:List α} {k:List β} {i:Nat} {a:α} {b:β},l[i]? = some a→k[i]? = some b→(a,b)∈l.zip k
 | [],_,_,_,_,h,_=>by simp at h
 | _::_,[],_,_,_,_,h=>by simp at h
 | x::l,y::k,0,a,b,h1,h2=>by simp at h1 h2;subst h1;subst h2;simp
 | x::l,y::k,i+1,a,b,h1,h2=>by
  have:=zip_get (l:=l) (k:=k) (i:=i) (by simpa using h1) (by simpa using h2)
  rw[xk9]
  exact xkK _ this
theorem yf (h:xbZ XN xs sc N tau=true)(h1:X.N=XN)(h2:X.env.scope=xs):ka X sc N tau:=by
 subst h1 h2
 unfold xbZ at h
 simp only[xjm,xj1,xlu,Bool.or_eq_true] at h
 obtain⟨⟨⟨⟨⟨⟨⟨k,c⟩,l⟩,nd⟩,len⟩,out⟩,fr⟩,ok⟩:=h
 refine⟨k,c,fun y hy e=>(l y hy).resolve_left (fun z=>z e),nd,len,fun i j x e1 e2=>?_,fun y hy e=>?_,ok⟩
 ·have:=out _ (zip_get e1 e2)
  simpa using this
 ·rcases fr y hy with (z | z) | z
  ·exact absurd e z
  ·exact .inl z
  ·exact .inr z
def mH (tau:List (Option Nat))(σ:St):St:=tau.map fun o=>match o with | some j=>(σ[j]?).getD none | none=>none
theorem qV {sc:Scope}{env:Env}:∀ {l:List (Str×NameKind)} {x:Str} {k:NameKind},
  (l.map fun(n,k)=>if (k == NameKind.free&&env.scope.kind == .function&&env.kindOf n == some .cell) then(n,NameKind.cell) else(n,k)).lookup x=some k→((∀y∈l,y.2≠NameKind.cell)→k≠.local→(x,NameKind.free)∈l∨l.lookup x=some k∧k≠.cell)
 | [],x,k,h=>by simp at h
 | (n,k')::r,x,k,h=>by
  intro nc nl
  have ih:=@qV sc env r x k
  have h:List.lookup x ((if (k' == NameKind.free&&env.scope.kind == .function&&env.kindOf n == some .cell)=true then(n,NameKind.cell) else(n,k'))::(r.map _))=some k:=h
  by_cases hx:x=n
  ·subst hx
   by_cases hc:(k' == NameKind.free&&env.scope.kind == .function&&env.kindOf x == some .cell)=true
   ·left
    have:k'=.free:=by
     simp only[xjm] at hc
     simpa using hc.1.1
    subst this
    exact xkL
   ·rw[if_neg hc,xkB] at h
    simp at h
    subst h
    right
    exact⟨by rw[xkB];simp,nc (x,k') xkL⟩
  ·have e:(x == n)=false:=by simpa using hx
   have h':List.lookup x (r.map fun(n,k)=>if (k == NameKind.free&&env.scope.kind == .function&&env.kindOf n == some .cell) then(n,NameKind.cell) else(n,k))=some k:=by
    split at h
    ·rw[xkB,e] at h;exact h
    ·rw[xkB,e] at h;exact h
   rcases ih h' (fun y hy=>nc y (xkK _ hy)) nl with z | ⟨z,w⟩
   ·exact .inl (xkK _ z)
   ·exact .inr ⟨by rw[xkB,e];exact z,w⟩
section
variable {X:Cx} {sc:Scope} {N:List Str} {tau:List (Option Nat)} {pins:List (Addr×Obj)} {σ:St} {H:Hp} {s:Shared}
theorem ka.cells (k:ka X sc N tau)(ok:X.Ok):∀y∈sc.names,y.2=NameKind.free→∃c,X.env.cells.lookup y.1=some c:=fun y hy e=>ok.has y.1 (k.fr y hy e)
theorem ka.vis (k:ka X sc N tau)(h:(relabel sc X.env).names.lookup x=some .cell∨(relabel sc X.env).names.lookup x=some .free):(x,NameKind.free)∈sc.names:=by
 rcases h with h | h
 ·rcases qV (sc:=sc) (env:=X.env) (l:=sc.names) h k.nocell (by decide) with z | ⟨_,z⟩
  ·exact z
  ·exact absurd rfl z
 ·rcases qV (sc:=sc) (env:=X.env) (l:=sc.names) h k.nocell (by decide) with z | ⟨z,_⟩
  ·exact z
  ·exact PySem.mem_of_lookup z
theorem xau (k:ka X sc N tau)(I:Inv X pins σ H s)(hf:∀b∈fp,xas X pins H b)(hob:∀b∈fp,∃o,s.heap.get? b=some o) :
  (y7 X sc N (s.heap.objs.size+1) s H fp).Ok where
 mod:=I.ok.mod
 kind:=k.kind
 glob:=I.ok.glob
 blt:=I.ok.blt
 above:=xlc _
 inj:=fun x y c h1 h2=>I.ok.inj x y c (ve _ _ h1 fun _ z=>by simp at z) (ve _ _ h2 fun _ z=>by simp at z)
 has:=fun x h=>by
  have m:=k.vis h
  obtain⟨c,e⟩:=k.cells I.ok _ m rfl
  exact⟨c,jR e _ _ m⟩
 cab:=fun x c h=>by cases h
 hd:=I.ok.hd
 frames:=I.ok.frames
 stk:=.inl rfl
 exf:=fun b hb=>⟨fun z=>by
  obtain⟨o,e⟩:=hob b hb
  have l:=Heap.lt_size e
  have z':b=s.heap.objs.size+1:=z
  rw[z'] at l
  exact xle _ (Nat.lt_of_succ_lt l),fun x c h=>(hf b hb).2.2.2.2.1 x c (ve _ _ h fun _ z=>by simp at z)⟩
 bs:=I.bs
 bsz:=xld I.ok.bsz I.sz
 noex:=fun b o e hb=>by
  rcases(hf b hb).2.2.2.1 with z | z
  ·exact I.ok.noex b o e z
  ·exact absurd (xlg (Heap.lt_size (I.ok.bs b o e).1) z) (xle _)
 exfs:=fun b hb z=>by
  rcases xkJ.mp (I.stkSub b z) with e | e
  ·exact(hf b hb).2.1 e
  ·exact(hf b hb).2.2.1 e
 funs:=I.stack
 frf:=I.stkFree
theorem o6 {i:Nat}{v:V}(h:(mH tau σ)[i]? = some (some v)):∃j,tau[i]? = some (some j)∧σ[j]? = some (some v):=by
 unfold mH at h
 rw[xkl] at h
 cases e:tau[i]? with
 | none=>rw[e] at h;cases h
 | some o =>
  rw[e] at h
  cases o with
  | none=>cases h
  | some j =>
   have h':(σ[j]?).getD none=some v:=by simpa using h
   refine⟨j,rfl,?_⟩
   cases q:σ[j]? with
   | none=>rw[q] at h';cases h'
   | some o'=>rw[q] at h';exact xlq some h'
theorem xdv (k:ka X sc N tau)(I:Inv X pins σ H s){fp:List Addr}(hf:∀b∈fp,xas X pins H b)(hob:∀b∈fp,∃o,s.heap.get? b=some o){h1:Heap}{t':Nat}
  (kp:∀b o,s.heap.get? b=some o→h1.get? b=some o) (hn:h1.Ns (s.heap.objs.size+1) (fun _=>none)) (hD:h1.get? s.heap.objs.size=some { cls:=.type "list", data:=.seq #[] 0 }) :
  Inv (y7 X sc N (s.heap.objs.size+1) s H fp) [(s.heap.objs.size,{ cls:=.type "list", data:=.seq #[] 0 })] (mH tau σ) H { s with heap:=h1,toks:=t' } where
 ok:=xau k I hf hob
 os:=rfl
 bare:=I.bare
 base:=Un.kept kp
 loc:=⟨_,hn,fun i x v e1 e2 e3=>by
  obtain⟨j,t1,t2⟩:=o6 e2
  obtain⟨o1,o2⟩:=k.out i j x t1 e1
  have m:(x,NameKind.free)∈sc.names:=PySem.mem_of_lookup o2
  have hk:=k.fr _ m rfl
  obtain⟨mm,hn',hl⟩:=I.loc
  obtain⟨u,r,l⟩:=hl j x v o1 t2 (hk.elim (fun z=>.inr (.inl z)) fun z=>.inr (.inr z))
  refine⟨u,r,.inr ⟨?_,?_⟩⟩
  ·rcases e3 with z | z | z
   ·exfalso
    have:∀ {l:List (Str×NameKind)},l.lookup x=some .free→(l.map fun(n,k)=>if (k == NameKind.free&&X.env.scope.kind == .function&&X.env.kindOf n == some .cell) then(n,NameKind.cell) else(n,k)).lookup x≠some .local:=by
     intro l
     induction l with
     | nil=>intro h;simp at h
     | cons y r ih =>
      obtain⟨n,k'⟩:=y
      intro h q
      have q:List.lookup x ((if (k' == NameKind.free&&X.env.scope.kind == .function&&X.env.kindOf n == some .cell)=true then(n,NameKind.cell) else(n,k'))::(r.map _))=some .local:=q
      by_cases hx:x=n
      ·subst hx
       rw[xkB] at h
       simp at h
       subst h
       split at q
       ·rw[xkB] at q;simp at q
       ·rw[xkB] at q;simp at q
      ·have e:(x == n)=false:=by simpa using hx
       rw[xkB,e] at h
       refine ih h ?_
       split at q
       ·rw[xkB,e] at q;exact q
       ·rw[xkB,e] at q;exact q
    exact this o2 z
   ·exact .inl z
   ·exact .inr z
  ·rcases l with ⟨z,_⟩ | ⟨_,c,ec,hc⟩
   ·exfalso
    have z:X.env.scope.names.lookup x=some .local:=z
    rcases hk with q | q<;>rw[z] at q<;>cases q
   ·obtain⟨o,ho,hd⟩:=hc
    exact⟨c,jR ec _ _ m,o,kp c o ho,hd⟩⟩
 cell:=fun x c h=>by
  obtain⟨v,o,ho,hd⟩:=I.cell x c (ve _ _ h fun _ z=>by simp at z)
  exact⟨v,o,kp c o ho,hd⟩
 free:=I.hok.fresh (xlc _)
 freeC:=fun x c h=>I.freeC x c (ve _ _ h fun _ z=>by simp at z)
 pin:=fun p hp=>by
  have e:p=(s.heap.objs.size,{ cls:=.type "list", data:=.seq #[] 0 }):=by simpa [y7] using hp
  subst e
  refine⟨hD,I.hok.fresh (xlb _),xlm (xli _),fun z=>?_,fun v=>by simp⟩
  rcases xkJ.mp (I.stkSub _ z) with e | e
  ·exact absurd (e▸I.lt) (xle _)
  ·exact I.nofs (xlb _) e
 hok:=I.hok.kept kp
 len:=by
  show(mH tau σ).length=N.length
  unfold mH
  rw[xkv]
  exact k.len
end
end L2
namespace L2
open PySem PySem.Spec PyProof.Rows
theorem nt (I:Nat→Shared→Prop)
  (turn:∀n s,I n s→wpAny (model prog w) A (pyNext it) (fun r s₁=>match r with
   | none=>R (.ok .next) s₁
   | some v=>wpAny (model prog w) A (letOwnedTupleGo target it v) (fun _ s₀=>wpAny (model prog w) A (assign target env v) (fun _ s₂ =>
     wpAny (model prog w) A (forIn ifs true fun c r=>if r=true then do let ok ←isTrue c env (eval c env);pure (ForInStep.yield ok) else pure (ForInStep.yield r)) (fun ok s₃ =>
      if ok=true then wpAny (model prog w) A (eval elt env) (fun x s₄ =>
       wpAny (model prog w) A (call (.builtin "list.append") [acc,x]) (fun _ s₅=>∃m,m<n∧I m s₅) (notedBy (model prog w) A env fun e s'=>R (.error e) s') s₄) (notedBy (model prog w) A env fun e s'=>R (.error e) s') s₃
      else ∃m,m<n∧I m s₃) (notedBy (model prog w) A env fun e s'=>R (.error e) s') s₂) (notedBy (model prog w) A env fun e s'=>R (.error e) s') s₀) (notedBy (model prog w) A env fun e s'=>R (.error e) s') s₁) (notedBy (model prog w) A env fun e s'=>R (.error e) s') s)
  (n:Nat) (h:I n s) :
  codeAny (model prog w) A (.compLoop (.ListComp elt [⟨target,iter,ifs,0⟩] scope pos) 0 it acc env) R s:=by
 refine codeAny_loop rfl I (fun n s hI=>?_) n h
 show wpAny _ A ((compTurn (.ListComp elt [⟨target,iter,ifs,0⟩] scope pos) 0 it acc env).onRaise (fun x=>do noteFrame x env;theTreesLotGoes x)) _ _ s
 refine wpAny_noted ?_
 rw[compTurn_list]
 refine wpAny_bind (wpAny_standAt (wpAny_bind (wpAny_mono (turn n s hI) (fun r s₁ h₁=>?_) fun _ _ h'=>h')))
 cases r with
 | none=>exact wpAny_pure h₁
 | some v =>
  refine wpAny_bind (wpAny_mono h₁ (fun _ s₀ h₀=>?_) fun _ _ h'=>h')
  refine wpAny_bind (wpAny_mono h₀ (fun _ s₂ h₂=>wpAny_bind (wpAny_mono h₂ (fun ok s₃ h₃=>?_) fun _ _ h'=>h')) fun _ _ h'=>h')
  cases ok with
  | false=>exact wpAny_pure ⟨rfl,h₃⟩
  | true =>
   exact wpAny_bind (wpAny_bind (wpAny_mono h₃ (fun x s₄ h₄=>wpAny_bind (wpAny_mono h₄ (fun _ s₅ h₅=>wpAny_pure (wpAny_pure ⟨rfl,h₅⟩)) fun _ _ h'=>h')) fun _ _ h'=>h'))
def PIf (Y:Cx)(ifs:List Expr)(t:TT):Prop :=
 ∀(pins:List (Addr×Obj)) (s:Shared) (σ:St) (H:Hp) (Q:Bool→Hp→Prop),Inv Y pins σ H s→t σ H Q →
  wpAny (model Y.prog Y.w) Y.A (forIn ifs true fun c r=>if r=true then do let ok ←isTrue c Y.env (eval c Y.env);pure (ForInStep.yield ok) else pure (ForInStep.yield r)) (TP Y pins σ Q) Y.xe s
def xgA:TT:=fun _ H Q=>Q true H
theorem vA:PIf Y [] xgA:=fun pins s σ H Q I h=>wpAny_tests_nil ⟨H,I,h⟩
theorem wu (h:PT Y c t):PIf Y [c] t:=fun pins s σ H Q I q=>wpAny_tests_one (@h pins s σ H Q I q)
def Agree (tau:List (Option Nat))(σ σ2:St):Prop:=∀i j:Nat,tau[i]? = some (some j)→σ2[i]? = σ[i]?
def GA (tau:List (Option Nat))(g:TG):Prop:=∀x σ H Q,g x σ H Q→g x σ H (fun σ2 H2=>Q σ2 H2∧Agree tau σ σ2)
def GAs (tau:List (Option Nat))(t:TGs):Prop:=∀xs σ H Q,t xs σ H Q→t xs σ H (fun σ2 H2=>Q σ2 H2∧Agree tau σ σ2)
theorem zS (h:tau[i]? = some none):GA tau (dz i):=fun x σ H Q q=>⟨q,fun k j e=>by
 rw[xkn]
 rintro rfl
 rw[h] at e;cases e⟩
theorem kh:GAs tau xhx:=fun xs σ H Q q=>⟨q.1,q.2,fun _ _ _=>rfl⟩
theorem uw {K:PySem.W.Frag}{n:Nat}{t:TGs}{tau:List (Option Nat)}(h:GAs tau t):GA tau (xhm K n t):=fun x σ H Q q=>by
 obtain⟨a,xs,e,sq,l,r⟩:=q
 exact⟨a,xs,e,sq,l,h _ _ _ _ r⟩
theorem yP (h:tau[i]? = some none)(hu:GAs tau u):GAs tau (xdr (dz i) u):=fun xs σ H Q q=>by
 obtain⟨v,r,e,q⟩:=q
 refine⟨v,r,e,?_⟩
 have q':u r (σ.set i (some v)) H Q:=q
 show u r (σ.set i (some v)) H _
 have:=hu _ _ _ _ q'
 have e2:(fun σ2 H2=>Q σ2 H2∧Agree tau (σ.set i (some v)) σ2)=(fun σ2 H2=>Q σ2 H2∧Agree tau σ σ2):=by
  funext σ2 H2
  have:Agree tau (σ.set i (some v)) σ2↔Agree tau σ σ2:=by
   have key:∀(k j:Nat),tau[k]? = some (some j)→(σ.set i (some v))[k]? = σ[k]?:=fun k j e=>by
    rw[xkn]
    rintro rfl
    rw[h] at e;cases e
   constructor
   ·intro z k j e;rw[z k j e,key k j e]
   ·intro z k j e;rw[z k j e,key k j e]
  exact propext (and_congr_right fun _=>this)
 rw[←e2]
 exact this
def xfx (wi:TI)(tau:List (Option Nat))(g:TG)(tc:TT)(te:TE):TE:=fun σ H Q=>wi σ H fun J H1 =>
 ∃W:Nat→Nat→List V→Hp→Prop,(∃m,W 0 m [] H1)∧∀i m ys H,W i m ys H →
  (J.stop i H∧∀p,H p=none→Q (.ref p) (upd H p (.lst ys))) ∨
  (J.go i H∧ys.length<sizeLine∧∀x H',J.yld i H x H'→g x (mH tau σ) H' fun σ2 H2=>tc σ2 H2 fun b H3=>if b=true then te σ2 H3 fun y H4=>∃m',m' < m∧W (i+1) m' (ys++[y]) H4 else ∃m',m' < m∧W (i+1) m' ys H3)
section
variable {X:Cx} {sc:Scope} {N:List Str} {tau:List (Option Nat)} {pins:List (Addr×Obj)} {σ:St} {H:Hp} {s:Shared}
theorem oF (k:ka X sc N tau)(I:Inv X pins σ H s)(hf:∀b∈fp,xas X pins H b)
  (J:Inv (y7 X sc N (s.heap.objs.size+1) s H fp) [(s.heap.objs.size,{ cls:=.type "list", data:=.seq its.toArray n })] σ' H' s') (rv:zQ ys its) (hz:ys.length≤sizeLine) :
  Inv X pins σ (upd H' s.heap.objs.size (.lst ys)) s'∧H' s.heap.objs.size=none∧(upd H' s.heap.objs.size (.lst ys)) (s.heap.objs.size+1)=none:=by
 obtain⟨pD,nD,_,_,_⟩:=J.pin (s.heap.objs.size,{ cls:=.type "list", data:=.seq its.toArray n }) (by simp[y7])
 have nC:H' (s.heap.objs.size+1)=none:=J.free
 have B:Un (frs X.stack) fp H H' s.heap s'.heap:=J.base
 have ltD:∀b o,s.heap.get? b=some o→b≠s.heap.objs.size:=fun b o e=>xlm (Heap.lt_size e)
 refine⟨I.call' (ch:=fp) J.os ⟨B.keep,B.slot,fun b o e n hx=>?_,B.there,fun b xs e=>?_,fun b o u e=>?_,fun b ps e=>?_⟩ (fun b u e=>?_) J.bare (fun b hb=>?_),nD,?_⟩
 ·rw[xY (ltD b o e)];exact B.free b o e n hx
 ·have q:=B.tups b xs e
  rw[xY (xK q nD)];exact q
 ·have q:=B.frzs b o u e
  rw[xY (xK q nD)];exact q
 ·obtain⟨more,q⟩:=B.tbls b ps e
  exact⟨more,by rw[xY (xK q nD)];exact q⟩
 ·by_cases hb:b=s.heap.objs.size
  ·subst hb
   rw[ya] at e
   cases e
   exact⟨hz,its,n,rv,pD⟩
  ·rw[xY hb] at e
   exact(J.hok b u e).stay (fun c v _ q=>q) (fun c q=>by rw[xY (xK q nD)];exact q) (fun c xs q=>by rw[xY (xK q nD)];exact q) fun c o u q=>by rw[xY (xK q nD)];exact q
 ·obtain⟨_,f1,_,f3,f4,f5⟩:=hf b hb
  exact⟨f3,f1,f4,f5⟩
 ·rw[xY (xll (xli _))];exact nC
theorem nj (I0:Inv X pins σ H s)(I:Inv X pins σ' H' s')(hC:H' (s.heap.objs.size+1)=none)(hs:Heap.SameBut (s.heap.objs.size+1) s'.heap h') :
  Inv X pins σ' H' { s' with heap:=h' }:=by
 have lt:∀b o,s.heap.get? b=some o→b≠s.heap.objs.size+1:=fun b o e=>xlm (xlh (Heap.lt_size e))
 refine I.turned (t':=s'.toks) (it:=s.heap.objs.size+1) (fun b o hb e=>(hs.2 b hb).trans e) hC ?_ (.inr (xld I0.sz (xlc _))) (fun x c e=>?_) (fun p hp=>?_)
 ·exact xll (xlh I0.lt)
 ·obtain⟨v,o,ho,_⟩:=I0.cell x c e
  exact lt c o ho
 ·exact lt _ _ (I0.pin p hp).1
theorem aQ (k:ka X sc N tau)(hc:X.calm=true)(I:Inv X pins σ H s)
  (T:Turn X.prog X.w X.K tg J fp it tn) (st0:tn 0 s.heap) (hf:∀b∈fp,xas X pins H b) (hga:GA tau g)
  (hg:∀C s H ex,PG (y7 X sc N C s H ex) tg g) (ht:∀C s H ex,PIf (y7 X sc N C s H ex) ifs tc) (he:∀C s H ex,PE (y7 X sc N C s H ex) elt te)
  {W:Nat→Nat→List V→Hp→Prop} {Z:List V→Hp→Prop} (w0:∃m,W 0 m [] H) (turn:∀i m ys H,W i m ys H →
   (J.stop i H∧Z ys H) ∨
   (J.go i H∧ys.length<sizeLine∧∀x H',J.yld i H x H'→g x (mH tau σ) H' fun σ2 H2=>tc σ2 H2 fun b H3=>if b=true then te σ2 H3 fun y H4=>∃m',m' < m∧W (i+1) m' (ys++[y]) H4 else ∃m',m' < m∧W (i+1) m' ys H3))
  {E:Value→Shared→Prop} {RR:Value→Addr→Result→Shared→Prop}
  (fin:∀ σ' H' s' ys its n,Inv (y7 X sc N (s.heap.objs.size+1) s H fp) [(s.heap.objs.size,{ cls:=.type "list", data:=.seq its.toArray n })] σ' H' s'→zQ ys its→ys.length≤sizeLine→Z ys H'→RR (.ref s.heap.objs.size) (s.heap.objs.size+1) (.ok .next) s') :
  wpAny (model X.prog X.w) X.A (newList []) (fun acc s₃=>wpAny (model X.prog X.w) X.A (newFunctionEnv sc X.env.globals (rq X.env sc.names []) [] X.env.qual none .none (some X.env)) (fun cenv s₄ =>
   codeAny (model X.prog X.w) X.A (.compStart (.ListComp elt [⟨tg,iter,ifs,0⟩] sc pos) 0 (.ref it) acc { cenv with scope:=relabel sc X.env }) (RR acc cenv.locals) s₄) E s₃) E s:=by
 have hob:∀b∈fp,∃o,s.heap.get? b=some o:=fun b hb=>let ⟨o,e,_⟩:=T.obj _ _ st0 b hb;⟨o,e⟩
 refine wpAny_newObj_type (wpAny_newFunctionEnv k.nocell (by intro y hy;simp at hy) (fun h₁ hns₁ hsb₁=>?_) k.kind)
 dsimp only at hns₁ hsb₁ ⊢
 generalize hH2:s.heap.push { cls:=.type "list", dict:=none,data:=.seq ([]:List Value).toArray }=H2 at hns₁ hsb₁ ⊢
 have hC:H2.objs.size=s.heap.objs.size+1:=by rw[←hH2,Heap.size_push]
 have old:∀b o,s.heap.get? b=some o→h₁.get? b=some o:=fun b o e=>hsb₁.extBut b o (by rw[hC];exact xlm (xlh (Heap.lt_size e))) (Heap.get?_push_of_some _ (hH2▸Heap.get?_push_of_some _ e))
 have hacc:h₁.get? s.heap.objs.size=some { cls:=.type "list", data:=.seq #[] 0 }:=hsb₁.extBut _ _ (by rw[hC];exact xlm (xli _)) (Heap.get?_push_of_some _ (hH2▸Heap.get?_push_size _ rfl))
 rw[hC] at hns₁ ⊢
 have I1:Inv (y7 X sc N (s.heap.objs.size+1) s H fp) [(s.heap.objs.size,{ cls:=.type "list", data:=.seq #[] 0 })] (mH tau σ) H { s with heap:=h₁,toks:=s.toks+([]:List (Str×Value)).length } :=
  xdv k I hf hob old hns₁ hacc
 have st1:tn 0 h₁:=T.keep _ _ _ st0 fun b _ o e=>old b o e
 have ltD:∀b∈fp,b≠s.heap.objs.size:=fun b hb=>by
  obtain⟨o,e⟩:=hob b hb
  exact xlm (Heap.lt_size e)
 have ltC:∀b∈fp,b≠s.heap.objs.size+1:=fun b hb=>by
  obtain⟨o,e⟩:=hob b hb
  exact xlm (xlh (Heap.lt_size e))
 have stat:∀ {H':Hp} {its:List Value} {n:Nat},(∀b∈fp,H' b=none)→∀b∈fp,xas (y7 X sc N (s.heap.objs.size+1) s H fp) [(s.heap.objs.size,{ cls:=.type "list", data:=.seq its.toArray n })] H' b:=fun {H' its n} hn b hb=>by
  have cx:=xau (N:=N) k I hf hob
  refine⟨hn b hb,ltC b hb,cx.exfs b hb,.inl hb,(cx.exf b hb).2,fun p hp=>?_⟩
  have e:p=(s.heap.objs.size,{ cls:=.type "list", data:=.seq its.toArray n }):=by simpa [y7] using hp
  subst e
  exact Ne.symm (ltD b hb)
 obtain⟨m0,w0⟩:=w0
 have loop:codeAny (model X.prog X.w) X.A (.compLoop (.ListComp elt [⟨tg,iter,ifs,0⟩] sc pos) 0 (.ref it) (.ref s.heap.objs.size) (compEnvC sc (rq X.env sc.names []) (s.heap.objs.size+1) X.env)) (RR (.ref s.heap.objs.size) (s.heap.objs.size+1)) { s with heap:=h₁,toks:=s.toks+([]:List (Str×Value)).length }:=by
  refine nt (fun m s'=>∃i ys H' its n,Inv (y7 X sc N (s.heap.objs.size+1) s H fp) [(s.heap.objs.size,{ cls:=.type "list", data:=.seq its.toArray n })] (mH tau σ) H' s'∧zQ ys its∧ys.length≤sizeLine∧tn i s'.heap∧(∀b∈fp,H' b=none)∧W i m ys H') ?_ m0
   ⟨0,[],H,[],0,I1,.nil,xln _,st1,fun b hb=>(hf b hb).1,w0⟩
  rintro m s3 ⟨i,ys,H3,its,n,I3,rv,hz,st3,fr3,w3⟩
  rcases turn i m ys H3 w3 with ⟨stop,z⟩ | ⟨go,hlt,step⟩
  ·refine wpAny_mono (T.done (y7 X sc N (s.heap.objs.size+1) s H fp) rfl rfl rfl hc i _ s3 _ H3 (fun _ _=>False) I3 (stat fr3) st3 stop) (fun r s4 ⟨hr,I4⟩=>?_) fun _ _ f=>f.elim
   subst hr
   exact fin _ _ _ _ _ _ I4 rv hz z
  ·refine wpAny_mono (T.item (y7 X sc N (s.heap.objs.size+1) s H fp) rfl rfl rfl hc i _ s3 _ H3 (fun _ _=>False) I3 (stat fr3) st3 go) (fun r s4 ⟨u,hr,h4⟩=>?_) fun _ _ f=>f.elim
   subst hr
   refine wpAny_mono h4 (fun _ s5 ⟨x,H5,I5,r5,y5,st5,fr5⟩=>?_) fun _ _ f=>f.elim
   have I5':=I5.pinned (stat fr5) (T.obj _ _ st5)
   refine wpAny_mono (hg _ _ _ _ _ s5 _ H5 x u _ I5' r5 (hga _ _ _ _ (step x H5 y5))) (fun _ s6 ⟨σ6,H6,I6,q6,ag⟩=>?_) fun _ _ f=>f.elim
   refine wpAny_mono (ht _ _ _ _ _ s6 σ6 H6 _ I6 q6) (fun b s7 ⟨H7,I7,q7⟩=>?_) fun _ _ f=>f.elim
   have back:∀ {H8:Hp} {s8:Shared},Inv (y7 X sc N (s.heap.objs.size+1) s H fp) ([(s.heap.objs.size,{ cls:=.type "list", data:=.seq its.toArray n })]++bR fp s5.heap) σ6 H8 s8 →
     Inv (y7 X sc N (s.heap.objs.size+1) s H fp) [(s.heap.objs.size,{ cls:=.type "list", data:=.seq its.toArray n })] (mH tau σ) H8 s8∧tn (i+1) s8.heap∧∀b∈fp,H8 b=none:=fun {H8 s8} I8=>by
    refine⟨I8.unpinned.weak (I1.len.trans I8.len.symm) fun j v e=>?_,T.keep _ _ _ st5 fun b hb o e=>(I8.pin (b,o) (xkI _ (xkI _ (kE hb e)))).1,fun b hb=>?_⟩
    ·obtain⟨j',t1,_⟩:=o6 e
     rw[ag j j' t1];exact e
    ·obtain⟨o,e,d⟩:=T.obj _ _ st5 b hb
     exact(I8.pin (b,o) (xkI _ (xkI _ (kE hb e)))).2.1
   cases b with
   | false =>
    obtain⟨m',hm,w7⟩:=q7
    obtain⟨I8,st8,fr8⟩:=back I7
    rw[if_neg xjn]
    exact⟨m',hm,i+1,ys,H7,its,n,I8,rv,hz,st8,fr8,w7⟩
   | true =>
    rw[if_pos rfl]
    refine wpAny_mono (he _ _ _ _ s7 σ6 H7 _ I7 q7) (fun y s8 ⟨yv,H8,I8,r8,m',hm,w8⟩=>?_) fun _ _ f=>f.elim
    obtain⟨I9,st9,fr9⟩:=back I8
    obtain⟨pD,nD,dL,dF,dC⟩:=I9.pin (s.heap.objs.size,{ cls:=.type "list", data:=.seq its.toArray n }) (by simp[y7])
    refine call_meets F.slot_list_append ⟨_,pD,rfl⟩ F.entry_list_append (F.args_list_append_2 _ _) (PySem.list_append s.heap.objs.size its.toArray n y (by rw[xk2,←rv.length];exact hz)) ⟨pD,?_⟩
    have q:=PySem.IsL.update pD (fun x=>x.push y)
    obtain⟨n',q'⟩:∃n',(s8.heap.update s.heap.objs.size (Obj.mapSeq fun x=>x.push y)).get? s.heap.objs.size=some { cls:=.type "list", data:=.seq (its++[y]).toArray n' }:=⟨_,by
     rw[show(its++[y]).toArray=its.toArray.push y by simp];exact q⟩
    have kp:∀b o,b≠s.heap.objs.size→s8.heap.get? b=some o→(s8.heap.update s.heap.objs.size (Obj.mapSeq fun x=>x.push y)).get? b=some o:=fun b o hb e=>(Heap.get?_update_other s8.heap _ (Ne.symm hb)).trans e
    have I10:Inv (y7 X sc N (s.heap.objs.size+1) s H fp) [] (mH tau σ) H8 s8:=I9.pins_of fun p hp=>absurd hp (by simp)
    have I11:Inv (y7 X sc N (s.heap.objs.size+1) s H fp) [] (mH tau σ) H8 { s8 with heap:=s8.heap.update s.heap.objs.size (Obj.mapSeq fun x=>x.push y),toks:=s8.toks } :=
     I10.turned (it:=s.heap.objs.size) (t':=s8.toks) kp nD dL (.inr (xlb _)) (fun x c e z=>by
      obtain⟨v,o,ho,hd⟩:=I10.cell x c e
      rw[z,pD] at ho
      cases ho
      cases hd) (fun p hp=>absurd hp (by simp[y7]))
    refine⟨m',hm,i+1,ys++[yv],H8,its++[y],n',I11.pins_of fun p hp=>?_,rv.append (.cons r8 .nil),?_,T.keep _ _ _ st9 fun b hb o e=>kp b o (ltD b hb) e,fr9,w8⟩
    ·have e:p=(s.heap.objs.size,{ cls:=.type "list", data:=.seq (its++[y]).toArray n' }):=by simpa using hp
     subst e
     exact⟨q',nD,dL,dF,fun v=>by simp⟩
    ·rw[xkq,xkz];exact hlt
 exact codeAny_compStart_list loop (T.self _ 0 _ _ _ st1 loop)
theorem zC (k:ka X sc N tau)(hc:X.calm=true)(hga:GA tau g)(hi:PI X tg iter wi)
  (hg:∀C s H ex,PG (y7 X sc N C s H ex) tg g) (ht:∀C s H ex,PIf (y7 X sc N C s H ex) ifs tc) (he:∀C s H ex,PE (y7 X sc N C s H ex) elt te)
  (hs:∀x,foldedSetIterable iter X.env x=pure x:=by intro _;rfl):PE X (.ListComp elt [⟨tg,iter,ifs,0⟩] sc pos) (xfx wi tau g tc te):=by
 intro pins s σ H Q I h
 rw[eval_ListComp]
 refine wpAny_comprehension_free (use:=none) rfl hs (xaJ (k.cells I.ok)) k.kind k.loc ?_
 refine thn (@hi pins s σ H _ I h) fun v s1 h1=>thn h1 fun itv s2 h2=>?_
 obtain⟨it,fp,tn,J,H2,e,I2,T,st2,f2,W,w0,turn⟩:=h2
 subst e
 refine aQ (RR:=fun acc C=>compPost (model X.prog X.w) X.A X.xe none (EP X pins σ Q) acc C) (W:=W) (Z:=fun ys H'=>∀p,H' p=none→Q (.ref p) (upd H' p (.lst ys))) k hc I2 T st2 f2 hga hg ht he w0 turn ?_
 intro σ' H' s' ys its n J' rv hz z
 obtain⟨I',hD,hC⟩:=oF k I2 f2 J' rv hz
 obtain⟨m,hn,_⟩:=J'.loc
 exact⟨m,hn,fun h' hs'=>⟨.ref _,_,nj I2 I' hC hs',rfl,z _ hD⟩⟩
theorem uf (hN:X.N.Nodup)(hi':X.N[i]? = some x)(hx:Loc X.env.scope x)(k:ka X sc N tau)(hc:X.calm=true)(hga:GA tau g)(hi:PI X tg iter wi)
  (hg:∀C s H ex,PG (y7 X sc N C s H ex) tg g) (ht:∀C s H ex,PIf (y7 X sc N C s H ex) ifs tc) (he:∀C s H ex,PE (y7 X sc N C s H ex) elt te)
  (hsw:swapsWith (.ListComp elt [⟨tg,iter,ifs,0⟩] sc pos) (some (.Name x py)) spos.line X.env=pure true:=by rfl)
  (hs:∀x,foldedSetIterable iter X.env x=pure x:=by intro _;rfl) (hf:X.fn x=true∨X.env.scope.names.lookup x=some .local:=by first | exact .inl rfl | exact .inr rfl | assumption) :
  PS X (.Assign [.Name x py] (.ListComp elt [⟨tg,iter,ifs,0⟩] sc pos) spos) (xed (xfx wi tau g tc te) (dz i)):=by
 intro pins s σ H D I h
 rw[exec_Assign_Name_used _ _ _ _ hsw]
 refine wpAny_bind (wpAny_standAt (wpAny_bind ?_))
 show wpAny _ X.A (do let _ ←comprehension (.ListComp elt [⟨tg,iter,ifs,0⟩] sc pos) sc X.env _ (newList []) false (eval iter X.env) (some (assign (.Name x py) X.env))) _ _ s
 refine wpAny_bind (wpAny_mono (wpAny_comprehension_free (use:=some (assign (.Name x py) X.env)) (Q:=fun _ s'=>SP X pins D .next s') rfl hs (xaJ (k.cells I.ok)) k.kind k.loc ?_) (fun _ s' q=>wpAny_pure (wpAny_pure q)) fun _ _ e=>e)
 refine thn (@hi pins s σ H _ I h) fun v s1 h1=>thn h1 fun itv s2 h2=>?_
 obtain⟨it,fp,tn,J,H2,e,I2,T,st2,f2,W,w0,turn⟩:=h2
 subst e
 refine aQ (RR:=fun acc C=>compPost (model X.prog X.w) X.A X.xe (some (assign (.Name x py) X.env)) (fun _ s'=>SP X pins D .next s') acc C) (W:=W) (Z:=fun ys H'=>∀p,H' p=none→D.nx (σ.set i (some (.ref p))) (upd H' p (.lst ys))) k hc I2 T st2 f2 hga hg ht he w0 turn ?_
 intro σ' H' s' ys its n J' rv hz z
 obtain⟨I',hD,hC⟩:=oF k I2 f2 J' rv hz
 obtain⟨m,hn,_⟩:=J'.loc
 have hn:s'.heap.Ns (s2.heap.objs.size+1) m:=hn
 refine wpAny_assign_Name (bC (v:=.ref s2.heap.objs.size) I' hN hi' hx rfl (fun s'' I'' ⟨a,sb,ha⟩=>?_) hf)
 refine⟨m,hn.sameBut sb ?_,fun h' hs'=>⟨_,_,nj I2 I'' hC hs',z _ hD⟩⟩
 rcases ha with ha | ha
 ·rw[ha];exact xll (xlh I2.lt)
 ·obtain⟨v,o,ho,_⟩:=I2.cell x a ha
  exact xll (xlh (Heap.lt_size ho))
end
end L2
namespace L2
open PySem PySem.Spec PyProof.Rows
structure Own (P:Program)(w:World)(K:PySem.W.Frag)(mg:Str→Option Value)(base:Heap)(k:Nat)(x:Str)(ps:List Str)(sp:Sp):Prop where
 ex:∃(f:Addr) (fd:FuncData),aM P w K mg base CX0 k f fd ps sp∧Binds K fd ps []∧PySem.W.keepIn K (.ref f)=true∧mg x=some (.ref f)
theorem Own.mono {P:Program}{w:World}{K:PySem.W.Frag}{mg:Str→Option Value}{base:Heap}{j k:Nat}{x:Str}{ps:List Str}{sp:Sp}(h:Own P w K mg base j x ps sp)(hjk:j≤k):Own P w K mg base k x ps sp:=by
 obtain⟨f,fd,F,b,kp,m⟩:=h.ex
 exact⟨f,fd,F.mono hjk,b,kp,m⟩
theorem Own.imp {P:Program}{w:World}{K:PySem.W.Frag}{mg:Str→Option Value}{base:Heap}{k:Nat}{x:Str}{ps:List Str}{sp sp':Sp}(h:Own P w K mg base k x ps sp)(q:∀vs H Q E,sp' vs H Q E→sp vs H Q E):Own P w K mg base k x ps sp':=by
 obtain⟨f,fd,F,b,kp,m⟩:=h.ex
 exact⟨f,fd,F.imp q,b,kp,m⟩
def xg_ (sp:Sp)(t:TA):TE:=fun σ H Q=>t σ H fun vs H1=>sp vs H1 Q E0
theorem xm (h:Own X.prog X.w X.K X.mg X.base j x ps sp)(hr:jg k X.A)(ha:PA X (e::es) t)(hjk:j≤k:=by decide)(hg:Gl X x:=by rfl)
  (hdb:(x == ("__debug__" : Str))=false:=by decide) (he:starEach (e::es) X.env=(false,eval e X.env)::starEach es X.env:=by rfl) (hpl:(backTo pos (starEach es X.env)).any (·.1)=false:=by rfl) :
  PE X (.Call (.Name x p) (e::es) [] pos) (xg_ sp t):=by
 obtain⟨f,fd,F,b,kp,m⟩:=(h.mono hjk).ex
 intro pins s σ H Q I q
 refine xa2 (E:=E0) F hr hg m kp b .nil xhX ha hdb he hpl s σ H Q I ?_
 have e:(fun(vs:List V) (H1:Hp)=>sp (vs++[]) H1 Q E0)=fun vs H1=>sp vs H1 Q E0:=by
  funext vs H1;rw[xj5]
 show t σ H fun vs H1=>sp (vs++[]) H1 Q E0
 rw[e];exact q
theorem aJ {P:Program}{w:World}{K:PySem.W.Frag}{mg:Str→Option Value}{base:Heap}{k:Nat}{x qual:Str}{st:Stmt}{f:Addr}{fd:FuncData}{N ps:List Str}{sp:Sp}(F:Fun K x qual st f fd)(S:xA N ps (xf st))(mgx:mg x=some (.ref f))(b:Binds K fd ps [])
  (len:∀vs H Q E,sp vs H Q E→vs.length=ps.length)
  (body:∀(cdv:Value) (A:Around) (outer:List Env) (s:Shared) (H:Hp) (vs:List V) (Q:VK) (E:XK),jg k (A.deeper (envOfC qual (xf st) s.heap.objs.size f cdv))→sp vs H Q E →
   ∃t,PSs (dm CX0 P w K mg base N qual (xf st) f cdv A outer s H E).nox (zj st) t∧t { nx:=fun _ H'=>Q .non H',rt:=Q } (start N vs) H):Own P w K mg base (k+1) x ps sp :=
 ⟨f,fd,F.ok S len body,b,F.kp,mgx⟩
section
variable {X:Cx}
def xhj (i j:Int):Prop:=0<j∧j.natAbs.log2<9000
theorem lz:OpR X (binaryOp .FloorDiv) (rI xhj fun i j=>.int (i / j)):=opI fun i j _ _ _ _ _ hc q=>by
 refine floordiv_int (by have:=hc.1;omega) ?_ (.inl (PyProof.noPylong_of_log2 hc.2))
 rw[xjv i (by have:=hc.1;omega)]
 exact q
theorem sj (h0:0<j)(h:j<2 ^ 128):xhj i j:=by
 refine⟨h0,?_⟩
 have:j.natAbs<2 ^ 128:=by omega
 have:=Nat.log2_lt (n:=j.natAbs) (k:=128) (by omega)
 have h':j.natAbs.log2<128:=this.mpr (by omega)
 omega
def xeM (n c:String):Bool:=n == c || (n == "bool" && c == "int")
def pL:List String:=["NoneType", "bool", "int", "str", "list", "tuple", "dict"]
def gc:List String:=["bool", "int", "str", "list", "tuple", "dict"]
theorem xbf {K:PySem.W.Frag}{n c:String}(hn:n∈pL)(hc:c∈gc):PySem.W.kitOne K (.type n) (.type c)=some (xeM n c):=by
 simp only[pL,gc,xkJ,xkY,xly] at hn hc
 rcases hn with rfl | rfl | rfl | rfl | rfl | rfl | rfl<;>rcases hc with rfl | rfl | rfl | rfl | rfl | rfl<;>kernel_rfl
def tyN (H:Hp):V→Option String
 | .non=>some "NoneType"
 | .bl _=>some "bool"
 | .int _=>some "int"
 | .str _=>some "str"
 | .ref a=>match H a with
  | some (.lst _)=>some "list"
  | some (.frz _ (.lst _))=>some "list"
  | some (.tup _)=>some "tuple"
  | some (.dK _)=>some "dict"
  | _=>none
 | _=>none
theorem xgZ {K:PySem.W.Frag}{H:Hp}{x:V}{n:String}(h:tyN H x=some n):xag K H x (.type n)∧n∈pL:=by
 cases x with
 | non=>cases h;exact⟨.non,by decide⟩
 | bl b=>cases h;exact⟨.bl b,by decide⟩
 | int i=>cases h;exact⟨.int i,by decide⟩
 | str y=>cases h;exact⟨.str y,by decide⟩
 | ref a =>
  have h:(match H a with
   | some (.lst _)=>some "list"
   | some (.frz _ (.lst _))=>some "list"
   | some (.tup _)=>some "tuple"
   | some (.dK _)=>some "dict"
   | _=>none)=some n:=h
  split at h
  ·rename_i xs e;cases h;exact⟨.lst e,by decide⟩
  ·rename_i o xs e;cases h;exact⟨.frz e,by decide⟩
  ·rename_i xs e;cases h;exact⟨.tup e,by decide⟩
  ·rename_i xs e;cases h;exact⟨.dK e,by decide⟩
  ·cases h
 | _=>cases h
def xiq (xs:List V)(H:Hp)(Q:VK):Prop:=∃x c n,xs=[x,.ty c]∧tyN H x=some n∧c∈gc∧Q (.bl (xeM n c)) H
theorem um:jA X (.builtin "isinstance") xiq:=by
 intro pins s σ H xs us Q I r h
 obtain⟨x,c,n,rfl,ty,hc,q⟩:=h
 obtain⟨u,w',rfl,rx,ry⟩:=vals2 r
 cases ry
 obtain⟨t1,t2⟩:=xgZ (K:=X.K) ty
 exact xaD I rx t1 (xbf t2 hc) fun tk=>⟨.bl _,H,I.tok tk,rfl,q⟩
theorem aH:∀ {bs:List Bool} {us:List Value},zQ (bs.map V.bl) us→us=bs.map Value.bool
 | [],_,.nil=>rfl
 | c::cs,_,.cons r t=>by
  cases r
  rw[aH t];rfl
def xfP (K:PySem.W.Frag)(xs:List V)(H:Hp)(Q:VK):Prop:=∃(p:Addr) (bs:List Bool),xs=[.ref p]∧SqL K H p (bs.map V.bl)∧Q (.bl (bs.all id)) H
theorem rX {bs:List Bool}:(List.range bs.length).all (fun i=>(bs[i]?).getD false)=bs.all id:=by
 rw[Bool.eq_iff_iff]
 simp only[xj1,xkT,id]
 constructor
 ·intro h b hb
  obtain⟨i,hi,rfl⟩:=xkO.mp hb
  have:=h i hi
  rw[xki hi] at this
  exact this
 ·intro h i hi
  rw[xki hi]
  exact h _ (xkp hi)
theorem xaM (hc:X.calm=true):jA X (.builtin "all") (xfP X.K):=by
 intro pins s σ H xs us Q I r h
 obtain⟨p,bs,rfl,hl,q⟩:=h
 obtain⟨u,rfl,ru⟩:=vals1 r
 cases ru
 obtain⟨its,rv,pl,hz⟩:=I.list hl
 have e:=aH rv
 subst e
 have hl':=pl.isList
 refine call_all_walk (wpAny_pyIter_list hl' ?_)
 have hlt:p<s.heap.objs.size:=by obtain⟨o,ho,_⟩:=id hl';exact Heap.lt_size ho
 have hne:p≠s.heap.objs.size:=xlm hlt
 refine⟨_,_,_,_,_,_,fun i=>(bs[i]?).getD false,rfl,Walks.list (A:=X.A.in1) (I.ok.hd hc) _ p hne (bs.map Value.bool).toArray,⟨⟨_,Heap.get?_push_size _ rfl,rfl,rfl⟩,hl'.at fun o e=>Heap.get?_push_of_some _ e⟩,?_,fun h' tk hk=>?_⟩
 ·intro i v s' Q' E' hP hq
  have hP':(bs.map Value.bool)[i]? = some v:=by simpa using hP
  rw[xkl] at hP'
  cases eb:bs[i]? with
  | none=>rw[eb] at hP';cases hP'
  | some b =>
   rw[eb] at hP'
   cases hP'
   simp only[eb,xlo] at hq
   exact wpAny_truthy_bool hq
 ·have hk':=old_kept (l:=p) hk
  refine⟨.bl (bs.all id),H,I.kept hk',?_,q⟩
  show Value.bool _=Value.bool _
  have:(bs.map Value.bool).toArray.size=bs.length:=by simp
  rw[this,rX]
end
end L2
namespace L2
open PySem PySem.Spec PyProof.Rows
structure Blt (mg:Str→Option Value)(ns:List Str):Prop where
 all:∀x∈ns,mg x=none
theorem Blt.get (B:Blt mg ns)(x:Str)(h:x∈ns:=by decide +kernel):mg x=none:=B.all x h
theorem zO:bootBuiltins "len" = some (.builtin "len"):=by decide +kernel
theorem xhh:bootBuiltins "max" = some (.builtin "max"):=by decide +kernel
theorem xgj:bootBuiltins "min" = some (.builtin "min"):=by decide +kernel
theorem jZ:bootBuiltins "abs" = some (.builtin "abs"):=by decide +kernel
theorem ox:bootBuiltins "all" = some (.builtin "all"):=by decide +kernel
theorem xR:bootBuiltins "isinstance" = some (.builtin "isinstance"):=by decide +kernel
theorem wo:bootBuiltins "tuple" = some (.type "tuple"):=by decide +kernel
theorem xdU:bootBuiltins "int" = some (.type "int"):=by decide +kernel
theorem xa0:bootBuiltins "bool" = some (.type "bool"):=by decide +kernel
theorem xg7:bootBuiltins "zip" = some (.type "zip"):=by decide +kernel
def xih (n:Int)(b:Bool):Prop:=0≤n∧(b=false→n<2147483647)
def b_ (p:Addr)(H:Hp):Prop:=∃(n:Int) (b:Bool),H p=some (.lst [.int n,.bl b])∧xih n b
structure SB (p:Addr)(H H':Hp):Prop where
 keep:∀(b:Addr) (o:HO),b≠p→H b=some o→H' b=some o
 st:b_ p H'
def xef (K:PySem.W.Frag):Sp:=fun vs H Q _=>∃(a:Addr) (ns:List Int) (k:Int),vs=[.ref a,.int k]∧SqL K H a (ns.map V.int)∧ns.length≤63∧0≤k∧∀n:Int,Q (.int n) H
def pW (K:PySem.W.Frag):Sp:=fun vs H Q _=>∃(a:Addr) (ns:List Int) (k:Int),vs=[.ref a,.int k]∧SqL K H a (ns.map V.int)∧ns.length≤63∧0≤k ∧
 ∀(p:Addr) (n:Int) (b:Bool),H p=none→xih n b→Q (.ref p) (upd H p (.lst [.int n,.bl b]))
def xep:Sp:=fun vs H Q _=>∃(p:Addr) (many:Int),vs=[.ref p,.int many]∧b_ p H∧0<many∧many<2 ^ 128∧∀(r:Int) (H':Hp),0≤r→r<many→SB p H H'→Q (.int r) H'
theorem xdg {ns:List Int}{k:Int}(h0:0≤k)(h:k<(ns.length:Int)):∃v:Int,atI (ns.map V.int) k=some (.int v):=by
 have hk:k.toNat<ns.length:=by omega
 have ek:k=((k.toNat:Nat):Int):=by omega
 have q:atI (ns.map V.int) ((k.toNat:Nat):Int)=some (.int ns[k.toNat]):=xfr (by rw[xkl,xki hk]<;>rfl)
 rw[←ek] at q
 exact⟨_,q⟩
end L2
namespace L2
open PySem PySem.Spec PyProof.Rows
section
variable {X:Cx}
theorem vc (K:PySem.W.Frag)(e:X.K=K:=by rfl):IxR X (xhI K):=e▸xaz
theorem fR (K:PySem.W.Frag)(e:X.K=K:=by rfl):SlR X (xf3 K):=e▸xbN
theorem kN (K:PySem.W.Frag)(hc:X.calm=true)(e:X.K=K:=by rfl):jA X (.builtin "all") (xfP K):=e▸xaM hc
def xff (K:PySem.W.Frag)(xs:List V)(H:Hp)(Q:VK):Prop:=∃p ys,xs=[.ref p]∧(SqL K H p ys∨SqT K H p ys)∧Q (.int ys.length) H
theorem yl (K:PySem.W.Frag)(e:X.K=K:=by rfl):jA X (.builtin "len") (xff K):=e▸nr
def xeI (K:PySem.W.Frag)(xs:List V)(H:Hp)(Q:VK):Prop:=∃p ys,xs=[.ref p]∧((SqL K H p ys∧∀l,H l=none→Q (.ref l) (upd H l (.tup ys)))∨(SqT K H p ys∧Q (.ref p) H))
theorem uZ (K:PySem.W.Frag)(e:X.K=K:=by rfl):jA X (.type "tuple") (xeI K):=e▸rP
theorem ym (K:PySem.W.Frag)(hc:X.calm=true)(h:PGs X es t)
  (hn:(assignEach es X.env).length=n:=by rfl) (hst:(assignEach es X.env).findIdx? (·.1)=none:=by rfl) (e:X.K=K:=by rfl):PG X (.Tuple es k pos) (xhm K n t):=by
 subst e
 exact xgT hc h hn hst
end
theorem rj:∀ {l:List α} {k:List β} {i:Nat} {b:β},Paired F l k→k[i]? = some b→∃a,l[i]? = some a∧F a b
 | _,_,_,_,.nil,h=>by simp at h
 | _,_,0,_,.cons r _,h=>by simp at h;subst h;exact⟨_,rfl,r⟩
 | _,_,i+1,b,.cons _ t,h=>by
  obtain⟨a,e,f⟩:=rj (i:=i) t (by simpa using h)
  exact⟨a,by simpa using e,f⟩
theorem xai (h:Paired F l k):l.length=k.length:=Paired.length h
theorem cZ (h:Paired F l k)(r:F a b):Paired F (l++[a]) (k++[b]):=Paired.snoc h r
theorem aC:∀ {l l':List α} {k k':List β},Paired F l k→Paired F l' k'→Paired F (l++l') (k++k')
 | _,_,_,_,.nil,s=>s
 | _,_,_,_,.cons r t,s=>.cons r (aC t s)
theorem jy:∀(n:Nat) {l:List α} {k:List β},Paired F l k→Paired F (l.drop n) (k.drop n)
 | 0,_,_,h=>h
 | _+1,_,_,.nil=>.nil
 | n+1,_,_,.cons _ t=>jy n t
theorem jD:∀(n:Nat) {l:List α} {k:List β},Paired F l k→Paired F (l.take n) (k.take n)
 | 0,_,_,_=>.nil
 | _+1,_,_,.nil=>.nil
 | n+1,_,_,.cons r t=>.cons r (jD n t)
theorem take_succ {α:Type}{l:List α}{i:Nat}{a:α}(h:l[i]? = some a):l.take (i+1)=l.take i++[a]:=by
 rw[xk8,h];rfl
theorem sz (h:n≤1000):n≤sizeLine:=xla (xaP h)
end L2
namespace L2
open PySem PySem.Spec PyProof.Rows
open Builtin.SmallTypes (nextOf)
structure Drw (it a:Addr)(vs:List Value)(tn:Nat→Heap→Prop)(src:Heap→Prop):Prop where
 mv:∀i h h',tn i h→(∀o,h.get? it=some o→h'.get? it=some o)→tn i h'
 smv:∀h h',src h→(∀o,h.get? a=some o→h'.get? a=some o)→src h'
 ob:∀i h,tn i h→∃o,h.get? it=some o∧∀v,o.data≠.cell v
 item:∀(prog:Program) (w:World) (A:Around) (E:Value→Shared→Prop) (i:Nat) (x:Value) (s:Shared) (Q:Value→Shared→Prop),tn i s.heap→src s.heap→vs[i]? = some x →
  (∀h',tn (i+1) h'→Heap.SameBut it s.heap h'→Q x { s with heap:=h' })→wpAny (model prog w) A (nextOf (.ref it)) Q E s
 fin:∀(prog:Program) (w:World) (A:Around) (E:Value→Shared→Prop) (i:Nat) (s:Shared) (Q:Value→Shared→Prop),A.handled=none→tn i s.heap→src s.heap→vs[i]? = none →
  (∀h' e,Heap.ExtBut it s.heap h'→(∃o,h'.get? e=some o∧o.cls=.type "StopIteration")→E (.ref e) { s with heap:=h' })→wpAny (model prog w) A (nextOf (.ref it)) Q E s
theorem xcN (it a:Addr)(vs:List Value):Drw it a vs (fun i h=>h.IsListIter it a i) (fun h=>h.IsList a vs.toArray) where
 mv:=fun i h h' t k=>t.at k
 smv:=fun h h' t k=>t.at k
 ob:=fun i h t=>let ⟨o,e,_,d⟩:=t;⟨o,e,fun v z=>by rw[d] at z;cases z⟩
 item:=fun prog w A E i x s Q t l e h=>wpAny_nextOf_list_item t l (by simpa using e) h
 fin:=fun prog w A E i s Q hh t l e h=>wpAny_nextOf_list_end hh t l (by simpa using e) h
section
variable {prog:Program} {w:World} {A:Around} {E:Value→Shared→Prop} {s:Shared}
theorem bc {it a:Addr}{i:Nat}{vs:List Value}{x:Value}{Q:Value→Shared→Prop}(T:s.heap.IsTupleIter it a i)(S:s.heap.IsTuple a vs.toArray)(e:vs[i]? = some x)
  (h:∀h',h'.IsTupleIter it a (i+1)→Heap.SameBut it s.heap h'→Q x { s with heap:=h' }):wpAny (model prog w) A (nextOf (.ref it)) Q E s:=by
 obtain⟨ob,hob,hcl,hdt⟩:=id T
 obtain⟨os,hos,_,nn,hsq⟩:=id S
 have e':vs.toArray[i]? = some x:=by simpa using e
 unfold nextOf
 refine wpAny_bind (wpAny_callSpecial?_slot (name:=Str.ofString "__next__") T.typeIs F.slot_tuple_iterator_next (wpAny_call_entry F.slot_tuple_iterator_next T.typeIs F.entry_tuple_iterator_next (wpAny_bind (m:=field (.ref it) 0) (wpAny_field hob hdt (x:=.ref a) rfl ?_)) (F.args_tuple_iterator_next_1 _)))
 refine wpAny_bind (m:=field (.ref it) 1) (wpAny_field hob hdt (x:=.int i 0) rfl (wpAny_bind (m:=seqItems? (.ref a)) (wpAny_seqItems hos hsq ?_)))
 simp only[xjX,e']
 refine wpAny_bind (wpAny_setField hob hdt (by simp) (wpAny_pure ⟨x,rfl,wpAny_pure (h _ ⟨_,Heap.get?_update_self _ hob (Obj.isFreed_of_fields (Obj.data_mapFields hdt _)),(Obj.cls_mapFields ..).trans hcl,?_⟩ (Heap.SameBut.update ..))⟩))
 rw[Obj.data_mapFields hdt]
 simp[rawInt]
theorem ph {it a:Addr}{i:Nat}{vs:List Value}{Q:Value→Shared→Prop}(hn:A.handled=none)(T:s.heap.IsTupleIter it a i)(S:s.heap.IsTuple a vs.toArray)(e:vs[i]? = none)
  (h:∀h' x,Heap.ExtBut it s.heap h'→(∃o,h'.get? x=some o∧o.cls=.type "StopIteration")→E (.ref x) { s with heap:=h' }):wpAny (model prog w) A (nextOf (.ref it)) Q E s:=by
 obtain⟨ob,hob,hcl,hdt⟩:=id T
 obtain⟨os,hos,_,nn,hsq⟩:=id S
 have e':vs.toArray[i]? = none:=by simpa using e
 unfold nextOf
 refine wpAny_bind (wpAny_callSpecial?_slot (name:=Str.ofString "__next__") T.typeIs F.slot_tuple_iterator_next (wpAny_call_entry F.slot_tuple_iterator_next T.typeIs F.entry_tuple_iterator_next (wpAny_bind (m:=field (.ref it) 0) (wpAny_field hob hdt (x:=.ref a) rfl ?_)) (F.args_tuple_iterator_next_1 _)))
 refine wpAny_bind (m:=field (.ref it) 1) (wpAny_field hob hdt (x:=.int i 0) rfl (wpAny_bind (m:=seqItems? (.ref a)) (wpAny_seqItems hos hsq ?_)))
 simp only[xjX,e']
 refine wpAny_bind (wpAny_rule (wpAny_bind (wpAny_setField hob hdt (by simp) (wpAny_bind ?_))))
 simp only[newExc,newTuple]
 refine wpAny_bind (wpAny_newObj_type (wpAny_bind (m:=firstArgMember _ _) (wpAny_of_eq (a:=Value.none) (by first | rfl | (simp only[firstArgMember];rfl)) (wpAny_newObj_type ?_ (by size_fits)))) (by size_fits))
 simp only[raiseNew]
 refine wpAny_bind (wpAny_handled ?_)
 first | rw[show A.in1.handled=none from hn] | rw[hn]
 exact wpAny_bind (wpAny_pure (wpAny_throw (h _ _ (((Heap.SameBut.update ..).extBut.push _).push _) ⟨_,Heap.get?_push_size _ rfl,rfl⟩)))
end
theorem xeT (it a:Addr)(vs:List Value):Drw it a vs (fun i h=>h.IsTupleIter it a i) (fun h=>h.IsTuple a vs.toArray) where
 mv:=fun i h h' t k=>t.at k
 smv:=fun h h' t k=>let ⟨o,e,r⟩:=t;⟨o,k o e,r⟩
 ob:=fun i h t=>let ⟨o,e,_,d⟩:=t;⟨o,e,fun v z=>by rw[d] at z;cases z⟩
 item:=fun prog w A E i x s Q t l e h=>bc t l e h
 fin:=fun prog w A E i s Q hh t l e h=>ph hh t l e h
structure ZA (z ti to i1 i2 a1 a2:Addr):Prop where
 a:ti≠z∧to≠z∧i1≠z∧i2≠z∧ti≠to∧ti≠i1∧ti≠i2∧to≠i1∧to≠i2∧i1≠i2
 b:a1≠z∧a1≠to∧a1≠i1∧a1≠i2∧a2≠z∧a2≠to∧a2≠i1∧a2≠i2
section
variable {prog:Program} {w:World} {A:Around} {E:Value→Shared→Prop} {s:Shared} {z ti to i1 i2 a1 a2:Addr} {vs us:List Value} {t1 t2:Nat→Heap→Prop} {s1 s2:Heap→Prop}
theorem xbo {k:Nat}{x y p q:Value}{Q:Value→Shared→Prop}(D:ZA z ti to i1 i2 a1 a2)(W1:Drw i1 a1 vs t1 s1)(W2:Drw i2 a2 us t2 s2)(Z:IsZip s.heap z ti to .none)(TI:IsPair s.heap ti (.ref i1) (.ref i2))(TO:IsPair s.heap to p q)
  (b1:t1 k s.heap) (b2:t2 k s.heap) (c1:s1 s.heap) (c2:s2 s.heap) (ex:vs[k]? = some x) (ey:us[k]? = some y)
  (h:∀h',IsZip h' z ti to (rawInt s.heap.objs.size)→IsPair h' to x y→t1 (k+1) h'→t2 (k+1) h'→IsPair h' s.heap.objs.size x y →
   (∀c o,c≠z→c≠to→c≠i1→c≠i2→s.heap.get? c=some o→h'.get? c=some o)→Q (.ref s.heap.objs.size) { s with heap:=h' }) :
  wpAny (model prog w) A (Builtin.«zip.__next__» ⟨[.ref z],[]⟩) (fun fin s'=>∃v,fin=.done (.ret v)∧Q v s') E s:=by
 obtain⟨⟨d1,d2,d3,d4,d5,d6,d7,d8,d9,d10⟩,e1,e2,e3,e4,e5,e6,e7,e8⟩:=D
 refine wpAny_bind (m:=field (.ref z) 2) (wpAny_field Z rfl (x:=.bool false) rfl (wpAny_bind (m:=field (.ref z) 3) (wpAny_field Z rfl (x:=.ref ti) rfl (wpAny_bind (wpAny_seqItems TI rfl ?_)))))
 refine wpAny_bind (m:=Builtin.SmallTypes.ownedTupleIsFree (.ref z)) ?_
 unfold Builtin.SmallTypes.ownedTupleIsFree
 refine wpAny_bind (wpAny_field Z rfl (x:=.none) rfl (wpAny_pure ?_))
 simp only[if_true]
 refine wpAny_bind (wpAny_rule (wpAny_bind (wpAny_field Z rfl (x:=.ref to) rfl (wpAny_bind (wpAny_setField_rec Z (by simp) fun g1 Z1 S1=>wpAny_bind ?_)))))
 replace Z1:IsZip g1 z ti to .ellipsis:=Z1
 simp only[List.zipIdx_cons,List.zipIdx_nil,List.forIn_cons,List.forIn_nil]
 refine wpAny_bind (wpAny_bind (wpAny_onRaise (wpAny_bind (m:=nextOf (.ref i1)) ?_)))
 refine W1.item _ _ _ _ k x _ _ (W1.mv _ _ _ b1 fun o=>S1.extBut _ o d3) (W1.smv _ _ c1 fun o=>S1.extBut _ o e1) ex fun g2 b12 S2=>wpAny_pure ?_
 have TO2:IsPair g2 to p q:=S2.extBut _ _ d8 (S1.extBut _ _ d2 TO)
 refine wpAny_bind (wpAny_seqItems TO2 rfl (wpAny_bind (wpAny_updateSeq_pair TO2 fun g3 TO3 S3=>wpAny_bind (wpAny_letGo (wpAny_pure ?_)))))
 replace TO3:IsPair g3 to x q:=TO3
 refine wpAny_bind (wpAny_bind (wpAny_onRaise (wpAny_bind (m:=nextOf (.ref i2)) ?_)))
 have k3:∀c o,c≠z→c≠to→c≠i1→s.heap.get? c=some o→g3.get? c=some o:=fun c o n1 n2 n3 g=>S3.extBut _ _ n2 (S2.extBut _ _ n3 (S1.extBut _ _ n1 g))
 refine W2.item _ _ _ _ k y _ _ (W2.mv _ _ _ b2 fun o=>k3 _ o d4 (Ne.symm d9) (Ne.symm d10)) (W2.smv _ _ c2 fun o=>k3 _ o e5 e6 e7) ey fun g4 b24 S4=>wpAny_pure ?_
 have TO4:IsPair g4 to x q:=S4.extBut _ _ d9 TO3
 refine wpAny_bind (wpAny_seqItems TO4 rfl (wpAny_bind (wpAny_updateSeq_pair TO4 fun g5 TO5 S5=>wpAny_bind (wpAny_letGo (wpAny_pure (wpAny_pure ?_))))))
 replace TO5:IsPair g5 to x y:=TO5
 refine wpAny_bind (wpAny_seqItems TO5 rfl (wpAny_bind (wpAny_newTuple (wpAny_bind (m:=Builtin.SmallTypes.ownedTupleHandOut (.ref z) (.ref g5.objs.size)) ?_))))
 have sz5:g5.objs.size=s.heap.objs.size:=by rw[S5.1,S4.1,S3.1,S2.1,S1.1]
 have k5:∀c o,c≠to→c≠i2→g3.get? c=some o→g5.get? c=some o:=fun c o n1 n2 g=>S5.extBut _ _ n1 (S4.extBut _ _ n2 g)
 have Z5:IsZip g5 z ti to .ellipsis:=k5 _ _ (Ne.symm d2) (Ne.symm d4) (S3.extBut _ _ (Ne.symm d2) (S2.extBut _ _ (Ne.symm d3) Z1))
 have b15:t1 (k+1) g5:=W1.mv _ _ _ b12 fun o g=>k5 _ o (Ne.symm d8) d10 (S3.extBut _ o (Ne.symm d8) g)
 have b25:t2 (k+1) g5:=W2.mv _ _ _ b24 fun o g=>S5.extBut _ o (Ne.symm d9) g
 have zlt:z<g5.objs.size:=Heap.lt_size Z5
 unfold Builtin.SmallTypes.ownedTupleHandOut
 refine wpAny_bind (wpAny_setField_rec (show IsZip (g5.push { cls:=.type "tuple", data:=.seq #[x,y] }) z ti to .ellipsis from Heap.get?_push_of_some _ Z5) (by simp) fun g7 Z7 S7=>wpAny_setField_rec (show IsZip g7 z ti to (rawInt g5.objs.size) from Z7) (by simp) fun g8 Z8 S8=>?_)
 replace Z8:IsZip g8 z ti to (rawInt g5.objs.size):=Z8
 have up8:∀c o,c≠z→g5.get? c=some o→g8.get? c=some o:=fun c o n g=>S8.extBut _ _ n (S7.extBut _ _ n (Heap.get?_push_of_some _ g))
 have T8:IsPair g8 g5.objs.size x y:=S8.extBut _ _ (xll zlt) (S7.extBut _ _ (xll zlt) (Heap.get?_push_size _ rfl))
 refine wpAny_pure ⟨_,rfl,?_⟩
 show Q (.ref g5.objs.size) _
 rw[sz5] at Z8 T8 ⊢
 exact h g8 Z8 (up8 _ _ d2 TO5) (W1.mv _ _ _ b15 fun o g=>up8 _ o d3 g) (W2.mv _ _ _ b25 fun o g=>up8 _ o d4 g) T8 fun c o n1 n2 n3 n4 g=>up8 c o n1 (k5 c o n2 n4 (k3 c o n1 n2 n3 g))
theorem xdJ (hn:A.handled=none)(D:ZA z ti to i1 i2 a1 a2)(W1:Drw i1 a1 vs t1 s1)(W2:Drw i2 a2 us t2 s2)(Z:IsZip s.heap z ti to .none)(TI:IsPair s.heap ti (.ref i1) (.ref i2))(TO:IsPair s.heap to p q)
  (b1:t1 k s.heap) (b2:t2 k s.heap) (c1:s1 s.heap) (c2:s2 s.heap) (end':vs[k]? = none∨us[k]? = none)
  (h:∀h' e,(∀c o,c≠z→c≠to→c≠i1→c≠i2→s.heap.get? c=some o→h'.get? c=some o)→(∃o,h'.get? e=some o∧o.cls=.type "StopIteration")→E (.ref e) { s with heap:=h' }) :
  wpAny (model prog w) A (Builtin.«zip.__next__» ⟨[.ref z],[]⟩) Q E s:=by
 obtain⟨⟨d1,d2,d3,d4,d5,d6,d7,d8,d9,d10⟩,e1,e2,e3,e4,e5,e6,e7,e8⟩:=D
 refine wpAny_bind (m:=field (.ref z) 2) (wpAny_field Z rfl (x:=.bool false) rfl (wpAny_bind (m:=field (.ref z) 3) (wpAny_field Z rfl (x:=.ref ti) rfl (wpAny_bind (wpAny_seqItems TI rfl ?_)))))
 refine wpAny_bind (m:=Builtin.SmallTypes.ownedTupleIsFree (.ref z)) ?_
 unfold Builtin.SmallTypes.ownedTupleIsFree
 refine wpAny_bind (wpAny_field Z rfl (x:=.none) rfl (wpAny_pure ?_))
 simp only[if_true]
 refine wpAny_bind (wpAny_rule (wpAny_bind (wpAny_field Z rfl (x:=.ref to) rfl (wpAny_bind (wpAny_setField_rec Z (by simp) fun g1 Z1 S1=>wpAny_bind ?_)))))
 replace Z1:IsZip g1 z ti to .ellipsis:=Z1
 simp only[List.zipIdx_cons,List.zipIdx_nil,List.forIn_cons,List.forIn_nil]
 refine wpAny_bind (wpAny_bind (wpAny_onRaise (wpAny_bind (m:=nextOf (.ref i1)) ?_)))
 have b1':=W1.mv _ _ _ b1 fun o=>S1.extBut _ o d3
 have c1':=W1.smv _ _ c1 fun o=>S1.extBut _ o e1
 cases ex:vs[k]? with
 | none =>
  refine W1.fin _ _ _ _ k _ _ hn b1' c1' ex fun g2 e S2 he=>?_
  obtain⟨oe,hoe,hce⟩:=he
  have Z2:IsZip g2 z ti to .ellipsis:=S2 _ _ (Ne.symm d3) Z1
  have ne:e≠z:=fun y=>by subst y;rw[Z2] at hoe;cases hoe;simp at hce
  exact wpAny_setField_rec Z2 (by simp) fun g3 _ S3=>h g3 e (fun c o n1 _ n3 _ g=>S3.extBut _ _ n1 (S2 _ _ n3 (S1.extBut _ _ n1 g))) ⟨oe,S3.extBut _ _ ne hoe,hce⟩
 | some x =>
  have ey:us[k]? = none:=end'.resolve_left (by rw[ex];exact fun z=>nomatch z)
  refine W1.item _ _ _ _ k x _ _ b1' c1' ex fun g2 b12 S2=>wpAny_pure ?_
  have TO2:IsPair g2 to p q:=S2.extBut _ _ d8 (S1.extBut _ _ d2 TO)
  refine wpAny_bind (wpAny_seqItems TO2 rfl (wpAny_bind (wpAny_updateSeq_pair TO2 fun g3 TO3 S3=>wpAny_bind (wpAny_letGo (wpAny_pure ?_)))))
  refine wpAny_bind (wpAny_bind (wpAny_onRaise (wpAny_bind (m:=nextOf (.ref i2)) ?_)))
  have k3:∀c o,c≠z→c≠to→c≠i1→s.heap.get? c=some o→g3.get? c=some o:=fun c o n1 n2 n3 g=>S3.extBut _ _ n2 (S2.extBut _ _ n3 (S1.extBut _ _ n1 g))
  refine W2.fin _ _ _ _ k _ _ hn (W2.mv _ _ _ b2 fun o=>k3 _ o d4 (Ne.symm d9) (Ne.symm d10)) (W2.smv _ _ c2 fun o=>k3 _ o e5 e6 e7) ey fun g4 e S4 he=>?_
  obtain⟨oe,hoe,hce⟩:=he
  have Z4:IsZip g4 z ti to .ellipsis:=S4 _ _ (Ne.symm d4) (S3.extBut _ _ (Ne.symm d2) (S2.extBut _ _ (Ne.symm d3) Z1))
  have ne:e≠z:=fun y=>by subst y;rw[Z4] at hoe;cases hoe;simp at hce
  exact wpAny_setField_rec Z4 (by simp) fun g5 _ S5=>h g5 e (fun c o n1 n2 n3 n4 g=>S5.extBut _ _ n1 (S4 _ _ n4 (k3 c o n1 n2 n3 g))) ⟨oe,S5.extBut _ _ ne hoe,hce⟩
end
end L2
namespace L2
open PySem PySem.Spec PyProof.Rows
section
variable {prog:Program} {w:World} {A:Around} {E:Value→Shared→Prop} {s:Shared}
end
theorem xg9 (h1:a1<n)(h2:a2<n):ZA (n+4) (n+2) (n+3) n (n+1) a1 a2:=by
 have up:∀(x k:Nat),x<n→x≠n+k:=fun x k h=>xlm (xlg h (xk_ n k))
 have ad:∀j k:Nat,j≠k→n+j≠n+k:=fun j k h e=>h (Nat.add_left_cancel e)
 have a0:∀k:Nat,0≠k→n≠n+k:=fun k h e=>h (Nat.add_left_cancel (n:=n) (by simpa using e))
 exact⟨⟨ad _ _ (by decide),ad _ _ (by decide),a0 _ (by decide),ad _ _ (by decide),ad _ _ (by decide),fun e=>a0 2 (by decide) e.symm,ad _ _ (by decide),fun e=>a0 3 (by decide) e.symm,ad _ _ (by decide),a0 _ (by decide)⟩,
  up _ _ h1,up _ _ h1,xlm h1,up _ _ h1,up _ _ h2,up _ _ h2,xlm h2,up _ _ h2⟩
def Sq2 (K:PySem.W.Frag)(b:Bool)(H:Hp)(a:Addr)(xs:List V):Prop:=if b=true then SqT K H a xs else SqL K H a xs
def xar (b:Bool)(a:Addr)(vs:List Value)(h:Heap):Prop:=if b=true then h.IsTuple a vs.toArray else h.IsList a vs.toArray
def Tn2 (b:Bool)(it a:Addr)(i:Nat)(h:Heap):Prop:=if b=true then h.IsTupleIter it a i else h.IsListIter it a i
theorem tU (b:Bool)(it a:Addr)(vs:List Value):Drw it a vs (Tn2 b it a) (xar b a vs):=by
 cases b with
 | true=>exact xeT it a vs
 | false=>exact xcN it a vs
theorem Inv.sq2 (I:Inv X pins σ H s)(h:Sq2 X.K b H a xs):∃vs:List Value,zQ xs vs∧xar b a vs s.heap:=by
 cases b with
 | true=>obtain⟨vs,r,p,_⟩:=I.tuple (show SqT X.K H a xs from h);exact⟨vs,r,p⟩
 | false=>obtain⟨vs,r,p,_⟩:=I.list (show SqL X.K H a xs from h);exact⟨vs,r,p.isList⟩
section
variable {P:Program} {w:World} {K:PySem.W.Frag} {z ti to i1 i2 a1 a2:Addr} {b:Bool} {xs ys:List V}
end
section
variable {X:Cx}
end
end L2
namespace L2
open PySem PySem.Spec PyProof.Rows
theorem Inv.room (I:Inv X pins σ H s):sysModules<s.heap.objs.size:=by
 have h:mainGlobals<s.heap.objs.size:=(I.mod.glob.keeps I.bk).lt
 exact Nat.lt_trans (by decide) h
theorem xa_ (h:Heap)(hb:sysModules<h.objs.size):uH P w H (h.push { cls:=.type "dict", data:=.dict #[] }) h.objs.size (.dK []) :=
 ⟨xln _,beq_eq_false_iff_ne.mpr (Ne.symm (xlm hb)),[],.nil,Heap.DictOf.new h⟩
def xgJ:TE:=fun _ H Q=>∀p,H p=none→Q (.ref p) (upd H p (.dK []))
theorem xfK:PE X (.Dict [] [] pos) xgJ:=fun pins s σ H Q I h =>
 wpAny_Dict_empty ⟨.ref s.heap.objs.size,_,I.laid (a:=s.heap.objs.size) (o:=.dK []) (t':=s.toks) (fun _ _ q=>Heap.get?_push_of_some _ q) (xlb _) (xa_ s.heap I.room),rfl,h _ (I.hok.fresh (xlb _))⟩
end L2
namespace L2
open PySem PySem.Spec PyProof.Rows
inductive Tr where
 | non | bl (b:Bool) | int (i:Int) | str (x:Str) | emp | tup (xs:List Tr) | lst (xs:List Tr)
mutual
def Rep (F:Addr→Prop)(H:Hp):Tr→V→Prop
 | .non,v=>v=.non
 | .bl b,v=>v=.bl b
 | .int i,v=>v=.int i
 | .str x,v=>v=.str x
 | .emp,v=>∃a,v=.ref a∧¬F a∧H a=some (.dK [])
 | .tup ts,v=>∃a ws,v=.ref a∧¬F a∧H a=some (.tup ws)∧zU F H ts ws
 | .lst ts,v=>∃a ws,v=.ref a∧¬F a∧H a=some (.lst ws)∧zU F H ts ws
def zU (F:Addr→Prop)(H:Hp):List Tr→List V→Prop
 | [],ws=>ws=[]
 | t::ts,ws=>∃w r,ws=w::r∧Rep F H t w∧zU F H ts r
end
theorem zL:∀ {ts:List Tr} {ws:List V},zU F H ts ws↔Paired (Rep F H) ts ws
 | [],ws=>by
  constructor
  ·intro h;cases (show ws=[] from h);exact .nil
  ·intro h;cases h;rfl
 | t::ts,ws=>by
  constructor
  ·rintro⟨w,r,rfl,h1,h2⟩;exact .cons h1 (zL.mp h2)
  ·intro h
   cases h with
   | cons h1 h2=>exact⟨_,_,rfl,h1,zL.mpr h2⟩
theorem zU.len (h:zU F H ts ws):ts.length=ws.length:=xai (zL.mp h)
theorem zU.app (h:zU F H ts ws)(h':zU F H ts' ws'):zU F H (ts++ts') (ws++ws'):=zL.mpr (aC (zL.mp h) (zL.mp h'))
theorem zU.get {F:Addr→Prop}{H:Hp}{ts:List Tr}{ws:List V}{i:Nat}{w:V}(h:zU F H ts ws)(e:ws[i]? = some w):∃t,ts[i]? = some t∧Rep F H t w:=rj (zL.mp h) e
theorem zU.getT {F:Addr→Prop}{H:Hp}:∀ {ts:List Tr} {ws:List V} {i:Nat} {t:Tr},zU F H ts ws→ts[i]? = some t→∃w,ws[i]? = some w∧Rep F H t w:=fun {ts ws i t} h e=>by
 have hl:=h.len
 have hi:i<ws.length:=by have:=(xkk.mp e).1;omega
 obtain⟨t',e',r⟩:=h.get (xki hi)
 rw[e] at e';cases e'
 exact⟨_,xki hi,r⟩
mutual
theorem yD (m:∀a o,H a=some o→¬F a→H' a=some o∧¬F' a):∀(t:Tr) (v:V),Rep F H t v→Rep F' H' t v
 | .non,v,h=>h
 | .bl b,v,h=>h
 | .int i,v,h=>h
 | .str x,v,h=>h
 | .emp,v,h=>by
  obtain⟨a,e,n,k⟩:=h
  exact⟨a,e,(m a _ k n).2,(m a _ k n).1⟩
 | .tup ts,v,h=>by
  obtain⟨a,ws,e,n,k,r⟩:=h
  exact⟨a,ws,e,(m a _ k n).2,(m a _ k n).1,yo m ts ws r⟩
 | .lst ts,v,h=>by
  obtain⟨a,ws,e,n,k,r⟩:=h
  exact⟨a,ws,e,(m a _ k n).2,(m a _ k n).1,yo m ts ws r⟩
theorem yo (m:∀a o,H a=some o→¬F a→H' a=some o∧¬F' a):∀(ts:List Tr) (ws:List V),zU F H ts ws→zU F' H' ts ws
 | [],ws,h=>h
 | t::ts,ws,h=>by
  obtain⟨w,r,e,h1,h2⟩:=h
  exact⟨w,r,e,yD m t w h1,yo m ts r h2⟩
end
def xao:Tr→Option V
 | .non=>some .non | .bl b=>some (.bl b) | .int i=>some (.int i) | .str x=>some (.str x) | _=>none
theorem qm (h:xao t=some v):Rep F H t v:=by
 cases t with
 | non=>cases h;rfl
 | bl b=>cases h;rfl
 | int i=>cases h;rfl
 | str x=>cases h;rfl
 | _=>cases h
inductive TV where
 | un | fz (t:Tr) | ow (ts:List Tr) | st | sc (ns:List Int) | ob (a:Addr)
abbrev TSt:=List TV
def nth:TSt→Nat→TV
 | [],_=>.un
 | x::_,0=>x
 | _::r,n+1=>nth r n
theorem jS:∀ {τ:TSt} {i:Nat} (h:i<τ.length),nth τ i=τ[i]
 | [],_,h=>absurd h (by simp)
 | _::_,0,_=>rfl
 | _::r,i+1,h=>jS (τ:=r) (by simpa using h)
theorem ur:∀ {τ:TSt} {i:Nat} (h:τ.length≤i),nth τ i=.un
 | [],_,_=>rfl
 | _::_,0,h=>absurd h (by simp)
 | _::r,i+1,h=>ur (τ:=r) (by simpa using h)
theorem zH:∀ {τ:TSt} {i:Nat} {x:TV} (h:i<τ.length),nth (τ.set i x) i=x
 | [],_,_,h=>absurd h (by simp)
 | _::_,0,_,_=>rfl
 | _::r,i+1,x,h=>zH (τ:=r) (by simpa using h)
theorem yN:∀ {τ:TSt} {i j:Nat} {x:TV} (h:j≠i),nth (τ.set i x) j=nth τ j
 | [],_,_,_,_=>rfl
 | _::_,0,0,_,h=>absurd rfl h
 | _::_,0,_+1,_,_=>rfl
 | _::_,_+1,0,_,_=>rfl
 | _::r,i+1,j+1,x,h=>yN (τ:=r) (fun e=>h (by rw[e]))
structure FB where
 F0:Addr→Prop
 S0:Addr→Prop
 H0:Hp
 G0:List (Tr×V)
abbrev Phi:=Nat→Option Addr
def Av (B:FB)(φ:Phi)(a:Addr):Prop:=B.F0 a∨∃i,φ i=some a
def SA (B:FB)(φ:Phi)(τ:TSt)(a:Addr):Prop:=B.S0 a∨∃i,φ i=some a∧nth τ i=.st
def Wk (B:FB)(φ:Phi)(τ:TSt)(a:Addr):Prop:=B.F0 a∨SA B φ τ a
def AvB:Bool→FB→Phi→TSt→Addr→Prop
 | true,B,φ,_=>Av B φ
 | false,B,φ,τ=>Wk B φ τ
def xfU (K:PySem.W.Frag):Option (Addr×Str):=match K.lookup 4 with
 | none=>none
 | some _=>match PySem.W.nsIn K mainGlobals "law" with
  | some (some (.ref f))=>(match K.lookup f with
   | some ⟨_,_,.func fd,_⟩=>(match fd.code with
    | .ref c=>(match K.lookup c with
     | some ⟨_,_,.fields vs,_⟩=>(match vs.toList.getD 11 Value.none with
      | Value.ref P=>some (P, "law.<locals>.<lambda>")
      | _=>none)
     | _=>none)
    | _=>none)
   | _=>none)
  | _=>none
def xfQ (K:PySem.W.Frag)(H:Hp):Prop:=∀P q,xfU K=some (P,q)→H P=some (.tb q)
def xdB (K:PySem.W.Frag)(H:Hp)(a:Addr)(ns:List Int):Prop:=((∃o,H a=some (.frz o (.lst (ns.map V.int))))∨∀H',SqL K H' a (ns.map V.int))∧xfQ K H
def Ent (K:PySem.W.Frag)(B:FB)(φ:Phi)(H:Hp)(i:Nat)(o:Option (Option V)):TV→Prop
 | .un=>True
 | .fz t=>∃v,o=some (some v)∧Rep (Av B φ) H t v
 | .ow ts=>∃a ws,o=some (some (.ref a))∧φ i=some a∧B.H0 a=none∧H a=some (.lst ws)∧zU (Av B φ) H ts ws
 | .st=>∃p,o=some (some (.ref p))∧φ i=some p∧(B.S0 p∨B.H0 p=none)
 | .sc ns=>∃a,o=some (some (.ref a))∧ns.length≤63∧xdB K H a ns
 | .ob a=>o=some (some (.ref a))
structure RS (K:PySem.W.Frag)(B:FB)(φ:Phi)(σ:St)(τ:TSt)(H:Hp):Prop where
 f0:∀a,B.F0 a→B.H0 a≠none
 s0:∀a,B.S0 a→B.F0 a
 ext:∀a o,B.H0 a=some o→¬B.S0 a→H a=some o
 sst:∀a,SA B φ τ a→b_ a H
 inj:∀i j a ts,nth τ i=.ow ts→φ i=some a→φ j=some a→i=j
 ow:∀i a,φ i=some a→H a≠none
 len:σ.length=τ.length
 ent:∀i,Ent K B φ H i (σ[i]?) (nth τ i)
 gh:∀p∈B.G0,Rep (Av B φ) H p.1 p.2
structure HX (B:FB)(φ:Phi)(τ:TSt)(H H':Hp):Prop where
 keep:∀a o,H a=some o→¬SA B φ τ a→H' a=some o
 st:∀a,SA B φ τ a→b_ a H'
section
variable {K:PySem.W.Frag} {B:FB} {φ:Phi} {σ:St} {τ:TSt} {H H' H'':Hp}
theorem b_.ne_none (h:b_ p H):H p≠none:=by
 obtain⟨n,b,e,_⟩:=h
 rw[e];exact fun z=>nomatch z
theorem RS.sAv (R:RS K B φ σ τ H)(h:SA B φ τ a):Av B φ a:=by
 rcases h with h | ⟨i,h,_⟩
 ·exact .inl (R.s0 a h)
 ·exact .inr ⟨i,h⟩
theorem RS.wAv (R:RS K B φ σ τ H)(h:Wk B φ τ a):Av B φ a:=by
 rcases h with h | h
 ·exact .inl h
 ·exact R.sAv h
theorem RS.sB (R:RS K B φ σ τ H)(h:SA B φ τ a):AvB b B φ τ a:=by
 cases b with
 | true=>exact R.sAv h
 | false=>exact .inr h
theorem RS.dom (R:RS K B φ σ τ H)(h:Av B φ a):H a≠none:=by
 rcases h with h | ⟨i,h⟩
 ·by_cases s:B.S0 a
  ·exact(R.sst a (.inl s)).ne_none
  ·cases e:B.H0 a with
   | none=>exact absurd e (R.f0 a h)
   | some o=>rw[R.ext a o e s];exact fun z=>nomatch z
 ·exact R.ow i a h
theorem RS.domB (R:RS K B φ σ τ H)(h:AvB b B φ τ a):H a≠none:=by
 cases b with
 | true=>exact R.dom h
 | false=>exact R.dom (R.wAv h)
theorem HX.refl (R:RS K B φ σ τ H):HX B φ τ H H:=⟨fun _ _ h _=>h,R.sst⟩
theorem HX.trans (h:HX B φ τ H H')(h':HX B φ τ H' H''):HX B φ τ H H'':=⟨fun a o e n=>h'.keep a o (h.keep a o e n) n,h'.st⟩
theorem HX.none (h:HX B φ τ H H')(e:H' a=none):H a=none:=by
 cases q:H a with
 | none=>rfl
 | some o =>
  by_cases s:SA B φ τ a
  ·exact absurd e (h.st a s).ne_none
  ·rw[h.keep a o q s] at e;cases e
theorem HX.new (R:RS K B φ σ τ H)(hp:H p=Option.none)(o:HO):HX B φ τ H (upd H p o) :=
 ⟨fun a u e _=>by rw[xY (xK e hp)];exact e,fun a s=>by
  obtain⟨n,b,e,z⟩:=R.sst a s
  exact⟨n,b,by rw[xY (xK e hp)];exact e,z⟩⟩
theorem HX.rep (h:HX B φ τ H H')(hF:∀a,SA B φ τ a→F a)(r:Rep F H t v):Rep F H' t v:=yD (fun a o e n=>⟨h.keep a o e (fun s=>n (hF a s)),n⟩) t v r
theorem HX.repL (h:HX B φ τ H H')(hF:∀a,SA B φ τ a→F a)(r:zU F H t v):zU F H' t v:=yo (fun a o e n=>⟨h.keep a o e (fun s=>n (hF a s)),n⟩) t v r
theorem rK (R:RS K B φ σ τ H)(e:H a=some (.frz o u)):¬SA B φ τ a:=fun s=>by
 obtain⟨n,b,q,_⟩:=R.sst a s
 rw[e] at q;cases q
theorem xfe (R:RS K B φ σ τ H)(e:H a=some (.tb q)):¬SA B φ τ a:=fun s=>by
 obtain⟨n,b,y,_⟩:=R.sst a s
 rw[e] at y;cases y
theorem xfQ.hx (t:xfQ K H)(R:RS K B φ σ τ H)(h:HX B φ τ H H'):xfQ K H':=fun P q e=>h.keep P _ (t P q e) (xfe R (t P q e))
theorem RS.hx (R:RS K B φ σ τ H)(h:HX B φ τ H H'):RS K B φ σ τ H' where
 f0:=R.f0
 s0:=R.s0
 ext:=fun a o e n=>by
  by_cases s:SA B φ τ a
  ·have q:=R.ext a o e n
   rcases s with s | ⟨i,s,hi⟩
   ·exact absurd s n
   ·have en:=R.ent i
    rw[hi] at en
    obtain⟨p,_,e2,e3⟩:=en
    rw[s] at e2;cases e2
    rcases e3 with z | z
    ·exact absurd z n
    ·rw[z] at e;cases e
  ·exact h.keep a o (R.ext a o e n) s
 sst:=h.st
 inj:=R.inj
 ow:=fun i a e z=>R.ow i a e (h.none z)
 len:=R.len
 ent:=fun i=>by
  have en:=R.ent i
  revert en
  cases hi:nth τ i with
  | un=>exact fun _=>trivial
  | fz t=>exact fun⟨v,e,r⟩=>⟨v,e,h.rep (fun a s=>R.sAv s) r⟩
  | ow ts =>
   intro ⟨a,ws,e1,e2,e3,e4,r⟩
   refine⟨a,ws,e1,e2,e3,?_,h.repL (fun a s=>R.sAv s) r⟩
   by_cases s:SA B φ τ a
   ·rcases s with s | ⟨j,s,hj⟩
    ·exact absurd e3 (R.f0 a (R.s0 a s))
    ·have:=R.inj i j a ts hi e2 s
     subst this
     rw[hi] at hj;cases hj
   ·exact h.keep a _ e4 s
  | st=>exact fun z=>z
  | ob a=>exact fun z=>z
  | sc ns =>
   intro ⟨a,e,l,q,tb⟩
   refine⟨a,e,l,?_,tb.hx R h⟩
   rcases q with ⟨o,q⟩ | q
   ·exact .inl ⟨o,h.keep a _ q (rK R q)⟩
   ·exact .inr q
 gh:=fun p hp=>h.rep (fun a s=>R.sAv s) (R.gh p hp)
end
end L2
namespace L2
open PySem PySem.Spec PyProof.Rows
abbrev DE:=TSt→(Tr→Prop)→Prop
abbrev DT:=TSt→(Bool→Prop)→Prop
abbrev DA:=TSt→(List Tr→Prop)→Prop
structure xaB where
 nx:TSt→Prop
 rt:Tr→Prop
 bk:TSt→Prop:=fun _=>False
 ct:TSt→Prop:=fun _=>False
abbrev DS:=xaB→TSt→Prop
abbrev DG:=Tr→TSt→(TSt→Prop)→Prop
abbrev DGs:=List Tr→TSt→(TSt→Prop)→Prop
def OkE (K:PySem.W.Frag)(b:Bool)(te:TE)(d:DE):Prop:=∀(B:FB) (φ:Phi) (σ:St) (τ:TSt) (H:Hp) (Q:VK) (KK:Tr→Prop),RS K B φ σ τ H→d τ KK →
 (∀t v H',HX B φ τ H H'→KK t→Rep (AvB b B φ τ) H' t v→Q v H')→te σ H Q
def OkF (K:PySem.W.Frag)(te:TE)(d:DE):Prop:=∀(B:FB) (φ:Phi) (σ:St) (τ:TSt) (H:Hp) (Q:VK) (KK:Tr→Prop),RS K B φ σ τ H→d τ KK →
 (∀ts a ws H',HX B φ τ H H'→KK (.lst ts)→H a=none→H' a=some (.lst ws)→zU (fun c=>Av B φ c∨c=a) H' ts ws→Q (.ref a) H')→te σ H Q
def OkT (K:PySem.W.Frag)(t:TT)(d:DT):Prop:=∀(B:FB) (φ:Phi) (σ:St) (τ:TSt) (H:Hp) (Q:Bool→Hp→Prop) (KK:Bool→Prop),RS K B φ σ τ H→d τ KK →
 (∀b H',HX B φ τ H H'→KK b→Q b H')→t σ H Q
def OkA (K:PySem.W.Frag)(b:Bool)(n:Nat)(ta:TA)(d:DA):Prop:=∀(B:FB) (φ:Phi) (σ:St) (τ:TSt) (H:Hp) (Q:List V→Hp→Prop) (KK:List Tr→Prop),RS K B φ σ τ H→d τ KK →
 (∀ts vs H',HX B φ τ H H'→KK ts→ts.length=n→zU (AvB b B φ τ) H' ts vs→Q vs H')→ta σ H Q
def HXA (B:FB)(φ:Phi)(H H':Hp):Prop:=∀a o,H a=some o→¬Av B φ a→H' a=some o
def OkG (K:PySem.W.Frag)(g:TG)(d:DG):Prop:=∀(B:FB) (φ:Phi) (σ:St) (τ:TSt) (H:Hp) (t:Tr) (v:V) (Q:St→Hp→Prop) (KK:TSt→Prop),RS K B φ σ τ H→Rep (Av B φ) H t v→d t τ KK →
 (∀ φ' σ' τ' H',RS K B φ' σ' τ' H'→(∀a,Av B φ' a→Av B φ a)→HXA B φ H H'→KK τ'→Q σ' H')→g v σ H Q
def xhv (K:PySem.W.Frag)(g:TGs)(d:DGs):Prop:=∀(B:FB) (φ:Phi) (σ:St) (τ:TSt) (H:Hp) (t:List Tr) (v:List V) (Q:St→Hp→Prop) (KK:TSt→Prop),RS K B φ σ τ H→zU (Av B φ) H t v→d t τ KK →
 (∀ φ' σ' τ' H',RS K B φ' σ' τ' H'→(∀a,Av B φ' a→Av B φ a)→HXA B φ H H'→KK τ'→Q σ' H')→g v σ H Q
def FrL (F:Addr→Prop)(H H':Hp)(t:Tr)(v:V):Prop:=∃a ts ws,v=.ref a∧t=.lst ts∧H a=none∧H' a=some (.lst ws)∧zU (fun c=>F c∨c=a) H' ts ws
structure xeD (B:FB)(H:Hp):Prop where
 ext:∀a o,B.H0 a=some o→¬B.S0 a→H a=some o
 st:∀a,B.S0 a→b_ a H
structure EOk (K:PySem.W.Frag)(B:FB)(fr:Bool)(E:Ends)(G:xaB):Prop where
 nx:∀ φ σ τ H,RS K B φ σ τ H→G.nx τ→E.nx σ H
 bk:∀ φ σ τ H,RS K B φ σ τ H→G.bk τ→E.bk σ H
 ct:∀ φ σ τ H,RS K B φ σ τ H→G.ct τ→E.ct σ H
 rt:∀t v H,Rep B.F0 H t v→xeD B H→G.rt t→(fr=true→FrL B.F0 B.H0 H t v)→E.rt v H
def OkS (K:PySem.W.Frag)(fr:Bool)(T:TS)(D:DS):Prop:=∀(B:FB) (φ:Phi) (σ:St) (τ:TSt) (H:Hp) (E:Ends) (G:xaB),RS K B φ σ τ H→D G τ→EOk K B fr E G→T E σ H
section
variable {K:PySem.W.Frag} {B:FB} {φ:Phi} {σ:St} {τ:TSt} {H H' H'':Hp}
theorem RS.extB (R:RS K B φ σ τ H):xeD B H:=⟨R.ext,fun a s=>R.sst a (.inl s)⟩
theorem xil (R:RS K B φ σ τ H)(h:Rep (AvB b B φ τ) H' t v):Rep (Wk B φ τ) H' t v:=by
 cases b with
 | true=>exact yD (fun a o e n=>⟨e,fun w=>n (R.wAv w)⟩) t v h
 | false=>exact h
theorem xhO (R:RS K B φ σ τ H)(h:zU (AvB b B φ τ) H' t v):zU (Wk B φ τ) H' t v:=by
 cases b with
 | true=>exact yo (fun a o e n=>⟨e,fun w=>n (R.wAv w)⟩) t v h
 | false=>exact h
theorem OkF.e (h:OkF K te d):OkE K true te d:=fun B φ σ τ H Q KK R hd q=>h B φ σ τ H Q KK R hd fun ts a ws H' x k e e' r=>q _ _ H' x k ⟨a,ws,rfl,fun z=>R.dom z e,e',yo (fun c o e n=>⟨e,fun z=>n (.inl z)⟩) _ _ r⟩
def cf (i:Nat):DE:=fun τ KK=>match nth τ i with | .fz t=>KK t | _=>False
def xhc (i:Nat):DE:=fun τ KK=>match nth τ i with | .fz t=>KK t | .ow ts=>KK (.lst ts) | _=>False
def dC (t:Tr):DE:=fun _ KK=>KK t
theorem xa:OkE K true (rz i) (cf i):=fun B φ σ τ H Q KK R hd q=>by
 have en:=R.ent i
 unfold cf at hd
 revert en hd
 cases nth τ i with
 | fz t=>exact fun k ⟨v,e,r⟩=>⟨v,e,q t v H (HX.refl R) k r⟩
 | _=>exact fun z _=>z.elim
theorem oT (R:RS K B φ σ τ H)(hi:nth τ i=.ow ts)(e2:φ i=some a)(e3:B.H0 a=none):¬Wk B φ τ a:=fun z=>by
 rcases z with z | z | ⟨j,z,hj⟩
 ·exact R.f0 a z e3
 ·exact R.f0 a (R.s0 a z) e3
 ·have:=R.inj i j a ts hi e2 z
  subst this
  rw[hi] at hj;cases hj
theorem si:OkE K false (rz i) (xhc i):=fun B φ σ τ H Q KK R hd q=>by
 have en:=R.ent i
 unfold xhc at hd
 revert en hd
 cases hi:nth τ i with
 | fz t=>exact fun k ⟨v,e,r⟩=>⟨v,e,q t v H (HX.refl R) k (xil (b:=true) R r)⟩
 | ow ts =>
  intro k ⟨a,ws,e1,e2,e3,e4,r⟩
  exact⟨_,e1,q _ _ H (HX.refl R) k ⟨a,ws,rfl,oT R hi e2 e3,e4,xhO (b:=true) R r⟩⟩
 | _=>exact fun z _=>z.elim
theorem xae (h:xao t=some v:=by rfl):OkE K true (tC v) (dC t):=fun B φ σ τ H Q KK R hd q=>q t v H (HX.refl R) hd (qm h)
def d2 (f:Tr→Tr→(Tr→Prop)→Prop)(da db:DE):DE:=fun τ KK=>da τ fun x=>db τ fun y=>f x y KK
def OpS (r:R2)(f:Tr→Tr→(Tr→Prop)→Prop):Prop:=∀(F G:Addr→Prop) (H:Hp) (x y:V) (t u:Tr) (KK:Tr→Prop) (Q:VK),Rep F H t x→Rep G H u y→f t u KK→(∀w v,xao w=some v→KK w→Q v H)→r x y H Q
theorem xg (hr:OpS r f)(ha:OkE K b ta da)(hb:OkE K c tb db):OkE K true (tOp r ta tb) (d2 f da db):=fun B φ σ τ H Q KK R hd q =>
 ha B φ σ τ H _ _ R hd fun t v H1 x1 k1 r1=>hb B φ σ τ H1 _ _ (R.hx x1) k1 fun u w H2 x2 k2 r2 =>
  hr _ _ H2 v w t u KK Q (x2.rep (fun a s=>R.sB s) r1) r2 k2 fun z v' e k=>q z v' H2 (x1.trans x2) k (qm e)
def fI (C:Int→Int→Prop)(g:Int→Int→Tr)(x y:Tr)(KK:Tr→Prop):Prop:=match x,y with | .int i,.int j=>C i j∧KK (g i j) | _,_=>False
def fI0 (g:Int→Int→Tr)(x y:Tr)(KK:Tr→Prop):Prop:=match x,y with | .int i,.int j=>KK (g i j) | _,_=>False
theorem xdy (h:∀i j,xao (g' i j)=some (g i j)):OpS (rI C g) (fI C g'):=by
 intro F G H x y t u KK Q r1 r2 hf q
 unfold fI at hf
 split at hf
 ·rename_i i j
  cases (show x=.int i from r1);cases (show y=.int j from r2)
  exact⟨i,j,rfl,rfl,hf.1,q _ _ (h i j) hf.2⟩
 ·exact hf.elim
theorem om (h:∀i j,xao (g' i j)=some (g i j)):OpS (rI0 g) (fI0 g'):=by
 intro F G H x y t u KK Q r1 r2 hf q
 unfold fI0 at hf
 split at hf
 ·rename_i i j
  cases (show x=.int i from r1);cases (show y=.int j from r2)
  exact⟨i,j,rfl,rfl,q _ _ (h i j) hf⟩
 ·exact hf.elim
abbrev xji:=fI0 fun i j=>.int (i+j)
abbrev xiZ:=fI0 fun i j=>.int (i-j)
abbrev fLe:=fI0 fun i j=>.bl (decide (i≤j))
abbrev fGt:=fI0 fun i j=>.bl (decide (j<i))
theorem uM:OpS (rI0 fun i j=>.int (i+j)) xji:=om fun _ _=>rfl
theorem ze:OpS (rI0 fun i j=>.int (i-j)) xiZ:=om fun _ _=>rfl
theorem fw:OpS (rI0 fun i j=>.bl (decide (i≤j))) fLe:=om fun _ _=>rfl
theorem pF:OpS (rI0 fun i j=>.bl (decide (j<i))) fGt:=om fun _ _=>rfl
def Bd (i:Int):Prop:=i.natAbs<2 ^ 2000
theorem cG (h1:-(10 ^ 100)≤i)(h2:i≤10 ^ 100):Bd i:=by
 have:i.natAbs≤10 ^ 100:=by omega
 exact xlf this (by decide +kernel)
theorem log2_lt_of (h:n<2 ^ k)(hk:0<k):n.log2<k:=by
 by_cases h0:n=0
 ·subst h0;simpa using hk
 ·exact(Nat.log2_lt h0).mpr h
theorem Bd.bits (h:Bd i):Builtin.Int.intBits i≤2000:=by
 unfold Builtin.Int.intBits
 split
 ·exact xln _
 ·have:=log2_lt_of h (by decide)
  omega
def CM (i j:Int):Prop:=Bd i∧Bd j
theorem CM.ok (h:CM i j):IntMulOk i j:=PyProof.Rows.mulOk_of_bits h.1.bits h.2.bits (by decide)
section
variable {X:Cx}
theorem xI:OpR X (binaryOp .Mult) (rI CM fun i j=>.int (i*j)):=opI fun _ _ _ _ _ _ _ hc q=>mul_int q hc.ok
def CDv (_i j:Int):Prop:=j≠0∧Bd j
theorem zT:OpR X (binaryOp .FloorDiv) (rI CDv fun i j=>.int (i.fdiv j)):=opI fun i j _ _ _ _ _ hc q =>
 floordiv_int hc.1 q (.inl (PyProof.noPylong_of_log2 (Nat.lt_trans (log2_lt_of hc.2 (by decide)) (by decide))))
end
abbrev xjb:=fI CM fun i j=>.int (i*j)
abbrev xi_:=fI CDv fun i j=>.int (i.fdiv j)
abbrev xjh:=fI (fun _ j=>j≠0) fun i j=>.int (i.fmod j)
theorem xW:OpS (rI CM fun i j=>.int (i*j)) xjb:=xdy fun _ _=>rfl
theorem uG:OpS (rI CDv fun i j=>.int (i.fdiv j)) xi_:=xdy fun _ _=>rfl
theorem xer:OpS (rI (fun _ j=>j≠0) fun i j=>.int (i.fmod j)) xjh:=xdy fun _ _=>rfl
abbrev xjj:=fI xhp fun i j=>.int (i ^ j.toNat)
theorem xgN:OpS (rI xhp fun i j=>.int (i ^ j.toNat)) xjj:=xdy fun _ _=>rfl
def d1 (f:Tr→(Tr→Prop)→Prop)(da:DE):DE:=fun τ KK=>da τ fun x=>f x KK
def xiK (x:Tr)(KK:Tr→Prop):Prop:=match x with | .int i=>KK (.int (-i)) | _=>False
theorem zd (ha:OkE K b ta da):OkE K true (tUn (rU fun i=>.int (-i)) ta) (d1 xiK da):=fun B φ σ τ H Q KK R hd q =>
 ha B φ σ τ H _ _ R hd fun t v H1 x1 k1 r1=>by
  cases t with
  | int i=>cases (show v=.int i from r1);exact⟨i,rfl,q _ _ H1 x1 k1 rfl⟩
  | _=>exact k1.elim
def xfN:Tr→Bool
 | .non=>true
 | _=>false
theorem nS (r:Rep F H t v):decide (v=.non)=xfN t:=by
 cases t with
 | non=>cases (show v=.non from r);rfl
 | bl b=>cases (show v=.bl b from r);rfl
 | int b=>cases (show v=.int b from r);rfl
 | str b=>cases (show v=.str b from r);rfl
 | emp=>obtain⟨a,e,_⟩:=r;subst e;rfl
 | tup ts=>obtain⟨a,ws,e,_⟩:=r;subst e;rfl
 | lst ts=>obtain⟨a,ws,e,_⟩:=r;subst e;rfl
theorem mK (ha:OkE K b ta da):OkE K true (xiY ta) (d1 (fun x KK=>KK (.bl (xfN x))) da):=fun B φ σ τ H Q KK R hd q =>
 ha B φ σ τ H _ _ R hd fun t v H1 x1 k1 r1=>by
  show Q (.bl (decide (v=.non))) H1
  rw[nS r1];exact q _ _ H1 x1 k1 rfl
theorem xb3 (ha:OkE K b ta da):OkE K true (xgE ta) (d1 (fun x KK=>KK (.bl (!xfN x))) da):=fun B φ σ τ H Q KK R hd q =>
 ha B φ σ τ H _ _ R hd fun t v H1 x1 k1 r1=>by
  show Q (.bl (!decide (v=.non))) H1
  rw[nS r1];exact q _ _ H1 x1 k1 rfl
def fB (x:Tr)(KK:Bool→Prop):Prop:=match x with | .bl b=>KK b | _=>False
def xhw (d:DE):DT:=fun τ KK=>d τ fun x=>fB x KK
theorem yB (ha:OkE K b ta da):OkT K (tB ta) (xhw da):=fun B φ σ τ H Q KK R hd q =>
 ha B φ σ τ H _ _ R hd fun t v H1 x1 k1 r1=>by
  cases t with
  | bl i=>cases (show v=.bl i from r1);exact⟨i,rfl,q _ H1 x1 k1⟩
  | _=>exact k1.elim
theorem xH (ha:OkE K b ta da):OkT K (xfL ta) (xhw da):=yB ha
def xiL (a b:DT):DT:=fun τ KK=>a τ fun c=>if c=true then b τ KK else KK false
def dOr (a b:DT):DT:=fun τ KK=>a τ fun c=>if c=true then KK true else b τ KK
def xi1 (a:DT):DT:=fun τ KK=>a τ fun c=>KK (!c)
theorem qz (ha:OkT K ta da)(hb:OkT K tb db):OkT K (xiM ta tb) (xiL da db):=fun B φ σ τ H Q KK R hd q =>
 ha B φ σ τ H _ _ R hd fun c H1 x1 k1=>by
  cases c with
  | true=>exact xat (hb B φ σ τ H1 _ _ (R.hx x1) k1 fun d H2 x2 k2=>q d H2 (x1.trans x2) k2)
  | false=>exact pN (q false H1 x1 k1)
theorem zq (ha:OkT K ta da)(hb:OkT K tb db):OkT K (tOr ta tb) (dOr da db):=fun B φ σ τ H Q KK R hd q =>
 ha B φ σ τ H _ _ R hd fun c H1 x1 k1=>by
  cases c with
  | false=>exact pN (hb B φ σ τ H1 _ _ (R.hx x1) k1 fun d H2 x2 k2=>q d H2 (x1.trans x2) k2)
  | true=>exact xat (q true H1 x1 k1)
theorem yE (ha:OkT K ta da):OkT K (xiy ta) (xi1 da):=fun B φ σ τ H Q KK R hd q =>
 ha B φ σ τ H _ _ R hd fun c H1 x1 k1=>q (!c) H1 x1 k1
def xh9 (a b:DE):DE:=fun τ KK=>a τ fun x=>fB x fun c=>if c=true then b τ KK else KK (.bl false)
def xi5 (a b:DE):DE:=fun τ KK=>a τ fun x=>fB x fun c=>if c=true then KK (.bl true) else b τ KK
def xib (a:DE):DE:=fun τ KK=>a τ fun x=>fB x fun c=>KK (.bl (!c))
theorem gD (ha:OkE K b ta da)(hb:OkE K c tb db):OkE K c (xgn ta tb) (xh9 da db):=fun B φ σ τ H Q KK R hd q =>
 ha B φ σ τ H _ _ R hd fun t v H1 x1 k1 r1=>by
  cases t with
  | bl i =>
   cases (show v=.bl i from r1)
   refine⟨i,rfl,?_⟩
   cases i with
   | true=>exact xat (hb B φ σ τ H1 _ _ (R.hx x1) k1 fun d w H2 x2 k2 r2=>q d w H2 (x1.trans x2) k2 r2)
   | false=>exact pN (q _ _ H1 x1 k1 (qm rfl))
  | _=>exact k1.elim
theorem oG (ha:OkE K b ta da)(hb:OkE K c tb db):OkE K c (xiT ta tb) (xi5 da db):=fun B φ σ τ H Q KK R hd q =>
 ha B φ σ τ H _ _ R hd fun t v H1 x1 k1 r1=>by
  cases t with
  | bl i =>
   cases (show v=.bl i from r1)
   refine⟨i,rfl,?_⟩
   cases i with
   | false=>exact pN (hb B φ σ τ H1 _ _ (R.hx x1) k1 fun d w H2 x2 k2 r2=>q d w H2 (x1.trans x2) k2 r2)
   | true=>exact xat (q _ _ H1 x1 k1 (qm rfl))
  | _=>exact k1.elim
theorem pA (ha:OkE K b ta da):OkE K true (xgh ta) (xib da):=fun B φ σ τ H Q KK R hd q =>
 ha B φ σ τ H _ _ R hd fun t v H1 x1 k1 r1=>by
  cases t with
  | bl i=>cases (show v=.bl i from r1);exact⟨i,rfl,q _ _ H1 x1 k1 rfl⟩
  | _=>exact k1.elim
def xg8 (f f':Tr→Tr→(Tr→Prop)→Prop)(da db dc:DE):DE:=fun τ KK=>da τ fun x=>db τ fun y=>f x y fun z=>fB z fun k=>if k=true then dc τ fun w=>f' y w KK else KK (.bl false)
theorem mE (hr:OpS r f)(hr':OpS r' f')(ha:OkE K b1 ta da)(hb:OkE K b2 tb db)(hc:OkE K b3 tc dc) :
  OkE K true (xex r r' ta tb tc) (xg8 f f' da db dc):=fun B φ σ τ H Q KK R hd q =>
 ha B φ σ τ H _ _ R hd fun t v H1 x1 k1 r1=>hb B φ σ τ H1 _ _ (R.hx x1) k1 fun u w H2 x2 k2 r2 =>
  hr _ _ H2 v w t u _ _ (x2.rep (fun a s=>R.sB s) r1) r2 k2 fun z v' e k=>by
   cases z with
   | bl i =>
    cases e
    refine⟨i,rfl,?_⟩
    cases i with
    | true=>exact xat (hc B φ σ τ H2 _ _ (R.hx (x1.trans x2)) k fun w3 v3 H3 x3 k3 r3=>hr' _ _ H3 w v3 u w3 KK Q (x3.rep (fun a s=>R.sB s) r2) r3 k3 fun z' v'' e' k'=>q z' v'' H3 ((x1.trans x2).trans x3) k' (qm e'))
    | false=>exact pN (q _ _ H2 (x1.trans x2) k (qm rfl))
   | _=>exact k.elim
def xes:DA:=fun _ KK=>KK []
def tZ (a:DE)(r:DA):DA:=fun τ KK=>a τ fun x=>r τ fun xs=>KK (x::xs)
theorem ud:OkA K b 0 xab xes:=fun B φ σ τ H Q KK R hd q=>q [] [] H (HX.refl R) hd rfl rfl
theorem xJ (he:OkE K b te de)(ha:OkA K b n ta da):OkA K b (n+1) (vJ te ta) (tZ de da):=fun B φ σ τ H Q KK R hd q =>
 he B φ σ τ H _ _ R hd fun t v H1 x1 k1 r1=>ha B φ σ τ H1 _ _ (R.hx x1) k1 fun ts vs H2 x2 k2 l2 r2=>q (t::ts) (v::vs) H2 (x1.trans x2) k2 (by rw[xkr,l2]) ⟨v,vs,rfl,x2.rep (fun a s=>R.sB s) r1,r2⟩
def xi4 (a:DA):DE:=fun τ KK=>a τ fun xs=>KK (.tup xs)
def xgi (a:DA):DE:=fun τ KK=>a τ fun xs=>KK (.lst xs)
theorem tF (hp:H p=none)(r:Rep F H t v):Rep F (upd H p o) t v:=yD (fun a u e n=>⟨by rw[xY (xK e hp)];exact e,n⟩) t v r
theorem uK (hp:H p=none)(r:zU F H t v):zU F (upd H p o) t v:=yo (fun a u e n=>⟨by rw[xY (xK e hp)];exact e,n⟩) t v r
theorem kM (hp:H p=none)(r:zU F H t v):zU (fun c=>F c∨c=p) (upd H p o) t v:=yo (fun a u e n=>⟨by rw[xY (xK e hp)];exact e,fun z=>z.elim n (xK e hp)⟩) t v r
theorem yc (ha:OkA K b n ta da)(hn:n≤sizeLine:=by decide):OkE K b (xin ta) (xi4 da):=fun B φ σ τ H Q KK R hd q =>
 ha B φ σ τ H _ _ R hd fun ts vs H1 x1 k1 l1 r1=>⟨by rw[←r1.len,l1];exact hn,fun p hp =>
  q _ _ _ (x1.trans (HX.new (R.hx x1) hp _)) k1 ⟨p,vs,rfl,fun z=>(R.hx x1).domB z hp,ya,uK hp r1⟩⟩
theorem vy (ha:OkA K true n ta da)(hn:n≤sizeLine:=by decide):OkF K (xh0 ta) (xgi da):=fun B φ σ τ H Q KK R hd q =>
 ha B φ σ τ H _ _ R hd fun ts vs H1 x1 k1 l1 r1=>⟨by rw[←r1.len,l1];exact hn,fun p hp =>
  q ts p vs _ (x1.trans (HX.new (R.hx x1) hp _)) k1 (x1.none hp) ya (kM hp r1)⟩
theorem uy (ha:OkA K b n ta da)(hn:n≤sizeLine:=by decide):OkE K b (xh0 ta) (xgi da):=fun B φ σ τ H Q KK R hd q =>
 ha B φ σ τ H _ _ R hd fun ts vs H1 x1 k1 l1 r1=>⟨by rw[←r1.len,l1];exact hn,fun p hp =>
  q _ _ _ (x1.trans (HX.new (R.hx x1) hp _)) k1 ⟨p,vs,rfl,fun z=>(R.hx x1).domB z hp,ya,uK hp r1⟩⟩
end
end L2
namespace L2
open PySem PySem.Spec PyProof.Rows
def getT:List α→Nat→Option α
 | [],_=>none
 | x::_,0=>some x
 | _::r,n+1=>getT r n
theorem dw:∀(l:List α) (n:Nat),getT l n=l[n]?
 | [],_=>by simp[getT]
 | _::_,0=>by simp[getT]
 | _::r,n+1=>by simp[getT,dw r n]
def atT (ts:List α):Int→Option α
 | .ofNat n=>getT ts n
 | .negSucc n=>if n<ts.length then getT ts (ts.length-1-n) else none
theorem xeF (ts:List α)(i:Int):atT ts i=atI ts i:=by
 unfold atI ixN
 cases i with
 | ofNat n =>
  show getT ts n=_
  rw[dw]
  have h0:(0:Int)≤Int.ofNat n:=xjU n
  rw[if_pos h0]
  by_cases h:(Int.ofNat n)<(ts.length:Int)
  ·rw[if_pos h];rfl
  ·rw[if_neg h]
   have:ts.length≤n:=by
    have h':¬((n:Int)<(ts.length:Int)):=h
    omega
   rw[xkj this];rfl
 | negSucc n =>
  show(if n<ts.length then getT ts (ts.length-1-n) else none)=_
  have h0:¬(0:Int)≤Int.negSucc n:=by omega
  rw[if_neg h0]
  by_cases h:n<ts.length
  ·rw[if_pos h,dw,if_pos (by omega)]
   show ts[ts.length-1-n]? = ts[(Int.negSucc n+(ts.length:Int)).toNat]?
   congr 1
   omega
  ·rw[if_neg h,if_neg (by omega)];rfl
section
variable {K:PySem.W.Frag} {B:FB} {φ:Phi} {σ:St} {τ:TSt} {H H' H'':Hp}
theorem zU.at (r:zU F H ts ws)(h:atT ts i=some t):∃w,atI ws i=some w∧Rep F H t w:=by
 rw[xeF] at h
 unfold atI at h ⊢
 rw[←r.len]
 cases e:ixN ts.length i with
 | none=>rw[e] at h;cases h
 | some j =>
  rw[e] at h
  exact r.getT h
def gW (o:Option Tr)(KK:Tr→Prop):Prop:=match o with | some t=>KK t | none=>False
def fIx (x y:Tr)(KK:Tr→Prop):Prop:=match x,y with | .tup ts,.int i=>gW (atT ts i) KK | .lst ts,.int i=>gW (atT ts i) KK | _,_=>False
theorem w_ (ha:OkE K b ta da)(hb:OkE K c tb db):OkE K b (tOp (rIx K) ta tb) (d2 fIx da db):=fun B φ σ τ H Q KK R hd q =>
 ha B φ σ τ H _ _ R hd fun t v H1 x1 k1 r1=>hb B φ σ τ H1 _ _ (R.hx x1) k1 fun u w H2 x2 k2 r2=>by
  have r1':=x2.rep (fun a s=>R.sB s) r1
  unfold fIx at k2
  split at k2
  ·rename_i ts i
   obtain⟨a,ws,e,n,ha',rl⟩:=r1'
   cases (show w=.int i from r2)
   subst e
   cases e:atT ts i with
   | none=>rw[e] at k2;exact k2.elim
   | some z =>
    rw[e] at k2
    obtain⟨y,e1,e2⟩:=rl.at e
    exact .inr (.inl ⟨a,ws,i,y,rfl,rfl,SqT.of ha',e1,q z y H2 (x1.trans x2) k2 e2⟩)
  ·rename_i ts i
   obtain⟨a,ws,e,n,ha',rl⟩:=r1'
   cases (show w=.int i from r2)
   subst e
   cases e:atT ts i with
   | none=>rw[e] at k2;exact k2.elim
   | some z =>
    rw[e] at k2
    obtain⟨y,e1,e2⟩:=rl.at e
    exact .inl ⟨a,ws,i,y,rfl,rfl,SqL.of ha',e1,q z y H2 (x1.trans x2) k2 e2⟩
  ·exact k2.elim
def xi9 (ts:List Tr)(y:Tr)(KK:Tr→Prop):Prop:=match y with | .int k=>gW (atT ts k) KK | _=>False
def xiz (i:Nat)(db:DE):DE:=fun τ KK=>match nth τ i with | .ow ts=>db τ fun y=>xi9 ts y KK | _=>False
theorem kH (R:RS K B φ σ τ H)(x:HX B φ τ H H')(hi:nth τ i=.ow ts)(e1:σ[i]? = some (some (.ref a))):∃ws,H' a=some (.lst ws)∧zU (Av B φ) H' ts ws∧φ i=some a∧B.H0 a=none:=by
 have en2:=(R.hx x).ent i
 rw[hi] at en2
 obtain⟨a',ws',e1',e2,e3,e4',r'⟩:=en2
 rw[e1] at e1';cases e1'
 exact⟨ws',e4',r',e2,e3⟩
theorem dX (hb:OkE K c tb db):OkE K true (tOp (rIx K) (rz i) tb) (xiz i db):=fun B φ σ τ H Q KK R hd q=>by
 have en:=R.ent i
 unfold xiz at hd
 revert en hd
 cases hi:nth τ i with
 | ow ts =>
  intro hd ⟨a,ws,e1,e2,e3,e4,r⟩
  refine⟨_,e1,hb B φ σ τ H _ _ R hd fun u w H2 x2 k2 r2=>?_⟩
  obtain⟨ws',e4',r',_⟩:=kH R x2 hi e1
  cases u with
  | int k =>
   cases (show w=.int k from r2)
   have k2:gW (atT ts k) KK:=k2
   cases e:atT ts k with
   | none=>rw[e] at k2;exact k2.elim
   | some z =>
    rw[e] at k2
    obtain⟨y,f1,f2⟩:=r'.at e
    exact .inl ⟨a,ws',k,y,rfl,rfl,SqL.of e4',f1,q z y H2 x2 k2 f2⟩
  | _=>exact k2.elim
 | _=>exact fun z _=>z.elim
abbrev DO:=TSt→(Option Int→Prop)→Prop
def OkO (K:PySem.W.Frag)(t:TO)(d:DO):Prop:=∀(B:FB) (φ:Phi) (σ:St) (τ:TSt) (H:Hp) (Q:Option Int→Hp→Prop) (KK:Option Int→Prop),RS K B φ σ τ H→d τ KK→(∀o H',HX B φ τ H H'→KK o→Q o H')→t σ H Q
def cL:DO:=fun _ KK=>KK none
def xfs (d:DE):DO:=fun τ KK=>d τ fun x=>match x with | .int i=>KK (some i) | _=>False
theorem vP:OkO K xca cL:=fun B φ σ τ H Q KK R hd q=>q none H (HX.refl R) hd
theorem qa (h:OkE K b te d):OkO K (xgm te) (xfs d):=fun B φ σ τ H Q KK R hd q =>
 h B φ σ τ H _ _ R hd fun t v H1 x1 k1 r1=>by
  cases t with
  | int i=>cases (show v=.int i from r1);exact⟨i,rfl,q _ H1 x1 k1⟩
  | _=>exact k1.elim
def dU (xs:List α)(lo hi:Option Int):List α:=(xs.drop (HT.sIx xs.length 0 lo)).take (HT.sIx xs.length xs.length hi-HT.sIx xs.length 0 lo)
theorem zU.cut (r:zU F H ts ws)(lo hi:Option Int):zU F H (dU ts lo hi) (l_ ws lo hi):=by
 unfold dU l_
 rw[←r.len]
 exact zL.mpr (jD _ (jy _ (zL.mp r)))
def dSl (d:DE)(dl dh:DO):DE:=fun τ KK=>d τ fun x=>dl τ fun lo=>dh τ fun hi=>match x with | .tup ts=>KK (.tup (dU ts lo hi)) | .lst ts=>KK (.lst (dU ts lo hi)) | _=>False
def xi0 (d:DE)(dl dh:DO):DE:=fun τ KK=>d τ fun x=>dl τ fun lo=>dh τ fun hi=>match x with | .lst ts=>KK (.lst (dU ts lo hi)) | _=>False
theorem xei {b:Bool}{te:TE}{tl th:TO}{d:DE}{dl dh:DO}(h:OkE K b te d)(hl:OkO K tl dl)(hh:OkO K th dh):OkE K b (tSl (xf3 K) te tl th) (xi0 d dl dh):=fun B φ σ τ H Q KK R hd q =>
 h B φ σ τ H _ _ R hd fun t v H1 x1 k1 r1=>hl B φ σ τ H1 _ _ (R.hx x1) k1 fun lo H2 x2 k2=>hh B φ σ τ H2 _ _ (R.hx (x1.trans x2)) k2 fun hi H3 x3 k3=>by
  have r3:=(x2.trans x3).rep (fun a s=>R.sB s) r1
  have x:=(x1.trans x2).trans x3
  cases t with
  | lst ts =>
   obtain⟨a,ws,e,n,ha,rl⟩:=r3
   exact⟨a,ws,e,SqL.of ha,fun p hp=>q _ _ _ (x.trans (HX.new (R.hx x) hp _)) k3 ⟨p,_,rfl,fun z=>(R.hx x).domB z hp,ya,uK hp (rl.cut lo hi)⟩⟩
  | _=>exact k3.elim
def xiP (i:Nat)(dl dh:DO):DE:=fun τ KK=>match nth τ i with | .ow ts=>dl τ fun lo=>dh τ fun hi=>KK (.lst (dU ts lo hi)) | _=>False
theorem xb7 {i:Nat}{tl th:TO}{dl dh:DO}(hl:OkO K tl dl)(hh:OkO K th dh):OkF K (tSl (xf3 K) (rz i) tl th) (xiP i dl dh):=fun B φ σ τ H Q KK R hd q=>by
 have en:=R.ent i
 unfold xiP at hd
 revert en hd
 cases hi:nth τ i with
 | ow ts =>
  intro hd ⟨a,ws,e1,e2,e3,e4,r⟩
  refine⟨_,e1,hl B φ σ τ H _ _ R hd fun lo H2 x2 k2=>hh B φ σ τ H2 _ _ (R.hx x2) k2 fun hi' H3 x3 k3=>?_⟩
  have x:=x2.trans x3
  obtain⟨ws',e4',r',_⟩:=kH R x hi e1
  exact⟨a,ws',rfl,SqL.of e4',fun p hp=>q _ _ _ _ (x.trans (HX.new (R.hx x) hp _)) k3 (x.none hp) ya (kM hp (r'.cut lo hi'))⟩
 | _=>exact fun z _=>z.elim
def xh_ (x y:Tr)(KK:Tr→Prop):Prop:=match x,y with | .lst ts,.lst us=>ts.length+us.length≤sizeLine∧KK (.lst (ts++us)) | _,_=>False
theorem pM (ha:OkE K true ta da)(hb:OkE K true tb db):OkF K (tOp xhu ta tb) (d2 xh_ da db):=fun B φ σ τ H Q KK R hd q =>
 ha B φ σ τ H _ _ R hd fun t v H1 x1 k1 r1=>hb B φ σ τ H1 _ _ (R.hx x1) k1 fun u w H2 x2 k2 r2=>by
  have r1':=x2.rep (F:=Av B φ) (fun a s=>R.sAv s) r1
  have x:=x1.trans x2
  unfold xh_ at k2
  split at k2
  ·rename_i ts us
   obtain⟨a,ws,e,n,ha',rl⟩:=r1'
   obtain⟨a2,ws2,e2,n2,ha2,rl2⟩:=r2
   exact⟨a,a2,ws,ws2,e,e2,ha',ha2,by rw[←rl.len,←rl2.len];exact k2.1,fun p hp=>q _ _ _ _ (x.trans (HX.new (R.hx x) hp _)) k2.2 (x.none hp) ya (kM hp (rl.app rl2))⟩
  ·exact k2.elim
def xiB (x y:Tr)(KK:Tr→Prop):Prop:=match x,y with | .lst ts,.int k=>(0≤k∧k<2 ^ 63)∧ts.length*k.toNat≤sizeLine∧KK (.lst (List.replicate k.toNat ts).flatten) | _,_=>False
theorem m9 (r:zU F H ts ws):∀n:Nat,zU F H (List.replicate n ts).flatten (List.replicate n ws).flatten
 | 0=>rfl
 | n+1=>by
  rw[xk0,xk0,xkc,xkc]
  exact r.app (m9 r n)
theorem xeN (ha:OkE K true ta da)(hb:OkE K c tb db):OkF K (tOp xiG ta tb) (d2 xiB da db):=fun B φ σ τ H Q KK R hd q =>
 ha B φ σ τ H _ _ R hd fun t v H1 x1 k1 r1=>hb B φ σ τ H1 _ _ (R.hx x1) k1 fun u w H2 x2 k2 r2=>by
  have r1':=x2.rep (F:=Av B φ) (fun a s=>R.sAv s) r1
  have x:=x1.trans x2
  unfold xiB at k2
  split at k2
  ·rename_i ts k
   obtain⟨a,ws,e,n,ha',rl⟩:=r1'
   exact⟨a,k,ws,e,r2,ha',by have:=k2.1.1;omega,k2.1.2,by rw[←rl.len];exact k2.2.1,fun p hp=>q _ _ _ _ (x.trans (HX.new (R.hx x) hp _)) k2.2.2 (x.none hp) ya (kM hp (m9 rl _))⟩
  ·exact k2.elim
def dCB (f:List Tr→(Tr→Prop)→Prop)(da:DA):DE:=fun τ KK=>da τ fun xs=>f xs KK
def CbS (r:List V→Hp→VK→Prop)(f:List Tr→(Tr→Prop)→Prop):Prop:=∀(F:Addr→Prop) (H:Hp) (vs:List V) (ts:List Tr) (KK:Tr→Prop) (Q:VK),zU F H ts vs→f ts KK→(∀w v,xao w=some v→KK w→Q v H)→r vs H Q
theorem yG (hr:CbS r f)(ha:OkA K b n ta da):OkE K true (tCB r ta) (dCB f da):=fun B φ σ τ H Q KK R hd q =>
 ha B φ σ τ H _ _ R hd fun ts vs H1 x1 k1 l1 r1=>hr _ H1 vs ts KK Q r1 k1 fun w v e k=>q w v H1 x1 k (qm e)
theorem dq (h:zU F H [t] vs):∃v,vs=[v]∧Rep F H t v:=by
 obtain⟨w,r,e,h1,h2⟩:=h
 cases (show r=[] from h2)
 exact⟨w,e,h1⟩
theorem xbH (h:zU F H [t,u] vs):∃v w,vs=[v,w]∧Rep F H t v∧Rep F H u w:=by
 obtain⟨w,r,e,h1,h2⟩:=h
 obtain⟨w',e',h3⟩:=dq h2
 subst e'
 exact⟨w,w',e,h1,h3⟩
def xiu (xs:List Tr)(KK:Tr→Prop):Prop:=match xs with | [.tup ts]=>KK (.int ts.length) | [.lst ts]=>KK (.int ts.length) | _=>False
theorem we:CbS (xff K) xiu:=by
 intro F H vs ts KK Q r hf q
 unfold xiu at hf
 split at hf
 ·rename_i ts
  obtain⟨v,rfl,a,ws,e,n,ha,rl⟩:=dq r
  exact⟨a,ws,by rw[e],.inr (SqT.of ha),by rw[←rl.len];exact q _ _ rfl hf⟩
 ·rename_i ts
  obtain⟨v,rfl,a,ws,e,n,ha,rl⟩:=dq r
  exact⟨a,ws,by rw[e],.inl (SqL.of ha),by rw[←rl.len];exact q _ _ rfl hf⟩
 ·exact hf.elim
def xik (xs:List Tr)(KK:Tr→Prop):Prop:=match xs with | [.int i]=>KK (.int (if i<0 then -i else i)) | _=>False
theorem jY:CbS (fun xs H Q=>∃i,xs=[.int i]∧Q (.int (if i<0 then -i else i)) H) xik:=by
 intro F H vs ts KK Q r hf q
 unfold xik at hf
 split at hf
 ·rename_i i
  obtain⟨v,rfl,e⟩:=dq r
  cases (show v=.int i from e)
  exact⟨i,rfl,q _ _ rfl hf⟩
 ·exact hf.elim
def xgl (xs:List Tr)(KK:Tr→Prop):Prop:=match xs with | [.int i,.int j]=>KK (.int (if j>i then j else i)) | _=>False
theorem xeS:CbS (fun xs H Q=>∃i j,xs=[.int i,.int j]∧Q (.int (if j>i then j else i)) H) xgl:=by
 intro F H vs ts KK Q r hf q
 unfold xgl at hf
 split at hf
 ·rename_i i j
  obtain⟨v,w,rfl,e,e'⟩:=xbH r
  cases (show v=.int i from e);cases (show w=.int j from e')
  exact⟨i,j,rfl,q _ _ rfl hf⟩
 ·exact hf.elim
def xgY (xs:List Tr)(KK:Tr→Prop):Prop:=match xs with | [.int i,.int j]=>KK (.int (if j<i then j else i)) | _=>False
theorem xfq:CbS (fun xs H Q=>∃i j,xs=[.int i,.int j]∧Q (.int (if j<i then j else i)) H) xgY:=by
 intro F H vs ts KK Q r hf q
 unfold xgY at hf
 split at hf
 ·rename_i i j
  obtain⟨v,w,rfl,e,e'⟩:=xbH r
  cases (show v=.int i from e);cases (show w=.int j from e')
  exact⟨i,j,rfl,q _ _ rfl hf⟩
 ·exact hf.elim
theorem fY:∀ {ns:List Int} {ws:List V},zU F H (ns.map Tr.int) ws→ws=ns.map V.int
 | [],_,h=>h
 | n::ns,_,⟨w,r,e,h1,h2⟩=>by
  cases (show w=.int n from h1)
  rw[e,fY h2];rfl
theorem ot:∀ {ns:List Bool} {ws:List V},zU F H (ns.map Tr.bl) ws→ws=ns.map V.bl
 | [],_,h=>h
 | n::ns,_,⟨w,r,e,h1,h2⟩=>by
  cases (show w=.bl n from h1)
  rw[e,ot h2];rfl
def xh5 (xs:List Tr)(KK:Tr→Prop):Prop:=∃bs:List Bool,xs=[.lst (bs.map Tr.bl)]∧KK (.bl (bs.all id))
theorem mB:CbS (xfP K) xh5:=by
 intro F H vs ts KK Q r hf q
 obtain⟨ns,rfl,h1⟩:=hf
 obtain⟨v,rfl,a,ws,e,n,ha,rl⟩:=dq r
 rw[ot rl] at ha
 exact⟨a,ns,by rw[e],SqL.of ha,q _ _ rfl h1⟩
def tyT:Tr→String
 | .non => "NoneType" | .bl _ => "bool" | .int _ => "int" | .str _ => "str" | .emp => "dict" | .tup _ => "tuple" | .lst _ => "list"
theorem xgd (r:Rep F H t v):tyN H v=some (tyT t):=by
 cases t with
 | non=>cases (show v=.non from r);rfl
 | bl b=>cases (show v=.bl b from r);rfl
 | int b=>cases (show v=.int b from r);rfl
 | str b=>cases (show v=.str b from r);rfl
 | emp=>obtain⟨a,e,_,h⟩:=r;subst e;simp only[tyN,h,tyT]
 | tup ts=>obtain⟨a,ws,e,_,h,_⟩:=r;subst e;simp only[tyN,h,tyT]
 | lst ts=>obtain⟨a,ws,e,_,h,_⟩:=r;subst e;simp only[tyN,h,tyT]
def xip (c:String)(t:Tr):Bool:=match c,t with
 | "int", .int _=>true | "int", .bl _=>true | "bool", .bl _=>true | "str", .str _=>true | "tuple", .tup _=>true | "list", .lst _=>true | "dict", .emp=>true | _,_=>false
theorem xe0 (h:c∈gc)(t:Tr):xeM (tyT t) c=xip c t:=by
 simp only[gc,xkJ,xkY,xly] at h
 rcases h with rfl | rfl | rfl | rfl | rfl | rfl<;>cases t<;>rfl
def xjl (c:String)(d:DE):DE:=fun τ KK=>d τ fun x=>KK (.bl (xip c x))
theorem kX (h:OkE K b te d)(hc:c∈gc:=by decide):OkE K true (tCB xiq (vJ te (vJ (tC (.ty c)) xab))) (xjl c d):=fun B φ σ τ H Q KK R hd q =>
 h B φ σ τ H _ _ R hd fun t v H1 x1 k1 r1=>⟨v,c,tyT t,rfl,xgd r1,hc,by rw[xe0 hc];exact q _ _ H1 x1 k1 rfl⟩
def xeE (xs:List Tr)(KK:Tr→Prop):Prop:=match xs with | [.tup ts]=>KK (.tup ts) | [.lst ts]=>KK (.tup ts) | _=>False
theorem tu (ha:OkA K b n ta da):OkE K b (tCB (xeI K) ta) (dCB xeE da):=fun B φ σ τ H Q KK R hd q =>
 ha B φ σ τ H _ _ R hd fun ts vs H1 x1 k1 l1 r1=>by
  unfold xeE at k1
  split at k1
  ·rename_i ts
   obtain⟨v,rfl,r⟩:=dq r1
   obtain⟨a,ws,e,n,ha,rl⟩:=id r
   exact⟨a,ws,by rw[e],.inr ⟨SqT.of ha,by rw[←e];exact q _ _ H1 x1 k1 r⟩⟩
  ·rename_i ts
   obtain⟨v,rfl,a,ws,e,n,ha,rl⟩:=dq r1
   exact⟨a,ws,by rw[e],.inl ⟨SqL.of ha,fun p hp=>q _ _ _ (x1.trans (HX.new (R.hx x1) hp _)) k1 ⟨p,_,rfl,fun z=>(R.hx x1).domB z hp,ya,uK hp rl⟩⟩⟩
  ·exact k1.elim
def xgL (i:Nat):DE:=fun τ KK=>match nth τ i with | .ow ts=>KK (.tup ts) | _=>False
theorem xaZ:OkE K true (tCB (xeI K) (vJ (rz i) xab)) (xgL i):=fun B φ σ τ H Q KK R hd q=>by
 have en:=R.ent i
 unfold xgL at hd
 revert en hd
 cases hi:nth τ i with
 | ow ts =>
  intro hd ⟨a,ws,e1,e2,e3,e4,r⟩
  exact⟨_,e1,a,ws,rfl,.inl ⟨SqL.of e4,fun p hp=>q _ _ _ (HX.new R hp _) hd ⟨p,_,rfl,fun z=>R.dom z hp,ya,uK hp r⟩⟩⟩
 | _=>exact fun z _=>z.elim
def xd4 (i:Nat):DE:=fun τ KK=>match nth τ i with | .sc ns=>ns.length≤63→KK (.int ns.length) | _=>False
theorem xdM:OkE K true (tCB (xff K) (vJ (rz i) xab)) (xd4 i):=fun B φ σ τ H Q KK R hd q=>by
 have en:=R.ent i
 unfold xd4 at hd
 revert en hd
 cases hi:nth τ i with
 | sc ns =>
  intro hd ⟨a,e,l,so,_⟩
  have sq:SqL K H a (ns.map V.int):=by
   rcases so with ⟨o,h⟩ | h
   ·exact .inl (.inr ⟨o,h⟩)
   ·exact h H
  refine⟨_,e,a,_,rfl,.inl sq,?_⟩
  rw[xkv]
  exact q _ _ H (HX.refl R) (hd l) rfl
 | _=>exact fun z _=>z.elim
def xh4:DE:=fun _ KK=>KK .emp
theorem xfc:OkE K true xgJ xh4:=fun B φ σ τ H Q KK R hd q=>fun p hp=>q _ _ _ (HX.new R hp _) hd ⟨p,rfl,fun z=>R.dom z hp,ya⟩
end
end L2
namespace L2
open PySem PySem.Spec PyProof.Rows
abbrev TSp:=List Tr→(Tr→Prop)→Prop
def spT (n:Nat)(st fr:Bool)(sp:TSp):Sp:=fun vs H Q _=>∃(F S:Addr→Prop) (ts:List Tr) (KK:Tr→Prop) (us:List V),
 (match st with | true=>∃p,vs=.ref p::us∧S p | false=>vs=us)∧(∀a,F a→H a≠none)∧(∀a,S a→F a)∧(∀a,S a→b_ a H)∧zU F H ts us∧ts.length=n∧sp ts KK ∧
 ∀t v H',KK t→(∀a o,H a=some o→¬S a→H' a=some o)→(∀a,S a→b_ a H')→Rep F H' t v→(fr=true→FrL F H H' t v)→Q v H'
def xdm (sp:TSp)(da:DA):DE:=fun τ KK=>da τ fun ts=>sp ts KK
def xd7 (i:Nat)(sp:TSp)(da:DA):DE:=fun τ KK=>match nth τ i with | .st=>da τ fun ts=>sp ts KK | _=>False
section
variable {K:PySem.W.Frag} {B:FB} {φ:Phi} {σ:St} {τ:TSt} {H H' H'':Hp}
theorem xt (ha:OkA K b n ta da):OkE K b (xg_ (spT n false fr sp) ta) (xdm sp da):=fun B φ σ τ H Q KK R hd q =>
 ha B φ σ τ H _ _ R hd fun ts vs H1 x1 k1 l1 r1=>⟨AvB b B φ τ,SA B φ τ,ts,KK,vs,rfl,fun a z=>(R.hx x1).domB z,fun a z=>R.sB z,x1.st,r1,l1,k1,fun t v H' k e s r _=>q t v H' (x1.trans ⟨e,s⟩) k r⟩
theorem xbl (ha:OkA K true n ta da):OkF K (xg_ (spT n false true sp) ta) (xdm sp da):=fun B φ σ τ H Q KK R hd q =>
 ha B φ σ τ H _ _ R hd fun ts vs H1 x1 k1 l1 r1=>⟨Av B φ,SA B φ τ,ts,KK,vs,rfl,fun a z=>(R.hx x1).dom z,fun a z=>R.sAv z,x1.st,r1,l1,k1,fun t v H' k e s r f=>by
  obtain⟨a,ts',ws,rfl,rfl,h1,h2,h3⟩:=f rfl
  exact q ts' a ws H' (x1.trans ⟨e,s⟩) k (x1.none h1) h2 h3⟩
theorem zi (ha:OkA K b n ta da):OkE K b (xg_ (spT n true fr sp) (vJ (rz i) ta)) (xd7 i sp da):=fun B φ σ τ H Q KK R hd q=>by
 have en:=R.ent i
 unfold xd7 at hd
 revert en hd
 cases hi:nth τ i with
 | st =>
  intro hd ⟨p,e1,e2,e3⟩
  exact⟨_,e1,ha B φ σ τ H _ _ R hd fun ts vs H1 x1 k1 l1 r1=>⟨AvB b B φ τ,SA B φ τ,ts,KK,vs,⟨p,rfl,.inr ⟨i,e2,hi⟩⟩,fun a z=>(R.hx x1).domB z,fun a z=>R.sB z,x1.st,r1,l1,k1,fun t v H' k e s r _=>q t v H' (x1.trans ⟨e,s⟩) k r⟩⟩
 | _=>exact fun z _=>z.elim
def Phi.del (φ:Phi)(i:Nat):Phi:=fun j=>if j=i then none else φ j
def Phi.put (φ:Phi)(i:Nat)(a:Addr):Phi:=fun j=>if j=i then some a else φ j
theorem ug (h:φ.del i j=some a):j≠i∧φ j=some a:=by
 unfold Phi.del at h
 by_cases e:j=i
 ·rw[if_pos e] at h;cases h
 ·rw[if_neg e] at h;exact⟨e,h⟩
theorem xeC (h:j≠i):φ.del i j=φ j:=if_neg h
theorem vV (h:φ.put i a j=some c):(j=i∧c=a)∨(j≠i∧φ j=some c):=by
 unfold Phi.put at h
 by_cases e:j=i
 ·rw[if_pos e] at h;cases h;exact .inl ⟨e,rfl⟩
 ·rw[if_neg e] at h;exact .inr ⟨e,h⟩
theorem oD:φ.put i a i=some a:=if_pos rfl
theorem xg6 (h:j≠i):φ.put i a j=φ j:=if_neg h
theorem k6 (h:Av B (φ.del i) a):Av B φ a:=by
 rcases h with h | ⟨j,h⟩
 ·exact .inl h
 ·exact .inr ⟨j,(ug h).2⟩
theorem fL (h:Ent K B φ H i o x)(hφ:φ' i=φ i)(hr:∀t v,Rep (Av B φ) H t v→Rep (Av B φ') H' t v)(hrl:∀t v,zU (Av B φ) H t v→zU (Av B φ') H' t v)
  (hl:∀a ws ts,x=.ow ts→φ i=some a→H a=some (.lst ws)→H' a=some (.lst ws)) (hs:∀a ns,xdB K H a ns→xdB K H' a ns):Ent K B φ' H' i o x:=by
 cases x with
 | un=>trivial
 | fz t=>obtain⟨v,e,r⟩:=h;exact⟨v,e,hr t v r⟩
 | ow ts=>obtain⟨a,ws,e1,e2,e3,e4,r⟩:=h;exact⟨a,ws,e1,hφ.trans e2,e3,hl a ws ts rfl e2 e4,hrl _ _ r⟩
 | st=>obtain⟨p,e1,e2,e3⟩:=h;exact⟨p,e1,hφ.trans e2,e3⟩
 | sc ns=>obtain⟨a,e,l,q⟩:=h;exact⟨a,e,l,hs a ns q⟩
 | ob a=>exact h
theorem RS.setFz (R:RS K B φ σ τ H)(r:Rep (Av B φ) H t v):RS K B (φ.del i) (σ.set i (some v)) (τ.set i (.fz t)) H where
 f0:=R.f0
 s0:=R.s0
 ext:=R.ext
 sst:=fun a s=>by
  rcases s with s | ⟨j,s,hj⟩
  ·exact R.sst a (.inl s)
  ·obtain⟨hne,s'⟩:=ug s
   rw[yN hne] at hj
   exact R.sst a (.inr ⟨j,s',hj⟩)
 inj:=fun j k a ts hj e1 e2=>by
  obtain⟨hne,e1⟩:=ug e1
  rw[yN hne] at hj
  exact R.inj j k a ts hj e1 (ug e2).2
 ow:=fun j a e=>R.ow j a (ug e).2
 len:=by rw[xky,xky];exact R.len
 ent:=fun j=>by
  have mono:∀t v,Rep (Av B φ) H t v→Rep (Av B (φ.del i)) H t v:=fun t v=>yD (fun a o e n=>⟨e,fun z=>n (k6 z)⟩) t v
  by_cases e:j=i
  ·subst e
   by_cases hl:j<τ.length
   ·rw[zH hl]
    exact⟨v,by rw[xko (by rw[R.len];exact hl)],mono _ _ r⟩
   ·rw[ur (by rw[xky];omega)];trivial
  ·rw[yN e,xkn (Ne.symm e)]
   exact fL (R.ent j) (xeC e) mono (fun t v=>yo (fun a o e n=>⟨e,fun z=>n (k6 z)⟩) t v) (fun _ _ _ _ _ z=>z) fun _ _ z=>z
 gh:=fun p hp=>yD (fun a o e n=>⟨e,fun z=>n (k6 z)⟩) _ _ (R.gh p hp)
theorem RS.setNew (R:RS K B φ σ τ H)(hx:HX B φ τ H H')(ha:H a=none)(ha':H' a≠none)(hst:x=.st→b_ a H')
  (hen:Ent K B (φ.put i a) H' i (some (some (.ref a))) x):RS K B (φ.put i a) (σ.set i (some (.ref a))) (τ.set i x) H':=by
 have R':=R.hx hx
 have nav:∀c,c≠a→Av B (φ.put i a) c→Av B φ c:=fun c hc z=>by
  rcases z with z | ⟨j,z⟩
  ·exact .inl z
  ·rcases vV z with ⟨_,e⟩ | ⟨_,e⟩
   ·exact absurd e hc
   ·exact .inr ⟨j,e⟩
 have mv:∀c o,H c=some o→¬Av B φ c→H' c=some o∧¬Av B (φ.put i a) c:=fun c o e n=>⟨hx.keep c o e fun s=>n (R.sAv s),fun z=>n (nav c (xK e ha) z)⟩
 refine⟨R.f0,R.s0,R'.ext,fun c s=>?_,fun j k c ts hj e1 e2=>?_,fun j c e=>?_,?_,fun j=>?_,fun p hp=>yD mv _ _ (R.gh p hp)⟩
 ·rcases s with s | ⟨j,s,hj⟩
  ·exact R'.sst c (.inl s)
  ·rcases vV s with ⟨rfl,rfl⟩ | ⟨hne,s'⟩
   ·by_cases hl:j<τ.length
    ·rw[zH hl] at hj
     exact hst hj
    ·rw[ur (by rw[xky];omega)] at hj;cases hj
   ·rw[yN hne] at hj
    exact R'.sst c (.inr ⟨j,s',hj⟩)
 ·have key:∀j:Nat,φ j=some a→False:=fun j e=>R.ow j a e ha
  rcases vV e1 with ⟨z1,z2⟩ | ⟨n1,f1⟩
  ·rcases vV e2 with ⟨z3,_⟩ | ⟨n2,f2⟩
   ·rw[z1,z3]
   ·exact(key k (by rw[←z2];exact f2)).elim
  ·rcases vV e2 with ⟨z3,z4⟩ | ⟨n2,f2⟩
   ·exact(key j (by rw[←z4];exact f1)).elim
   ·rw[yN n1] at hj
    exact R.inj j k c ts hj f1 f2
 ·rcases vV e with ⟨_,rfl⟩ | ⟨_,e⟩
  ·exact ha'
  ·exact R'.ow j c e
 ·rw[xky,xky];exact R.len
 ·by_cases e:j=i
  ·subst e
   by_cases hl:j<τ.length
   ·rw[zH hl,xko (by rw[R.len];exact hl)]
    exact hen
   ·rw[ur (by rw[xky];omega)];trivial
  ·rw[yN e,xkn (Ne.symm e)]
   refine fL (R.ent j) (xg6 e) (fun t v=>yD mv t v) (fun t v=>yo mv t v) (fun c ws ts hj e1 e2=>?_) fun c ns z=>?_
   ·refine hx.keep c _ e2 fun s=>?_
    rcases s with s | ⟨k,s,hk⟩
    ·have en:=R.ent j
     rw[hj] at en
     obtain⟨a',ws',_,q2,q3,_⟩:=en
     rw[e1] at q2;cases q2
     exact R.f0 c (R.s0 c s) q3
    ·have:=R.inj j k c ts hj e1 s
     subst this
     rw[hj] at hk;cases hk
   ·refine⟨?_,z.2.hx R hx⟩
    rcases z.1 with ⟨o,z⟩ | z
    ·exact .inl ⟨o,hx.keep c _ z (rK R z)⟩
    ·exact .inr z
theorem RS.wrOw (R:RS K B φ σ τ H)(hi:nth τ i=.ow ts)(e1:σ[i]? = some (some (.ref a)))(r:zU (Av B φ) H ts' ws'):RS K B φ σ (τ.set i (.ow ts')) (upd H a (.lst ws')):=by
 have en:=R.ent i
 rw[hi] at en
 obtain⟨a',ws,e1',e2,e3,e4,_⟩:=en
 rw[e1] at e1';cases e1'
 have hl:i<τ.length:=by
  by_cases h:i<τ.length
  ·exact h
  ·rw[ur (by omega)] at hi;cases hi
 have mv:∀c o,H c=some o→¬Av B φ c→(upd H a (.lst ws')) c=some o∧¬Av B φ c:=fun c o e n=>⟨by rw[xY (fun z=>n (by rw[z];exact .inr ⟨i,e2⟩))];exact e,n⟩
 have nsa:∀c,SA B φ (τ.set i (.ow ts')) c→SA B φ τ c∧c≠a:=fun c s=>by
  rcases s with s | ⟨j,s,hj⟩
  ·exact⟨.inl s,fun z=>R.f0 a (R.s0 a (z▸s)) e3⟩
  ·by_cases e:j=i
   ·subst e
    rw[zH hl] at hj;cases hj
   ·rw[yN e] at hj
    exact⟨.inr ⟨j,s,hj⟩,fun z=>e (R.inj i j a ts hi e2 (z▸s)).symm⟩
 refine⟨R.f0,R.s0,fun c o e n=>?_,fun c s=>?_,fun j k c us hj f1 f2=>?_,fun j c e=>?_,by rw[xky];exact R.len,fun j=>?_,fun p hp=>yD mv _ _ (R.gh p hp)⟩
 ·rw[xY (xK e e3)];exact R.ext c o e n
 ·obtain⟨s',hne⟩:=nsa c s
  obtain⟨n,b,q,z⟩:=R.sst c s'
  exact⟨n,b,by rw[xY hne];exact q,z⟩
 ·by_cases e:j=i
  ·subst e;exact R.inj j k c ts hi f1 f2
  ·rw[yN e] at hj
   exact R.inj j k c us hj f1 f2
 ·by_cases z:c=a
  ·rw[z,ya];exact fun z=>nomatch z
  ·rw[xY z];exact R.ow j c e
 ·by_cases e:j=i
  ·subst e
   rw[zH hl]
   exact⟨a,ws',e1,e2,e3,ya,yo mv _ _ r⟩
  ·rw[yN e]
   refine fL (R.ent j) rfl (fun t v=>yD mv t v) (fun t v=>yo mv t v) (fun c us vs hj f1 f2=>?_) fun c ns z=>?_
   ·rw[xY (fun(z:c=a)=>e (R.inj i j a ts hi e2 (by rw[←z];exact f1)).symm)];exact f2
   ·refine⟨?_,fun P q h=>by rw[xY (xga (z.2 P q h) e4 (fun q=>nomatch q))];exact z.2 P q h⟩
    rcases z.1 with ⟨o,z⟩ | z
    ·exact .inl ⟨o,by rw[xY (xga z e4 (fun q=>nomatch q))];exact z⟩
    ·exact .inr z
theorem RS.freeze (R:RS K B φ σ τ H)(hi:nth τ i=.ow ts):RS K B (φ.del i) σ (τ.set i (.fz (.lst ts))) H:=by
 have en:=R.ent i
 rw[hi] at en
 obtain⟨a,ws,e1,e2,e3,e4,r⟩:=en
 have hl:i<τ.length:=by
  by_cases h:i<τ.length
  ·exact h
  ·rw[ur (by omega)] at hi;cases hi
 have na:¬Av B (φ.del i) a:=fun z=>by
  rcases z with z | ⟨j,z⟩
  ·exact R.f0 a z e3
  ·obtain⟨n,z⟩:=ug z
   exact n (R.inj i j a ts hi e2 z).symm
 refine⟨R.f0,R.s0,R.ext,fun c s=>?_,fun j k c us hj f1 f2=>?_,fun j c e=>R.ow j c (ug e).2,by rw[xky];exact R.len,fun j=>?_,fun p hp=>yD (fun a o e n=>⟨e,fun z=>n (k6 z)⟩) _ _ (R.gh p hp)⟩
 ·rcases s with s | ⟨j,s,hj⟩
  ·exact R.sst c (.inl s)
  ·obtain⟨hne,s'⟩:=ug s
   rw[yN hne] at hj
   exact R.sst c (.inr ⟨j,s',hj⟩)
 ·obtain⟨hne,f1⟩:=ug f1
  rw[yN hne] at hj
  exact R.inj j k c us hj f1 (ug f2).2
 ·by_cases e:j=i
  ·subst e
   rw[zH hl]
   exact⟨.ref a,e1,a,ws,rfl,na,e4,yo (fun a o e n=>⟨e,fun z=>n (k6 z)⟩) _ _ r⟩
  ·rw[yN e]
   exact fL (R.ent j) (xeC e) (fun t v=>yD (fun a o e n=>⟨e,fun z=>n (k6 z)⟩) t v) (fun t v=>yo (fun a o e n=>⟨e,fun z=>n (k6 z)⟩) t v) (fun _ _ _ _ _ z=>z) fun _ _ z=>z
def OkN (K:PySem.W.Frag)(g:TG)(d:DG):Prop:=∀(B:FB) (φ:Phi) (σ:St) (τ:TSt) (H:Hp) (F:Addr→Prop) (t:Tr) (v:V) (Q:St→Hp→Prop) (KK:TSt→Prop),RS K B φ σ τ H→(∀a,Av B φ a→F a)→Rep F H t v→d t τ KK →
 (∀ φ' σ' τ',RS K B φ' σ' τ' H→(∀a,Av B φ' a→Av B φ a)→KK τ'→Q σ' H)→g v σ H Q
def xf6 (K:PySem.W.Frag)(g:TGs)(d:DGs):Prop:=∀(B:FB) (φ:Phi) (σ:St) (τ:TSt) (H:Hp) (F:Addr→Prop) (t:List Tr) (v:List V) (Q:St→Hp→Prop) (KK:TSt→Prop),RS K B φ σ τ H→(∀a,Av B φ a→F a)→zU F H t v→d t τ KK →
 (∀ φ' σ' τ',RS K B φ' σ' τ' H→(∀a,Av B φ' a→Av B φ a)→KK τ'→Q σ' H)→g v σ H Q
def eName (i:Nat):DG:=fun t τ KK=>KK (τ.set i (.fz t))
def xhG:DGs:=fun ts τ KK=>match ts with | []=>KK τ | _=>False
def xcO (d:DG)(r:DGs):DGs:=fun ts τ KK=>match ts with | t::us=>d t τ fun τ'=>r us τ' KK | []=>False
def xiw (n:Nat)(d:DGs):DG:=fun t τ KK=>match t with | .tup ts=>ts.length=n∧d ts τ KK | _=>False
theorem xk:OkN K (dz i) (eName i):=fun B φ σ τ H F t v Q KK R hF r hd q =>
 q (φ.del i) _ _ (R.setFz (yD (fun a o e n=>⟨e,fun z=>n (hF a z)⟩) _ _ r)) (fun a z=>k6 z) hd
theorem x_:xf6 K xhx xhG:=fun B φ σ τ H F t v Q KK R hF r hd q=>by
 cases t with
 | nil=>exact⟨r,q φ σ τ R (fun _ z=>z) hd⟩
 | cons _ _=>exact hd.elim
theorem xl (h:OkN K g d)(hs:xf6 K gs ds):xf6 K (xdr g gs) (xcO d ds):=fun B φ σ τ H F t v Q KK R hF r hd q=>by
 cases t with
 | nil=>exact hd.elim
 | cons t ts =>
  obtain⟨w,r',e,h1,h2⟩:=r
  exact⟨w,r',e,h B φ σ τ H F t w _ _ R hF h1 hd fun φ' σ' τ' R' ha k=>hs B φ' σ' τ' H F ts r' Q KK R' (fun a z=>hF a (ha a z)) h2 k fun φ2 σ2 τ2 R2 ha2 k2=>q φ2 σ2 τ2 R2 (fun a z=>ha a (ha2 a z)) k2⟩
theorem yn (h:xf6 K gs ds):OkN K (xhm K n gs) (xiw n ds):=fun B φ σ τ H F t v Q KK R hF r hd q=>by
 cases t with
 | tup ts =>
  obtain⟨a,ws,e,n,ha,rl⟩:=r
  exact⟨a,ws,e,SqT.of ha,by rw[←rl.len];exact hd.1,h B φ σ τ H F ts ws Q KK R hF rl hd.2 q⟩
 | _=>exact hd.elim
theorem OkN.g {g:TG}{d:DG}(h:OkN K g d):OkG K g d:=fun B φ σ τ H t v Q KK R r hd q=>h B φ σ τ H (Av B φ) t v Q KK R (fun _ z=>z) r hd fun φ' σ' τ' R' ha k=>q φ' σ' τ' H R' ha (fun _ _ e _=>e) k
def xhi (ts:List Tr)(t:Tr):Int→Option (List Tr)
 | .ofNat n=>if n<ts.length then some (ts.set n t) else none
 | .negSucc n=>if n<ts.length then some (ts.set (ts.length-1-n) t) else none
def xht (i:Nat)(di:DE):DG:=fun t τ KK=>match nth τ i with
 | .ow ts=>di τ fun y=>match y with | .int k=>(match xhi ts t k with | some us=>KK (τ.set i (.ow us)) | none=>False) | _=>False
 | _=>False
theorem xfw (h:xhi ts t k=some us):∃j,ixN ts.length k=some j∧us=ts.set j t:=by
 unfold ixN
 cases k with
 | ofNat n =>
  have h:(if n<ts.length then some (ts.set n t) else none)=some us:=h
  by_cases hn:n<ts.length
  ·rw[if_pos hn] at h;cases h
   refine⟨n,?_,rfl⟩
   have h0:(0:Int)≤Int.ofNat n:=xjU n
   have h1:Int.ofNat n<(ts.length:Int):=Int.ofNat_lt.mpr hn
   rw[if_pos h0,if_pos h1];rfl
  ·rw[if_neg hn] at h;cases h
 | negSucc n =>
  have h:(if n<ts.length then some (ts.set (ts.length-1-n) t) else none)=some us:=h
  by_cases hn:n<ts.length
  ·rw[if_pos hn] at h;cases h
   refine⟨ts.length-1-n,?_,rfl⟩
   rw[if_neg (by omega),if_pos (by omega)]
   congr 1;omega
  ·rw[if_neg hn] at h;cases h
theorem oY (r:Rep F H t v):∀ {ts:List Tr} {ws:List V} (j:Nat),zU F H ts ws→zU F H (ts.set j t) (ws.set j v)
 | [],_,_,h=>by cases (show _=[] from h);exact rfl
 | _::_,_,0,⟨w,r',e,h1,h2⟩=>⟨v,r',by rw[e];rfl,r,h2⟩
 | _::ts,_,j+1,⟨w,r',e,h1,h2⟩=>⟨w,r'.set j v,by rw[e];rfl,h1,oY r j h2⟩
theorem p6 (h:OkE K b ti di):OkG K (xiC (rz i) ti xg4) (xht i di):=fun B φ σ τ H t v Q KK R r hd q=>by
 have en:=R.ent i
 unfold xht at hd
 revert en hd
 cases hi:nth τ i with
 | ow ts =>
  intro hd ⟨a,ws,e1,e2,e3,e4,r0⟩
  refine⟨_,e1,h B φ σ τ H _ _ R hd fun u w H1 x1 k1 r1=>?_⟩
  obtain⟨ws',f4,f5,_⟩:=kH R x1 hi e1
  cases u with
  | int k =>
   cases (show w=.int k from r1)
   cases e:xhi ts t k with
   | none=>simp only[e] at k1
   | some us =>
    simp only[e] at k1
    obtain⟨j,hj,rfl⟩:=xfw e
    refine⟨a,ws',k,j,rfl,rfl,f4,by rw[←f5.len];exact hj,?_⟩
    exact q φ σ _ _ ((R.hx x1).wrOw hi e1 (oY (x1.rep (fun a s=>R.sAv s) r) j f5)) (fun _ z=>z) (fun c o e n=>by rw[xY (fun z=>n (by rw[z];exact .inr ⟨i,e2⟩))];exact x1.keep c o e fun s=>n (R.sAv s)) k1
  | _=>exact k1.elim
 | _=>exact fun z _=>z.elim
theorem xdi:xhv K xhx xhG:=fun B φ σ τ H t v Q KK R r hd q=>by
 cases t with
 | nil=>exact⟨r,q φ σ τ H R (fun _ z=>z) (fun _ _ e _=>e) hd⟩
 | cons _ _=>exact hd.elim
theorem nN (h:OkG K g d)(hs:xhv K gs ds):xhv K (xdr g gs) (xcO d ds):=fun B φ σ τ H t v Q KK R r hd q=>by
 cases t with
 | nil=>exact hd.elim
 | cons t ts =>
  obtain⟨w,r',e,h1,h2⟩:=r
  exact⟨w,r',e,h B φ σ τ H t w _ _ R h1 hd fun φ' σ' τ' H' R' ha hx k=>hs B φ' σ' τ' H' ts r' Q KK R' (yo (fun a o e n=>⟨hx a o e n,fun z=>n (ha a z)⟩) _ _ h2) k fun φ2 σ2 τ2 H2 R2 ha2 hx2 k2 =>
   q φ2 σ2 τ2 H2 R2 (fun a z=>ha a (ha2 a z)) (fun a o e n=>hx2 a o (hx a o e n) fun z=>n (ha a z)) k2⟩
theorem xfb (h:xhv K gs ds):OkG K (xhm K n gs) (xiw n ds):=fun B φ σ τ H t v Q KK R r hd q=>by
 cases t with
 | tup ts =>
  obtain⟨a,ws,e,n,ha,rl⟩:=r
  exact⟨a,ws,e,SqT.of ha,by rw[←rl.len];exact hd.1,h B φ σ τ H ts ws Q KK R rl hd.2 q⟩
 | _=>exact hd.elim
def xhd:DS:=fun G τ=>G.nx τ
def xgX (a b:DS):DS:=fun G τ=>a { G with nx:=b G } τ
def xhe:DS:=fun _ _=>False
def xhy (d:DE):DS:=fun G τ=>d τ G.rt
def sIf (c:DT)(a b:DS):DS:=fun G τ=>c τ fun k=>if k=true then a G τ else b G τ
def xho (i:Nat)(d:DE):DS:=fun G τ=>d τ fun t=>G.nx (τ.set i (.fz t))
def xie (i:Nat)(d:DE):DS:=fun G τ=>d τ fun t=>match t with | .lst ts=>G.nx (τ.set i (.ow ts)) | _=>False
def xjk (d:DE)(g:DG):DS:=fun G τ=>d τ fun t=>g t τ G.nx
def xje (i j:Nat)(d:DA):DS:=fun G τ=>d τ fun ts=>match ts with | [t,u]=>G.nx ((τ.set i (.fz t)).set j (.fz u)) | _=>False
def xhE (d:DE):DS:=fun G τ=>d τ fun _=>G.nx τ
def xiv (i:Nat)(d:DE):DS:=fun G τ=>match nth τ i with | .ow ts=>d τ fun t=>ts.length<sizeLine∧G.nx (τ.set i (.ow (ts++[t]))) | _=>False
def xit (i:Nat)(a:DS):DS:=fun G τ=>match nth τ i with | .ow ts=>a G (τ.set i (.fz (.lst ts))) | _=>False
variable {fr:Bool}
theorem xT:OkS K fr xf0 xhd:=fun B φ σ τ H E G R hd e=>e.nx φ σ τ H R hd
theorem ku:OkS K fr o9 xhe:=fun B φ σ τ H E G R hd e=>hd.elim
theorem xj (ha:OkS K fr a da)(hb:OkS K fr b db):OkS K fr (xfS a b) (xgX da db):=fun B φ σ τ H E G R hd e =>
 ha B φ σ τ H _ _ R hd ⟨fun φ' σ' τ' H' R' k=>hb B φ' σ' τ' H' E G R' k e,e.bk,e.ct,e.rt⟩
theorem xC (h:OkE K b te d):OkS K false (xhs te) (xhy d):=fun B φ σ τ H E G R hd e =>
 h B φ σ τ H _ _ R hd fun t v H1 x1 k1 r1=>e.rt t v H1 (yD (fun a o e n=>⟨e,fun z=>n (.inl z)⟩) _ _ (xil R r1)) (R.hx x1).extB k1 fun z=>nomatch z
theorem j4 (h:OkF K te d):OkS K fr (xhs te) (xhy d):=fun B φ σ τ H E G R hd e =>
 h B φ σ τ H _ _ R hd fun ts a ws H1 x1 k1 h1 h2 h3=>by
  have z0:B.H0 a=none:=by
   cases q:B.H0 a with
   | none=>rfl
   | some o =>
    by_cases s:B.S0 a
    ·exact absurd h1 (R.sst a (.inl s)).ne_none
    ·rw[R.ext a o q s] at h1;cases h1
  have na:¬B.F0 a:=fun z=>R.dom (.inl z) h1
  have rr:zU (fun c=>B.F0 c∨c=a) H1 ts ws:=yo (fun c o e n=>⟨e,fun z=>n (z.elim (fun z=>.inl (.inl z)) .inr)⟩) _ _ h3
  exact e.rt (.lst ts) _ H1 ⟨a,ws,rfl,na,h2,yo (fun c o e n=>⟨e,fun z=>n (.inl z)⟩) _ _ rr⟩ (R.hx x1).extB k1 fun _=>⟨a,ts,ws,rfl,rfl,z0,h2,rr⟩
def xgx (i:Nat):DS:=fun G τ=>match nth τ i with | .ow ts=>G.rt (.lst ts) | _=>False
theorem jT:OkS K fr (xhs (rz i)) (xgx i):=fun B φ σ τ H E G R hd e=>by
 have en:=R.ent i
 unfold xgx at hd
 revert en hd
 cases hi:nth τ i with
 | ow ts =>
  intro hd ⟨a,ws,e1,e2,e3,e4,r⟩
  have na:¬B.F0 a:=fun z=>R.f0 a z e3
  have rr:zU (fun c=>B.F0 c∨c=a) H ts ws:=yo (fun c o e n=>⟨e,fun z=>n (z.elim .inl fun z=>.inr ⟨i,by rw[z];exact e2⟩)⟩) _ _ r
  exact⟨_,e1,e.rt (.lst ts) _ H ⟨a,ws,rfl,na,e4,yo (fun c o e n=>⟨e,fun z=>n (.inl z)⟩) _ _ rr⟩ R.extB hd fun _=>⟨a,ts,ws,rfl,rfl,e3,e4,rr⟩⟩
 | _=>exact fun z _=>z.elim
theorem yr (hc:OkT K c dc)(ha:OkS K fr a da)(hb:OkS K fr b db):OkS K fr (xhV c a b) (sIf dc da db):=fun B φ σ τ H E G R hd e =>
 hc B φ σ τ H _ _ R hd fun k H1 x1 k1=>by
  cases k with
  | true=>exact xat (ha B φ σ τ H1 E G (R.hx x1) k1 e)
  | false=>exact pN (hb B φ σ τ H1 E G (R.hx x1) k1 e)
theorem xQ (h:OkE K true te d):OkS K fr (xed te (dz i)) (xho i d):=fun B φ σ τ H E G R hd e =>
 h B φ σ τ H _ _ R hd fun t v H1 x1 k1 r1=>e.nx _ _ _ H1 ((R.hx x1).setFz r1) k1
theorem zo (h:OkF K te d):OkS K fr (xed te (dz i)) (xie i d):=fun B φ σ τ H E G R hd e =>
 h B φ σ τ H _ _ R hd fun ts a ws H1 x1 k1 h1 h2 h3=>by
  have z0:B.H0 a=none:=by
   cases q:B.H0 a with
   | none=>rfl
   | some o =>
    by_cases s:B.S0 a
    ·exact absurd h1 (R.sst a (.inl s)).ne_none
    ·rw[R.ext a o q s] at h1;cases h1
  refine e.nx _ _ _ H1 (R.setNew (x:=.ow ts) x1 h1 (by rw[h2];exact fun z=>nomatch z) (fun z=>nomatch z) ⟨a,ws,rfl,oD,z0,h2,yo (fun c o e n=>⟨e,fun z=>n ?_⟩) _ _ h3⟩) k1
  rcases z with z | ⟨j,z⟩
  ·exact .inl (.inl z)
  ·rcases vV z with ⟨_,z⟩ | ⟨_,z⟩
   ·exact .inr z
   ·exact .inl (.inr ⟨j,z⟩)
theorem za (h:OkE K true te d)(hg:OkG K g dg):OkS K fr (xed te g) (xjk d dg):=fun B φ σ τ H E G R hd e =>
 h B φ σ τ H _ _ R hd fun t v H1 x1 k1 r1=>hg B φ σ τ H1 t v _ _ (R.hx x1) r1 k1 fun φ' σ' τ' H' R' _ _ k=>e.nx φ' σ' τ' H' R' k
theorem v_ (h:OkA K true n ta da):OkS K fr (xir i j ta) (xje i j da):=fun B φ σ τ H E G R hd e =>
 h B φ σ τ H _ _ R hd fun ts vs H1 x1 k1 l1 r1=>by
  cases ts with
  | nil=>exact k1.elim
  | cons t ts =>
   cases ts with
   | nil=>exact k1.elim
   | cons u ts =>
    cases ts with
    | cons _ _=>exact k1.elim
    | nil =>
     obtain⟨v,w,rfl,h1,h2⟩:=xbH r1
     exact⟨v,w,rfl,e.nx _ _ _ H1 (((R.hx x1).setFz h1).setFz (yD (fun a o e n=>⟨e,fun z=>n (k6 z)⟩) _ _ h2)) k1⟩
theorem lG (h:OkE K b te d):OkS K fr (xdG te) (xhE d):=fun B φ σ τ H E G R hd e =>
 h B φ σ τ H _ _ R hd fun t v H1 x1 k1 r1=>e.nx φ σ τ H1 (R.hx x1) k1
theorem vk (h:OkE K true te d):OkS K fr (xdG (tBM K "list" xbc (rz i) (vJ te xab))) (xiv i d):=fun B φ σ τ H E G R hd e=>by
 have en:=R.ent i
 unfold xiv at hd
 revert en hd
 cases hi:nth τ i with
 | ow ts =>
  intro hd ⟨a,ws,e1,e2,e3,e4,r⟩
  refine⟨_,e1,.inl ⟨rfl,_,SqL.of e4⟩,h B φ σ τ H _ _ R hd fun t v H1 x1 k1 r1=>?_⟩
  obtain⟨ws',f4,f5,_⟩:=kH R x1 hi e1
  exact⟨a,ws',v,rfl,rfl,f4,by rw[←f5.len];exact k1.1,e.nx φ σ _ _ ((R.hx x1).wrOw hi e1 (f5.app (show zU _ _ [t] [v] from⟨v,[],rfl,r1,rfl⟩))) k1.2⟩
 | _=>exact fun z _=>z.elim
theorem xbT (h:OkS K fr a da):OkS K fr a (xit i da):=fun B φ σ τ H E G R hd e=>by
 unfold xit at hd
 revert hd
 cases hi:nth τ i with
 | ow ts=>exact fun hd=>h B _ σ _ H E G (R.freeze hi) hd e
 | _=>exact fun z=>z.elim
end
end L2
namespace L2
open PySem PySem.Spec PyProof.Rows
abbrev DI:=TSt→(List Tr→Prop)→Prop
def xcI (H H':Hp):Prop:=H'=H∨∃q o,H q=none∧H'=upd H q o
structure ItC (F S:Addr→Prop)(J:It)(ts:List Tr)(Src:Hp→Prop):Prop where
 stab:∀H H',Src H→(∀a o,H a=some o→¬S a→H' a=some o)→Src H'
 go:∀i H,Src H→i<ts.length→J.go i H
 stop:∀H,Src H→J.stop ts.length H
 yld:∀i H x H',Src H→(∀a,F a→H a≠none)→i<ts.length→J.yld i H x H'→xcI H H'∧∃t,ts[i]? = some t∧Rep F H' t x
structure ItL (J:It)(ts:List Tr)(G:List (Tr×V)):Prop where
 go:∀F H i,(∀p∈G,Rep F H p.1 p.2)→i<ts.length→J.go i H
 stop:∀F H,(∀p∈G,Rep F H p.1 p.2)→J.stop ts.length H
 yld:∀F i H x H',(∀p∈G,Rep F H p.1 p.2)→(∀a,F a→H a≠none)→i<ts.length→J.yld i H x H'→xcI H H'∧∃t,ts[i]? = some t∧Rep F H' t x
theorem ItL.c (h:ItL J ts G)(hS:∀a,S a→F a):ItC F S J ts (fun H=>∀p∈G,Rep F H p.1 p.2) where
 stab:=fun H H' s k p hp=>yD (fun a o e n=>⟨k a o e fun z=>n (hS a z),n⟩) _ _ (s p hp)
 go:=fun i H s hi=>h.go F H i s hi
 stop:=fun H s=>h.stop F H s
 yld:=fun i H x H' s d hi y=>h.yld F i H x H' s d hi y
def OkI (K:PySem.W.Frag)(b:Bool)(wi:TI)(d:DI):Prop:=∀(B:FB) (φ:Phi) (σ:St) (τ:TSt) (H:Hp) (R:It→Hp→Prop) (KK:List Tr→Prop),RS K B φ σ τ H→d τ KK →
 (∀J ts G H',HX B φ τ H H'→KK ts→ItL J ts G→(∀p∈G,Rep (AvB b B φ τ) H' p.1 p.2)→R J H')→wi σ H R
def xhC (K:PySem.W.Frag)(wi:TI)(d:DI):Prop:=∀(B:FB) (φ:Phi) (σ:St) (τ:TSt) (H:Hp) (R:It→Hp→Prop) (KK:List Tr→Prop),RS K B φ σ τ H→d τ KK →
 (∀J ts Src H',HX B φ τ H H'→KK ts→ItC (Av B φ) (SA B φ τ) J ts Src→Src H'→R J H')→wi σ H R
section
variable {K:PySem.W.Frag} {B:FB} {φ:Phi} {σ:St} {τ:TSt} {H H' H'':Hp} {fr:Bool}
theorem OkI.c (h:OkI K true wi d):xhC K wi d:=fun B φ σ τ H R KK Rs hd q=>h B φ σ τ H R KK Rs hd fun J ts G H' x k i s=>q J ts _ H' x k (i.c fun a z=>Rs.sAv z) s
def xiR (d:DE):DI:=fun τ KK=>d τ fun x=>match x with | .tup ts=>KK ts | .lst ts=>KK ts | _=>False
theorem xcT:ItL (Itl K a) ts [(.lst ts,.ref a)] where
 go:=fun F H i s hi=>by
  obtain⟨a',ws,e,n,h,r⟩:=s _ xkL
  cases e
  obtain⟨w,e1,_⟩:=r.getT (xki hi)
  exact⟨ws,w,SqL.of h,e1⟩
 stop:=fun F H s=>by
  obtain⟨a',ws,e,n,h,r⟩:=s _ xkL
  cases e
  exact⟨ws,SqL.of h,by rw[←r.len];exact xlb _⟩
 yld:=fun F i H x H' s d hi y=>by
  obtain⟨a',ws,e,n,h,r⟩:=s _ xkL
  cases e
  obtain⟨rfl,y⟩:=y
  obtain⟨t,e1,e2⟩:=r.get (y ws (SqL.of h))
  exact⟨.inl rfl,t,e1,e2⟩
theorem xfO:ItL (Itt K a) ts [(.tup ts,.ref a)] where
 go:=fun F H i s hi=>by
  obtain⟨a',ws,e,n,h,r⟩:=s _ xkL
  cases e
  obtain⟨w,e1,_⟩:=r.getT (xki hi)
  exact⟨ws,w,SqT.of h,e1⟩
 stop:=fun F H s=>by
  obtain⟨a',ws,e,n,h,r⟩:=s _ xkL
  cases e
  exact⟨ws,SqT.of h,by rw[←r.len];exact xlb _⟩
 yld:=fun F i H x H' s d hi y=>by
  obtain⟨a',ws,e,n,h,r⟩:=s _ xkL
  cases e
  obtain⟨rfl,y⟩:=y
  obtain⟨t,e1,e2⟩:=r.get (y ws (SqT.of h))
  exact⟨.inl rfl,t,e1,e2⟩
def xhN (i:Nat):DI:=fun τ KK=>match nth τ i with | .ow ts=>KK ts | _=>False
theorem xcX:xhC K (xhZ K (rz i)) (xhN i):=fun B φ σ τ H R KK Rs hd q=>by
 have en:=Rs.ent i
 unfold xhN at hd
 revert en hd
 cases hi:nth τ i with
 | ow ts =>
  intro hd ⟨a,ws,e1,e2,e3,e4,r⟩
  refine⟨_,e1,a,rfl,⟨ws,SqL.of e4⟩,q _ ts (fun H=>H a=some (.lst ws)∧zU (Av B φ) H ts ws) H (HX.refl Rs) hd ⟨?_,?_,?_,?_⟩ ⟨e4,r⟩⟩
  ·intro H1 H2 ⟨s1,s2⟩ k
   exact⟨k a _ s1 fun z=>oT Rs hi e2 e3 (.inr z),yo (fun c o e n=>⟨k c o e fun z=>n (Rs.sAv z),n⟩) _ _ s2⟩
  ·intro j H1 ⟨s1,s2⟩ hj
   obtain⟨w,f1,_⟩:=s2.getT (xki hj)
   exact⟨ws,w,SqL.of s1,f1⟩
  ·intro H1 ⟨s1,s2⟩
   exact⟨ws,SqL.of s1,by rw[←s2.len];exact xlb _⟩
  ·intro j H1 x H2 ⟨s1,s2⟩ _ hj ⟨f,y⟩
   subst f
   obtain⟨t,g1,g2⟩:=s2.get (y ws (SqL.of s1))
   exact⟨.inl rfl,t,g1,g2⟩
 | _=>exact fun z _=>z.elim
def xfa (lo:Int)(n:Nat):List Tr:=(List.range n).map fun(k:Nat)=>Tr.int (lo+k)
theorem wL (lo:Int)(n:Nat):(xfa lo n).length=n:=by unfold xfa;rw[xkv,List.length_range]
theorem tw {lo:Int}{n i:Nat}(h:i<n):(xfa lo n)[i]? = some (.int (lo+i)):=by unfold xfa;rw[xkl,List.getElem?_range h];rfl
theorem xaX {lo:Int}{n:Nat}:ItL (Itr lo n) (xfa lo n) [] where
 go:=fun F H i s hi=>by rw[wL] at hi;exact hi
 stop:=fun F H s=>by rw[wL];exact xlb _
 yld:=fun F i H x H' s d hi y=>by
  rw[wL] at hi
  obtain⟨rfl,rfl⟩:=y
  exact⟨.inl rfl,_,tw hi,rfl⟩
def xfH (d:DA):DI:=fun τ KK=>d τ fun xs=>match xs with | [.int j]=>(-(2 ^ 62)≤j∧j<2 ^ 62)∧KK (xfa 0 j.toNat) | _=>False
theorem w4 (h:OkA K b n ta da):OkI K true (xf8 ta) (xfH da):=fun B φ σ τ H R KK Rs hd q =>
 h B φ σ τ H _ _ Rs hd fun ts vs H1 x1 k1 l1 r1=>by
  split at k1
  ·rename_i j
   obtain⟨v,rfl,e⟩:=dq r1
   exact⟨j,by rw[show v=.int j from e],k1.1.1,k1.1.2,q _ _ [] H1 x1 k1.2 xaX fun p hp=>absurd hp (by simp)⟩
  ·exact k1.elim
def xcC (dg:DG)(body:DS)(G:xaB):List Tr→TSt→Prop
 | [],τ=>G.nx τ
 | x::xs,τ=>dg x τ fun τ'=>body { G with nx:=xcC dg body G xs,ct:=xcC dg body G xs,bk:=G.nx } τ'
def xh1 (di:DI)(dg:DG)(body:DS):DS:=fun G τ=>di τ fun xs=>xcC dg body G xs τ
def FB.more (B:FB)(G:List (Tr×V)):FB:={ B with G0:=G++B.G0 }
theorem RS.more (R:RS K B φ σ τ H)(h:∀p∈G,Rep (Av B φ) H p.1 p.2):RS K (B.more G) φ σ τ H :=
 ⟨R.f0,R.s0,R.ext,R.sst,R.inj,R.ow,R.len,R.ent,fun p hp=>(xkG.mp hp).elim (h p) (R.gh p)⟩
theorem RS.less (R:RS K (B.more G) φ σ τ H):RS K B φ σ τ H∧∀p∈G,Rep (Av B φ) H p.1 p.2 :=
 ⟨⟨R.f0,R.s0,R.ext,R.sst,R.inj,R.ow,R.len,R.ent,fun p hp=>R.gh p (xkI _ hp)⟩,fun p hp=>R.gh p (xkH _ hp)⟩
theorem xcI.hx (R:RS K B φ σ τ H)(g:xcI H H'):HX B φ τ H H':=by
 rcases g with rfl | ⟨q,o,e,rfl⟩
 ·exact HX.refl R
 ·exact HX.new R e o
theorem yY (hi:OkI K true wi di)(hg:OkG K g dg)(hb:OkS K fr tb db):OkS K fr (xiX wi g tb) (xh1 di dg db):=fun B φ σ τ H E G R hd e =>
 hi B φ σ τ H _ _ R hd fun J ts Gh H1 x1 k1 it gh=>by
  let W:Nat→St→Hp→Prop:=fun i σ' H'=>i≤ts.length∧∃ φ' τ',RS K (B.more Gh) φ' σ' τ' H'∧xcC dg db G (ts.drop i) τ'
  refine⟨fun i m σ' H'=>m=ts.length-i∧W i σ' H',⟨_,rfl,xln _,φ,τ,(R.hx x1).more gh,k1⟩,?_⟩
  rintro i m σ' H' ⟨rfl,hle,φ',τ',R',f⟩
  obtain⟨R0,g0⟩:=R'.less
  by_cases hlt:i<ts.length
  ·refine .inr ⟨it.go _ H' i g0 hlt,W (i+1),fun σ2 H2 w=>⟨_,by omega,rfl,w⟩,fun x H2 y=>?_⟩
   obtain⟨gr,t,ht,rt⟩:=it.yld _ i H' x H2 g0 (fun a z=>R0.dom z) hlt y
   have hx:=gr.hx R'
   have R2:=R'.hx hx
   have ed:ts.drop i=t::ts.drop (i+1):=by
    rw[xj7 hlt]
    rw[xki hlt] at ht
    cases ht;rfl
   rw[ed] at f
   refine hg (B.more Gh) φ' σ' τ' H2 t x _ _ R2 rt f fun φ3 σ3 τ3 H3 R3 _ _ k3=>?_
   exact hb (B.more Gh) φ3 σ3 τ3 H3 _ _ R3 k3 ⟨fun φ4 σ4 τ4 H4 R4 k4=>⟨hlt,φ4,τ4,R4,k4⟩,fun φ4 σ4 τ4 H4 R4 k4=>e.nx φ4 σ4 τ4 H4 R4.less.1 k4,fun φ4 σ4 τ4 H4 R4 k4=>⟨hlt,φ4,τ4,R4,k4⟩,fun t v H r x k f=>e.rt t v H r ⟨x.ext,x.st⟩ k f⟩
  ·have ei:i=ts.length:=by omega
   subst ei
   rw[List.drop_length] at f
   exact .inl ⟨it.stop _ H' g0,e.nx φ' σ' τ' H' R0 f⟩
def xeJ (c:DT)(body:DS)(G:xaB):Nat→TSt→Prop
 | 0,_=>False
 | n+1,τ=>c τ fun b=>if b=true then body { G with nx:=xeJ c body G n,ct:=xeJ c body G n,bk:=G.nx } τ else G.nx τ
def xd8 (c:DT)(body:DS):DS:=fun G τ=>∃n,xeJ c body G n τ
theorem j0 (hc:OkT K c dc)(hb:OkS K fr tb db):OkS K fr (xdY c tb) (xd8 dc db):=fun B φ σ τ H E G R hd e=>by
 obtain⟨n,hd⟩:=hd
 refine⟨fun m σ' H'=>∃ φ' τ',RS K B φ' σ' τ' H'∧xeJ dc db G m τ',⟨n,φ,τ,R,hd⟩,?_⟩
 rintro m σ' H' ⟨φ',τ',R',f⟩
 cases m with
 | zero=>exact f.elim
 | succ m =>
  refine hc B φ' σ' τ' H' _ _ R' f fun b H1 x1 k1=>?_
  cases b with
  | true =>
   refine xat ⟨fun σ2 H2=>∃ φ2 τ2,RS K B φ2 σ2 τ2 H2∧xeJ dc db G m τ2,fun σ2 H2 w=>⟨m,by omega,w⟩,?_⟩
   exact hb B φ' σ' τ' H1 _ _ (R'.hx x1) k1 ⟨fun φ4 σ4 τ4 H4 R4 k4=>⟨φ4,τ4,R4,k4⟩,fun φ4 σ4 τ4 H4 R4 k4=>e.nx φ4 σ4 τ4 H4 R4 k4,fun φ4 σ4 τ4 H4 R4 k4=>⟨φ4,τ4,R4,k4⟩,e.rt⟩
  | false=>exact pN (e.nx φ' σ' τ' H1 (R'.hx x1) k1)
def xcB (dg:DG)(dc:DT)(de:DE)(τi:TSt)(KK:List Tr→Prop):List Tr→List Tr→Prop
 | [],acc=>KK acc
 | x::xs,acc=>dg x τi fun τ2=>dc τ2 fun b=>if b=true then de τ2 fun y=>xcB dg dc de τi KK xs (acc++[y]) else xcB dg dc de τi KK xs acc
def xiV:TV→TV
 | .ow _=>.un
 | x=>x
def sT (tau:List (Option Nat))(τ:TSt):TSt:=tau.map fun o=>match o with | some j=>xiV (nth τ j) | none=>.un
def xgK (tau:List (Option Nat))(di:DI)(dg:DG)(dc:DT)(de:DE):DE:=fun τ KK=>di τ fun xs=>xs.length<sizeLine∧xcB dg dc de (sT tau τ) (fun ys=>KK (.lst ys)) xs []
def xcE:DT:=fun _ KK=>KK true
theorem uh:OkT K xgA xcE:=fun B φ σ τ H Q KK R hd q=>q true H (HX.refl R) hd
def FB.inner (B:FB)(φ:Phi)(τ:TSt)(H:Hp):FB:=⟨Av B φ,SA B φ τ,H,[]⟩
def pQ (tau:List (Option Nat))(φ:Phi)(τ:TSt):Phi:=fun i=>match tau[i]? with | some (some j)=>(match nth τ j with | .st=>φ j | _=>none) | _=>none
theorem mV:∀ {i:Nat},nth (sT tau τ) i=match tau[i]? with | some (some j)=>xiV (nth τ j) | _=>.un:=by
 intro i
 by_cases h:i<tau.length
 ·have h':i<(sT tau τ).length:=by unfold sT;rw[xkv];exact h
  rw[jS h',xki h]
  simp only[sT,List.getElem_map]
  cases tau[i]<;>rfl
 ·rw[ur (by unfold sT;rw[xkv];omega),xkj (by omega)]
theorem rW {tau:List (Option Nat)}{i j:Nat}{v:V}(h:tau[i]? = some (some j))(e:σ[j]? = some (some v)):(mH tau σ)[i]? = some (some v):=by
 unfold mH
 rw[xkl,h]
 simp only[Option.map_some,e,xlo]
theorem RS.inner {tau:List (Option Nat)}(R:RS K B φ σ τ H):RS K (B.inner φ τ H) (pQ tau φ τ) (mH tau σ) (sT tau τ) H:=by
 have hphi:∀i a,pQ tau φ τ i=some a→∃j,tau[i]? = some (some j)∧nth τ j=.st∧φ j=some a:=fun i a e=>by
  unfold pQ at e
  split at e
  ·rename_i j hj
   split at e
   ·rename_i hs;exact⟨j,hj,hs,e⟩
   ·cases e
  ·cases e
 have hav:∀a,Av (B.inner φ τ H) (pQ tau φ τ) a→Av B φ a:=fun a z=>by
  rcases z with z | ⟨i,z⟩
  ·exact z
  ·obtain⟨j,_,_,e⟩:=hphi i a z
   exact .inr ⟨j,e⟩
 refine⟨fun a z=>R.dom z,fun a z=>R.sAv z,fun a o e _=>e,fun a s=>?_,fun i j a ts hi e1 _=>?_,fun i a e=>?_,?_,fun i=>?_,fun p hp=>absurd hp (by simp[FB.inner])⟩
 ·rcases s with s | ⟨i,s,_⟩
  ·exact R.sst a s
  ·obtain⟨j,_,hs,e⟩:=hphi i a s
   exact R.sst a (.inr ⟨j,e,hs⟩)
 ·exfalso
  rw[mV] at hi
  split at hi
  ·rename_i j hj
   revert hi
   cases nth τ j<;>intro hi<;>cases hi
  ·cases hi
 ·obtain⟨j,_,_,e⟩:=hphi i a e
  exact R.ow j a e
 ·unfold mH sT;rw[xkv,xkv]
 ·rw[mV]
  split
  ·rename_i j hj
   have en:=R.ent j
   cases hn:nth τ j with
   | un=>trivial
   | ow ts=>trivial
   | fz t =>
    rw[hn] at en
    obtain⟨v,e,r⟩:=en
    exact⟨v,rW hj e,yD (fun a o e n=>⟨e,fun z=>n (hav a z)⟩) _ _ r⟩
   | st =>
    rw[hn] at en
    obtain⟨p,e1,e2,e3⟩:=en
    refine⟨p,rW hj e1,?_,.inl (.inr ⟨j,e2,hn⟩)⟩
    unfold pQ
    simp only[hj,hn];exact e2
   | sc ns =>
    rw[hn] at en
    obtain⟨a,e,l,q⟩:=en
    exact⟨a,rW hj e,l,q⟩
   | ob a =>
    rw[hn] at en
    exact rW hj en
  ·trivial
theorem yx (hi:xhC K wi di)(hg:OkN K g dg)(hc:OkT K tc dc)(he:OkE K b te de) :
  OkF K (xfx wi tau g tc te) (xgK tau di dg dc de):=fun B φ σ τ H Q KK R hd q =>
 hi B φ σ τ H _ _ R hd fun J ts Src H1 x1 k1 it s1=>by
  refine⟨fun i m ys H'=>m=ts.length-i∧i≤ts.length∧ys.length≤i∧HX B φ τ H H'∧Src H'∧∃acc,zU (Av B φ) H' acc ys∧xcB dg dc de (sT tau τ) (fun ys=>KK (.lst ys)) (ts.drop i) acc,⟨_,rfl,xln _,xln _,x1,s1,[],rfl,k1.2⟩,?_⟩
  rintro i m ys H' ⟨rfl,hle,hys,x,s,acc,ra,f⟩
  have R':=R.hx x
  by_cases hlt:i<ts.length
  ·refine .inr ⟨it.go i H' s hlt,by have:=k1.1;omega,fun v H2 y=>?_⟩
   obtain⟨gr,t,ht,rt⟩:=it.yld i H' v H2 s (fun a z=>R'.dom z) hlt y
   have hx:=gr.hx R'
   have R2:=R'.hx hx
   have ed:ts.drop i=t::ts.drop (i+1):=by
    rw[xj7 hlt]
    rw[xki hlt] at ht
    cases ht;rfl
   rw[ed] at f
   refine hg (B.inner φ τ H2) _ _ _ H2 (Av B φ) t v _ _ R2.inner (fun a z=>?_) rt f fun φ3 σ3 τ3 R3 ha k3=>?_
   ·rcases z with z | ⟨j,z⟩
    ·exact z
    ·unfold pQ at z
     split at z
     ·split at z
      ·exact .inr ⟨_,z⟩
      ·cases z
     ·cases z
   have hsa:∀a,SA (B.inner φ τ H2) φ3 τ3 a→SA B φ τ a:=fun a z=>by
    rcases z with z | ⟨j,z,hj⟩
    ·exact z
    ·have en:=R3.ent j
     rw[hj] at en
     obtain⟨p,e1,e2,e3⟩:=en
     rw[z] at e2;cases e2
     rcases e3 with e3 | e3
     ·exact e3
     ·exact absurd e3 (R3.sst a (.inr ⟨j,z,hj⟩)).ne_none
   have hxo:∀ {H3 H4:Hp},HX (B.inner φ τ H2) φ3 τ3 H3 H4→HX B φ τ H3 H4:=fun {H3 H4} h=>⟨fun a o e n=>h.keep a o e fun z=>n (hsa a z),fun a z=>h.st a (.inl z)⟩
   refine hc _ φ3 σ3 τ3 H2 _ _ R3 k3 fun c H3 x3 k4=>?_
   have x23:=hxo x3
   have s3:=it.stab _ _ (it.stab _ _ s fun a o e n=>hx.keep a o e n) fun a o e n=>x23.keep a o e n
   cases c with
   | false =>
    refine pN ⟨_,by omega,rfl,hlt,by omega,(x.trans hx).trans x23,s3,acc,(hx.trans x23).repL (fun a z=>R.sAv z) ra,?_⟩
    simpa using k4
   | true =>
    refine xat (he _ φ3 σ3 τ3 H3 _ _ (R3.hx x3) k4 fun u w H4 x4 k5 r5=>?_)
    have x34:=hxo x4
    refine⟨_,by omega,rfl,hlt,by rw[xkq,xkz];omega,((x.trans hx).trans x23).trans x34,it.stab _ _ s3 fun a o e n=>x34.keep a o e n,acc++[u],(((hx.trans x23).trans x34).repL (fun a z=>R.sAv z) ra).app (show zU _ _ [u] [w] from⟨w,[],rfl,?_,rfl⟩),k5⟩
    refine yD (fun a o e n=>⟨e,fun z=>n ?_⟩) _ _ r5
    cases b with
    | true=>exact .inl z
    | false=>exact .inl z
  ·have ei:i=ts.length:=by omega
   subst ei
   rw[List.drop_length] at f
   refine .inl ⟨it.stop H' s,fun p hp=>q acc p ys _ (x.trans (HX.new R' hp _)) f (x.none hp) ya (kM hp ra)⟩
end
end L2
namespace L2
open PySem PySem.Spec PyProof.Rows
def startT (N:List Str):Bool→List Tr→TSt
 | true,ts=>.st::(ts.map TV.fz++List.replicate (N.length-(ts.length+1)) .un)
 | false,ts=>ts.map TV.fz++List.replicate (N.length-ts.length) .un
theorem gN {ts:List Tr}{n i:Nat}{x:TV}(h:nth (ts.map TV.fz++List.replicate n .un) i=x):x=.un∨∃t,ts[i]? = some t∧x=.fz t:=by
 by_cases hi:i<ts.length
 ·right
  rw[jS (by simp;omega),List.getElem_append_left (by simpa using hi),List.getElem_map] at h
  exact⟨_,xki hi,h.symm⟩
 ·left
  by_cases h2:i<ts.length+n
  ·rw[jS (by simp;omega),List.getElem_append_right (by simp;omega),List.getElem_replicate] at h
   exact h.symm
  ·rw[ur (by simp;omega)] at h
   exact h.symm
theorem jL {N:List Str}{vs:List V}{i:Nat}{v:V}(h:vs[i]? = some v):(start N vs)[i]? = some (some v):=by
 unfold start
 have hi:=(xkk.mp h).1
 rw[xkg (by simpa using hi),xkl,h];rfl
theorem dW (h:vs.length≤N.length):(start N vs).length=N.length:=by
 unfold start;rw[xkq,xkv,xkx];omega
section
variable {P:Program} {w:World} {K:PySem.W.Frag} {mg:Str→Option Value} {base:Heap} {k n:Nat} {x qual:Str} {st:Stmt} {f:Addr} {fd:FuncData} {N ps:List Str} {fr:Bool} {sp:TSp}
theorem bX {F S:Addr→Prop}{H:Hp}{ts:List Tr}{us:List V}(hF:∀a,F a→H a≠none)(hS:∀a,S a→F a)(hst:∀a,S a→b_ a H)(r:zU F H ts us)(hl:ts.length≤N.length) :
  RS K ⟨F,S,H,[]⟩ (fun _=>none) (start N us) (startT N false ts) H where
 f0:=hF
 s0:=hS
 ext:=fun a o e _=>e
 sst:=fun a s=>by
  rcases s with s | ⟨i,s,_⟩
  ·exact hst a s
  ·cases s
 inj:=fun i j a us _ e=>by cases e
 ow:=fun i a e=>by cases e
 len:=by
  have:=r.len
  rw[dW (by omega)]
  simp[startT];omega
 ent:=fun i=>by
  rcases gN (ts:=ts) (n:=N.length-ts.length) (i:=i) rfl with e | ⟨t,h,e⟩
  ·show Ent K _ _ H i _ (nth (ts.map TV.fz++List.replicate (N.length-ts.length) .un) i)
   rw[e];trivial
  ·show Ent K _ _ H i _ (nth (ts.map TV.fz++List.replicate (N.length-ts.length) .un) i)
   rw[e]
   obtain⟨v,e1,e2⟩:=r.getT h
   exact⟨v,jL e1,yD (fun a o e n=>⟨e,fun z=>n (z.elim id fun⟨_,z⟩=>nomatch z)⟩) _ _ e2⟩
 gh:=fun p hp=>absurd hp (by simp)
theorem xce {F S:Addr→Prop}{H:Hp}{ts:List Tr}{us:List V}{p:Addr}(hp:S p)(hF:∀a,F a→H a≠none)(hS:∀a,S a→F a)(hst:∀a,S a→b_ a H)(r:zU F H ts us)(hl:ts.length+1≤N.length) :
  RS K ⟨F,S,H,[]⟩ (fun i=>if i=0 then some p else none) (start N (.ref p::us)) (startT N true ts) H where
 f0:=hF
 s0:=hS
 ext:=fun a o e _=>e
 sst:=fun a s=>by
  rcases s with s | ⟨i,s,_⟩
  ·exact hst a s
  ·have s:(if i=0 then some p else none)=some a:=s
   by_cases e:i=0
   ·rw[if_pos e] at s;cases s;exact hst _ hp
   ·rw[if_neg e] at s;cases s
 inj:=fun i j a us hi e=>by
  exfalso
  by_cases e0:i=0
  ·subst e0;cases hi
  ·rw[if_neg e0] at e;cases e
 ow:=fun i a e=>by
  by_cases e0:i=0
  ·rw[if_pos e0] at e;cases e;exact(hst _ hp).ne_none
  ·rw[if_neg e0] at e;cases e
 len:=by
  have:=r.len
  rw[dW (by rw[xkr];omega)]
  simp[startT];omega
 ent:=fun i=>by
  cases i with
  | zero=>exact⟨p,jL (by rfl),if_pos rfl,.inl hp⟩
  | succ i =>
   show Ent K _ _ H (i+1) _ (nth (ts.map TV.fz++List.replicate (N.length-(ts.length+1)) .un) i)
   rcases gN (ts:=ts) (n:=N.length-(ts.length+1)) (i:=i) rfl with e | ⟨t,h,e⟩
   ·rw[e];trivial
   ·rw[e]
    obtain⟨v,e1,e2⟩:=r.getT h
    refine⟨v,jL (by rw[List.getElem?_cons_succ];exact e1),yD (fun a o e n=>⟨e,fun z=>n ?_⟩) _ _ e2⟩
    rcases z with z | ⟨j,z⟩
    ·exact z
    ·have z:(if j=0 then some p else none)=some a:=z
     by_cases e0:j=0
     ·rw[if_pos e0] at z;cases z;exact hS _ hp
     ·rw[if_neg e0] at z;cases z
 gh:=fun p hp=>absurd hp (by simp)
theorem xy (F:Fun K x qual st f fd)(S:xA N ps (xf st))(mgx:mg x=some (.ref f))(b:Binds K fd ps [])(hn:ps.length=n)
  (body:∀(cdv:Value) (A:Around) (outer:List Env) (s:Shared) (H:Hp) (E:XK),jg k (A.deeper (envOfC qual (xf st) s.heap.objs.size f cdv)) →
   ∃T D,PSs (dm CX0 P w K mg base N qual (xf st) f cdv A outer s H E).nox (zj st) T∧OkS K fr T D∧∀ts KK,ts.length=n→sp ts KK→D { nx:=fun _=>fr=false∧KK .non,rt:=KK } (startT N false ts)) :
  Own P w K mg base (k+1) x ps (spT n false fr sp):=by
 have hpl:ps.length≤N.length:=by have:=xlq List.length S.pre;rw[xkA] at this;omega
 refine aJ F S mgx b (fun vs H Q E h=>?_) (fun cdv A outer s H vs Q E hr h=>?_)
 ·obtain⟨F',S',ts,KK,us,e,_,_,_,r,l,_⟩:=h
  cases (show vs=us from e)
  rw[←r.len,l,hn]
 ·obtain⟨F',S',ts,KK,us,e,hF,hS,hst,r,l,hsp,q⟩:=h
  cases (show vs=us from e)
  obtain⟨T,D,ht,hd,h⟩:=body cdv A outer s H E hr
  refine⟨T,ht,hd _ _ _ _ H _ _ (bX hF hS hst r (by omega)) (h ts KK l hsp) ⟨fun φ σ τ H1 R k=>?_,fun _ _ _ _ _ z=>z.elim,fun _ _ _ _ _ z=>z.elim,fun t v H1 r1 x k fl=>?_⟩⟩
  ·obtain⟨k1,k2⟩:=k
   exact q .non .non H1 k2 R.ext (fun a z=>R.sst a (.inl z)) rfl fun z=>by rw[k1] at z;cases z
  ·exact q t v H1 k x.ext x.st r1 fl
theorem xb_ (F:Fun K x qual st f fd)(S:xA N ps (xf st))(mgx:mg x=some (.ref f))(b:Binds K fd ps [])(hn:ps.length=n+1)
  (body:∀(cdv:Value) (A:Around) (outer:List Env) (s:Shared) (H:Hp) (E:XK),jg k (A.deeper (envOfC qual (xf st) s.heap.objs.size f cdv)) →
   ∃T D,PSs (dm CX0 P w K mg base N qual (xf st) f cdv A outer s H E).nox (zj st) T∧OkS K fr T D∧∀ts KK,ts.length=n→sp ts KK→D { nx:=fun _=>fr=false∧KK .non,rt:=KK } (startT N true ts)) :
  Own P w K mg base (k+1) x ps (spT n true fr sp):=by
 have hpl:ps.length≤N.length:=by have:=xlq List.length S.pre;rw[xkA] at this;omega
 refine aJ F S mgx b (fun vs H Q E h=>?_) (fun cdv A outer s H vs Q E hr h=>?_)
 ·obtain⟨F',S',ts,KK,us,⟨p,e,_⟩,_,_,_,r,l,_⟩:=h
  rw[e,xkr,←r.len,l,hn]
 ·obtain⟨F',S',ts,KK,us,⟨p,e,hp⟩,hF,hS,hst,r,l,hsp,q⟩:=h
  subst e
  obtain⟨T,D,ht,hd,h⟩:=body cdv A outer s H E hr
  refine⟨T,ht,hd _ _ _ _ H _ _ (xce hp hF hS hst r (by omega)) (h ts KK l hsp) ⟨fun φ σ τ H1 R k=>?_,fun _ _ _ _ _ z=>z.elim,fun _ _ _ _ _ z=>z.elim,fun t v H1 r1 x k fl=>?_⟩⟩
  ·obtain⟨k1,k2⟩:=k
   exact q .non .non H1 k2 R.ext (fun a z=>R.sst a (.inl z)) rfl fun z=>by rw[k1] at z;cases z
  ·exact q t v H1 k x.ext x.st r1 fl
def xgQ (H:Hp):Prop:=∀b,(H b=none∨∃o xs,H b=some (.frz o (.lst xs)))∨∃q,H b=some (.tb q)
end
section
variable {K:PySem.W.Frag} {fr:Bool}
def xez (j i:Nat)(d:DE):DS:=fun G τ=>match nth τ i with | .sc _=>d τ (fun t=>match t with | .int k=>0≤k∧G.nx (τ.set j .st) | _=>False) | _=>False
theorem xcj (h:OkE K b te d):OkS K fr (xed (xg_ (pW K) (vJ (rz i) (vJ te xab))) (dz j)) (xez j i d):=fun B φ σ τ H E G R hd e=>by
 have en:=R.ent i
 unfold xez at hd
 revert en hd
 cases hi:nth τ i with
 | sc ns =>
  intro hd ⟨a,e1,hl,so,_⟩
  refine⟨_,e1,h B φ σ τ H _ _ R hd fun t v H1 x1 k1 r1=>?_⟩
  cases t with
  | int k =>
   cases (show v=.int k from r1)
   have sq:SqL K H1 a (ns.map V.int):=by
    rcases so with ⟨o,q⟩ | q
    ·exact .inl (.inr ⟨o,x1.keep a _ q (rK R q)⟩)
    ·exact q H1
   refine⟨a,ns,k,rfl,sq,hl,k1.1,fun p n b hp hok=>?_⟩
   have x2:=x1.trans (HX.new (R.hx x1) hp (.lst [.int n,.bl b]))
   have z0:B.H0 p=none:=by
    cases q:B.H0 p with
    | none=>rfl
    | some o =>
     by_cases s:B.S0 p
     ·exact absurd hp ((R.hx x1).sst p (.inl s)).ne_none
     ·rw[(R.hx x1).ext p o q s] at hp;cases hp
   refine e.nx _ _ _ _ (R.setNew (x:=.st) x2 (x1.none hp) (by rw[ya];exact fun z=>nomatch z) (fun _=>⟨n,b,ya,hok⟩) ⟨p,rfl,oD,.inr z0⟩) k1.2
  | _=>exact k1.elim
 | _=>exact fun z _=>z.elim
def xdk:TSp:=fun ts KK=>match ts with | [.int many]=>(0<many∧many<2 ^ 128)∧∀r,0≤r→r<many→KK (.int r) | _=>False
theorem xbg (h:Own P w K mg base k x ps xep):Own P w K mg base k x ps (spT 1 true false xdk):=h.imp fun vs H Q E q=>by
 obtain⟨F,S,ts,KK,us,⟨p,e,hp⟩,hF,hS,hst,r,l,hsp,q⟩:=q
 unfold xdk at hsp
 split at hsp
 ·rename_i many
  obtain⟨v,rfl,r1⟩:=dq r
  cases (show v=.int many from r1)
  refine⟨p,many,e,hst p hp,hsp.1.1,hsp.1.2,fun r H' h0 h1 sb=>q (.int r) (.int r) H' (hsp.2 r h0 h1) (fun a o e n=>sb.keep a o (fun z=>n (by rw[z];exact hp)) e) (fun a s=>?_) rfl (fun z=>nomatch z)⟩
  by_cases ea:a=p
  ·rw[ea];exact sb.st
  ·obtain⟨n,b,e1,z⟩:=hst a s
   exact⟨n,b,sb.keep a _ ea e1,z⟩
 ·exact hsp.elim
end
end L2
namespace L2
open PySem PySem.Spec PyProof.Rows
mutual
def g9:Tr→PyData
 | .non=>.none | .bl b=>.bool b | .int i=>.int i | .str x=>.str x | .emp=>.dict [] | .tup ts=>.tuple (u6 ts) | .lst ts=>.list (u6 ts)
def u6:List Tr→List PyData
 | []=>[]
 | t::ts=>g9 t::u6 ts
end
def teq (t u:Tr):Bool:=PyData.eqv (g9 t) (g9 u)
def pln (t:Tr):Bool:=(g9 t).canLay0
def dep (t:Tr):Nat:=(g9 t).depth
section
variable {X:Cx} {pins:List (Addr×Obj)} {σ:St} {H:Hp} {s:Shared}
mutual
theorem vL (I:Inv X pins σ H s):∀(t:Tr) (x:V) (a:Value),Rep F H t x→RelV x a→pln t=true→∃as,Reads s.heap a (g9 t) as
 | .non,x,a,r,e,_=>by cases (show x=.non from r);cases e;exact⟨_,.none⟩
 | .bl b,x,a,r,e,_=>by cases (show x=.bl b from r);cases e;exact⟨_,.bool b⟩
 | .int i,x,a,r,e,_=>by cases (show x=.int i from r);obtain⟨t,rfl⟩:=e;exact⟨_,.int i t⟩
 | .str i,x,a,r,e,_=>by cases (show x=.str i from r);obtain⟨t,rfl⟩:=e;exact⟨_,.str i t⟩
 | .emp,x,a,r,e,h=>by cases h
 | .tup ts,x,a,r,e,h=>by
  obtain⟨p,ws,rfl,_,hp,rl⟩:=r
  cases e
  obtain⟨its,rv,⟨o,ho,hc,n,hd⟩,_⟩:=I.tuple (SqT.of hp)
  obtain⟨as,ra⟩:=vM I ts ws its rl rv h
  exact⟨_,.tuple ho hc hd (by simpa using ra)⟩
 | .lst ts,x,a,r,e,h=>by
  obtain⟨p,ws,rfl,_,hp,rl⟩:=r
  cases e
  obtain⟨its,rv,pl,_⟩:=I.list (SqL.of hp)
  obtain⟨o,ho,hc,n,hd⟩:=pl.isList
  obtain⟨as,ra⟩:=vM I ts ws its rl rv h
  exact⟨_,.list ho hc hd (by simpa using ra)⟩
theorem vM (I:Inv X pins σ H s):∀(ts:List Tr) (ws:List V) (us:List Value),zU F H ts ws→zQ ws us→PyData.canLayAll0 (u6 ts)=true→∃as,ReadsAll s.heap us (u6 ts) as
 | [],ws,us,r,v,_=>by cases (show ws=[] from r);cases v;exact⟨_,.nil⟩
 | t::ts,ws,us,r,v,h=>by
  obtain⟨w,r',rfl,h1,h2⟩:=r
  cases v with
  | cons v1 v2 =>
   have h':pln t=true∧PyData.canLayAll0 (u6 ts)=true:=by
    have:(pln t&&PyData.canLayAll0 (u6 ts))=true:=h
    simpa using this
   obtain⟨as,ra⟩:=vL I t w _ h1 v1 h'.1
   obtain⟨bs,rb⟩:=vM I ts r' _ h2 v2 h'.2
   exact⟨_,.cons ra rb⟩
end
end
def xen (t u:Tr):Prop:=pln t=true∧pln u=true∧min (dep t) (dep u)≤64
def xiS:R2:=fun x y H Q=>∃F G t u,Rep F H t x∧Rep G H u y∧xen t u∧Q (.bl (teq t u)) H
def xiA:R2:=fun x y H Q=>∃F G t u,Rep F H t x∧Rep G H u y∧xen t u∧Q (.bl (!teq t u)) H
section
variable {X:Cx}
theorem wR (hu:X.A.units+64<cLine):OpR X (compareOp .Eq) xiS:=by
 intro pins s σ H x y v u Q I rx ry h
 obtain⟨F,G,t,t',r1,r2,⟨p1,p2,p3⟩,q⟩:=h
 obtain⟨as,ra⟩:=vL I t x v r1 rx p1
 obtain⟨bs,rb⟩:=vL I t' y u r2 ry p2
 exact SeqAt.rcAt_reads ra rb p1 p2 (xlf (Nat.add_le_add_left p3 _) hu) X.prog X.w _ _ ⟨.bl _,H,I,rfl,q⟩
theorem y8 (hu:X.A.units+64<cLine):OpR X (compareOp .NotEq) xiA:=by
 intro pins s σ H x y v u Q I rx ry h
 obtain⟨F,G,t,t',r1,r2,⟨p1,p2,p3⟩,q⟩:=h
 obtain⟨as,ra⟩:=vL I t x v r1 rx p1
 obtain⟨bs,rb⟩:=vL I t' y u r2 ry p2
 exact SeqAt.rcNeAt_reads ra rb p1 p2 (xlf (Nat.add_le_add_left p3 _) hu) X.prog X.w _ _ ⟨.bl _,H,I,rfl,q⟩
def xiH (neg:Bool):R2:=fun x y H Q=>∃F G t ts,Rep F H t x∧(Rep G H (.lst ts) y∨Rep G H (.tup ts) y)∧pln t=true∧PyData.canLayAll0 (u6 ts)=true∧dep t≤60∧Q (.bl (if neg then !(ts.any fun u=>teq u t) else ts.any fun u=>teq u t)) H
theorem dQ (e:Value→Bool)(he:∀y d as,Reads h y d as→d.canLay0=true→e y=PyData.eqv d d0):∀(ts:List Tr) (us:List Value) (as:List Addr),ReadsAll h us (u6 ts) as→PyData.canLayAll0 (u6 ts)=true→us.any e=ts.any fun u=>PyData.eqv (g9 u) d0
 | [],us,as,r,_=>by cases r;rfl
 | t::ts,us,as,r,hl=>by
  have h':(g9 t).canLay0=true∧PyData.canLayAll0 (u6 ts)=true:=by
   have:((g9 t).canLay0&&PyData.canLayAll0 (u6 ts))=true:=hl
   simpa using this
  generalize hg:u6 (t::ts)=ds at r
  cases r with
  | nil=>cases hg
  | cons r1 r2 =>
   have e1:g9 t=_:=(List.cons.inj hg).1
   have e2:u6 ts=_:=(List.cons.inj hg).2
   subst e1 e2
   rw[List.any_cons,List.any_cons,he _ _ _ r1 h'.1,dQ e he ts _ _ r2 h'.2]
theorem nq:∀(ds:List PyData) (us:List Value) (as:List Addr),ReadsAll h us ds as→PyData.canLayAll0 ds=true→y∈us→∃d as,Reads h y d as∧d.canLay0=true
 | [],us,as,r,_,hm=>by cases r;exact absurd hm (by simp)
 | d::ds,us,as,r,hl,hm=>by
  have h':d.canLay0=true∧PyData.canLayAll0 ds=true:=by
   have:(d.canLay0&&PyData.canLayAll0 ds)=true:=hl
   simpa using this
  cases r with
  | cons r1 r2 =>
   rcases xkJ.mp hm with rfl | hm
   ·exact⟨d,_,r1,h'.1⟩
   ·exact nq ds _ _ r2 h'.2 hm
open Classical in
def eBy (h:Heap)(d0:PyData)(y:Value):Bool:=if ∃d as,Reads h y d as∧d.canLay0=true∧PyData.eqv d d0=true then true else false
theorem xb6 (y:Value)(d:PyData)(as:List Addr)(r:Reads h y d as)(hl:d.canLay0=true):eBy h d0 y=PyData.eqv d d0:=by
 unfold eBy
 cases hq:PyData.eqv d d0 with
 | true=>rw[if_pos ⟨d,as,r,hl,hq⟩]
 | false =>
  rw[if_neg]
  rintro⟨d',as',r',hl',hq'⟩
  have:=SeqAt.Reads.unique d d' y as as' hl r r'
  subst this
  rw[hq] at hq';cases hq'
theorem c_ (hu:X.A.units+64<cLine):OpR X (compareOp .NotIn) (xiH true):=by
 intro pins s σ H x y v u Q I rx ry h
 obtain⟨F,G,t,ts,r1,r2,p1,p2,p3,q⟩:=h
 obtain⟨as,ra⟩:=vL I t x v r1 rx p1
 have room:∀d:PyData,X.A.in1.units+min d.depth (g9 t).depth<cLine:=fun d=>by
  have h1:min d.depth (g9 t).depth≤60:=xld (Nat.min_le_right _ _) p3
  show X.A.units+1+_<_
  omega
 have eqa:∀(ds:List PyData) (us:List Value) (bs:List Addr),ReadsAll s.heap us ds bs→PyData.canLayAll0 ds=true→∀z∈us,SeqAt.EqAt X.A.in1 s z v (eBy s.heap (g9 t) z):=fun ds us bs rb hl z hz=>by
  obtain⟨d,cs,rd,hd⟩:=nq ds us bs rb hl hz
  rw[xb6 z d cs rd hd]
  exact SeqAt.eqAt_reads d (g9 t) _ s z v _ _ rd ra hd p1 (room d)
 rcases r2 with r2 | r2
 ·obtain⟨p,ws,rfl,_,hp,rl⟩:=r2
  cases ry
  obtain⟨its,rv,pl,_⟩:=I.list (SqL.of hp)
  obtain⟨bs,rb⟩:=vM I ts ws its rl rv p2
  refine SeqAt.notIn_listAt (eBy s.heap (g9 t)) pl.isList (fun z hz=>eqa _ _ _ rb p2 z (by simpa using hz)) ⟨.bl _,H,I,?_,q⟩
  show Value.bool _=Value.bool _
  rw[if_pos rfl,show(ts.any fun u=>teq u t)=its.toArray.any (eBy s.heap (g9 t)) from by
   rw[show(its.toArray.any (eBy s.heap (g9 t)))=its.any (eBy s.heap (g9 t)) by simp]
   exact(dQ (eBy s.heap (g9 t)) (fun y d as r hl=>xb6 y d as r hl) ts its bs rb p2).symm]
 ·obtain⟨p,ws,rfl,_,hp,rl⟩:=r2
  cases ry
  obtain⟨its,rv,pl,_⟩:=I.tuple (SqT.of hp)
  obtain⟨bs,rb⟩:=vM I ts ws its rl rv p2
  refine SeqAt.notIn_tupleAt (eBy s.heap (g9 t)) pl (fun z hz=>eqa _ _ _ rb p2 z (by simpa using hz)) ⟨.bl _,H,I,?_,q⟩
  show Value.bool _=Value.bool _
  rw[if_pos rfl,show(ts.any fun u=>teq u t)=its.toArray.any (eBy s.heap (g9 t)) from by
   rw[show(its.toArray.any (eBy s.heap (g9 t)))=its.any (eBy s.heap (g9 t)) by simp]
   exact(dQ (eBy s.heap (g9 t)) (fun y d as r hl=>xb6 y d as r hl) ts its bs rb p2).symm]
end
def xhn (neg:Bool)(x y:Tr)(KK:Tr→Prop):Prop:=match x,y with
 | .int i,.int j=>KK (.bl (if neg then !decide (i=j) else decide (i=j)))
 | x,y=>xen x y∧KK (.bl (if neg then !teq x y else teq x y))
theorem xdp (i j:Int):xen (.int i) (.int j):=⟨rfl,rfl,by show min 0 0≤64;decide⟩
theorem xcm {neg:Bool}{x y:Tr}{KK:Tr→Prop}(h:xhn neg x y KK):xen x y∧KK (.bl (if neg then !teq x y else teq x y)):=by
 unfold xhn at h
 split at h
 ·exact⟨xdp _ _,h⟩
 ·exact h
theorem os_eq:OpS xiS (xhn false):=fun F G H x y t u KK Q r1 r2 hf q=>by
 obtain⟨h1,h2⟩:=xcm hf
 exact⟨F,G,t,u,r1,r2,h1,q _ _ rfl h2⟩
theorem wX:OpS xiA (xhn true):=fun F G H x y t u KK Q r1 r2 hf q=>by
 obtain⟨h1,h2⟩:=xcm hf
 exact⟨F,G,t,u,r1,r2,h1,q _ _ rfl h2⟩
def fIn (neg:Bool)(x y:Tr)(KK:Tr→Prop):Prop:=match y with
 | .lst ts=>(pln x=true∧PyData.canLayAll0 (u6 ts)=true∧dep x≤60)∧KK (.bl (if neg then !(ts.any fun u=>teq u x) else ts.any fun u=>teq u x))
 | .tup ts=>(pln x=true∧PyData.canLayAll0 (u6 ts)=true∧dep x≤60)∧KK (.bl (if neg then !(ts.any fun u=>teq u x) else ts.any fun u=>teq u x))
 | _=>False
theorem xfB:OpS (xiH neg) (fIn neg):=fun F G H x y t u KK Q r1 r2 hf q=>by
 unfold fIn at hf
 split at hf
 ·exact⟨F,G,t,_,r1,.inl r2,hf.1.1,hf.1.2.1,hf.1.2.2,q _ _ rfl hf.2⟩
 ·exact⟨F,G,t,_,r1,.inr r2,hf.1.1,hf.1.2.1,hf.1.2.2,q _ _ rfl hf.2⟩
 ·exact hf.elim
end L2
namespace L2
open PySem PySem.Spec PyProof.Rows
def xh8 (K:PySem.W.Frag)(tl:TE):TI:=fun σ H R=>tl σ H fun x H1=>∃a,x=.ref a∧(((∃xs,SqL K H1 a xs)∧R (Itl K a) H1)∨((∃xs,SqT K H1 a xs)∧R (Itt K a) H1))
section
variable {X:Cx}
theorem yS (K:PySem.W.Frag)(hl:PE X l tl)(e:X.K=K:=by rfl):PI X tg l (xh8 K tl):=by
 subst e
 intro pins s σ H R I h
 refine thn (@hl pins s σ H _ I h) fun v s1 ⟨x,H1,I1,r1,q1⟩=>?_
 obtain⟨a,e,q⟩:=q1
 subst e
 cases r1
 rcases q with ⟨⟨xs,hq⟩,q⟩ | ⟨⟨xs,hq⟩,q⟩
 ·obtain⟨its,rv,p,hz⟩:=I1.list hq
  refine wpAny_pyIter_list p.isList ?_
  refine⟨s1.heap.objs.size,[s1.heap.objs.size],_,_,H1,rfl,I1.kept (t':=s1.toks) fun b o e=>Heap.get?_push_of_some _ e,xaQ a _,⟨_,Heap.get?_push_size _ rfl,rfl,rfl⟩,fun b hb=>?_,q⟩
  have e:b=s1.heap.objs.size:=by simpa using hb
  subst e
  exact I1.fpOk (xlb _) (I1.hok.fresh (xlb _))
 ·obtain⟨its,rv,p,hz⟩:=I1.tuple hq
  refine wpAny_pyIter_tuple (show s1.heap.IsTuple a its.toArray from p) ?_
  refine⟨s1.heap.objs.size,[s1.heap.objs.size],_,_,H1,rfl,I1.kept (t':=s1.toks) fun b o e=>Heap.get?_push_of_some _ e,lM a _,⟨_,Heap.get?_push_size _ rfl,rfl,rfl⟩,fun b hb=>?_,q⟩
  have e:b=s1.heap.objs.size:=by simpa using hb
  subst e
  exact I1.fpOk (xlb _) (I1.hok.fresh (xlb _))
end
section
variable {K:PySem.W.Frag}
theorem yC (h:OkE K b te d):OkI K b (xh8 K te) (xiR d):=fun B φ σ τ H R KK Rs hd q =>
 h B φ σ τ H _ _ Rs hd fun t v H1 x1 k1 r1=>by
  cases t with
  | lst ts =>
   obtain⟨a,ws,e,n,ha,rl⟩:=id r1
   subst e
   exact⟨a,rfl,.inl ⟨⟨ws,SqL.of ha⟩,q _ ts _ H1 x1 k1 xcT fun p hp=>by
    cases xkU.mp hp
    exact r1⟩⟩
  | tup ts =>
   obtain⟨a,ws,e,n,ha,rl⟩:=id r1
   subst e
   exact⟨a,rfl,.inr ⟨⟨ws,SqT.of ha⟩,q _ ts _ H1 x1 k1 xfO fun p hp=>by
    cases xkU.mp hp
    exact r1⟩⟩
  | _=>exact k1.elim
theorem sk:xhC K (xh8 K (rz i)) (xhN i):=fun B φ σ τ H R KK Rs hd q=>by
 obtain⟨v,e,a,ea,s,r⟩:=xcX (i:=i) B φ σ τ H R KK Rs hd q
 exact⟨v,e,a,ea,.inl ⟨s,r⟩⟩
end
def Ite (K:PySem.W.Frag)(b:Bool)(a:Addr):It :=
 ⟨fun i H=>∃xs x,Sq2 K b H a xs∧xs[i]? = some x,
  fun i H v H'=>∃x q,(∀xs,Sq2 K b H a xs→xs[i]? = some x)∧v=.ref q∧H q=none∧H'=upd H q (.tup [.int i,x]),
  fun i H=>∃xs,Sq2 K b H a xs∧xs.length≤i⟩
theorem Inv.sq2_inj (I:Inv X pins σ H s)(h:Sq2 X.K b H a xs)(h':Sq2 X.K b H a ys):xs=ys:=by
 cases b with
 | true=>exact I.tuple_inj (show SqT X.K H a xs from h) h'
 | false=>exact I.list_inj (show SqL X.K H a xs from h) h'
theorem xcU (D:Drw it a vs tn src)(hne:a≠it)(hh:A.handled=none) :
  Draws prog w A it [it,a] vs.length (fun i x=>vs[i]? = some x) (fun i h=>tn i h∧src h) where
 live:=fun i h st=>let ⟨o,e,_⟩:=D.ob i h st.1;⟨o,e⟩
 frame:=fun i h h' st k=>⟨D.mv _ _ _ st.1 (k it (by simp)),D.smv _ _ st.2 (k a (by simp))⟩
 item:=fun i s Q E hi st hQ=>D.item prog w A E i vs[i] s Q st.1 st.2 (xki hi) fun h' t' sb=>hQ _ h' s.toks (xki hi) ⟨t',D.smv _ _ st.2 fun o e=>sb.extBut _ o hne e⟩ sb
 done:=fun s Q E st hE=>D.fin prog w A E vs.length s Q hh st.1 st.2 (xkj (xlb _)) hE
section
variable {P:Program} {w:World} {K:PySem.W.Frag} {e it a:Addr} {b:Bool}
def ESt (b:Bool)(e it a:Addr)(i:Nat)(h:Heap):Prop:=(∃old,IsEnum h e it i old)∧Tn2 b it a i h
theorem xbY (hei:e≠it)(hea:a≠e)(hia:a≠it):Turn P w K (.Tuple elts kk pp) (Ite K b a) [e,it] e (ESt b e it a) where
 mem:=by simp
 obj:=fun i h st c hc=>by
  obtain⟨⟨old,s1⟩,s2⟩:=st
  simp only[xkJ,xkY,xly] at hc
  rcases hc with z | z<;>subst z
  ·exact⟨_,s1,fun v=>by simp⟩
  ·exact(tU b _ a []).ob _ _ s2
 keep:=fun i h h' st k=>by
  obtain⟨⟨old,s1⟩,s2⟩:=st
  exact⟨⟨old,k _ (by simp) _ s1⟩,(tU b it a []).mv _ _ _ s2 fun o e=>k _ (by simp) o e⟩
 item:=by
  intro X hP hw hK hc i pins s σ H E I hf st hg
  subst hP hw hK
  obtain⟨⟨old,s1⟩,s2⟩:=st
  obtain⟨xs,x,sq1,hx⟩:=hg
  obtain⟨vs,rv,c1⟩:=I.sq2 sq1
  obtain⟨xv,ex,rx⟩:=rv.get hx
  have hi:i<vs.length:=(xkk.mp ex).1
  have fr:H s.heap.objs.size=none:=I.hok.fresh (xlb _)
  have D:=xcU (prog:=X.prog) (w:=X.w) (A:=X.A.in1) (tU b it a vs) hia (show X.A.in1.handled=none from I.ok.hd hc)
  refine wpAny_pyNext_enum_itemD D s1 ⟨s2,c1⟩ hi hei (by simp[hei,Ne.symm hea]) fun xv' g tk hP ho st' hT hsz kp=>⟨_,rfl,?_⟩
  rw[ex] at hP;cases hP
  refine wpAny_letOwnedTupleGo_enum ho fun g2 he2 S2=>?_
  have lte:e<s.heap.objs.size:=Heap.lt_size s1
  have kp2:∀c o,c∉[e,it]→s.heap.get? c=some o→g2.get? c=some o:=fun c o hc e=>by
   simp only[xkJ,xkY,xly,not_or] at hc
   exact S2.extBut _ _ hc.1 (kp c o hc.1 hc.2 e)
  have T2:=S2.extBut _ _ (xll lte) hT
  have st2:ESt b e it a (i+1) g2:=⟨⟨_,by simpa using he2⟩,(tU b it a vs).mv _ _ _ st'.1 fun o q=>S2.extBut _ o (Ne.symm hei) q⟩
  have nfp:∀c u,H c=some u→c∉[e,it]:=fun c u q hm=>by rw[(hf c hm).1] at q;cases q
  have nT:∀c o,s.heap.get? c=some o→c≠s.heap.objs.size:=fun c o e=>xlm (Heap.lt_size e)
  refine⟨.ref s.heap.objs.size,upd H s.heap.objs.size (.tup [.int i,x]),?_,rfl,⟨x,_,fun xs' h'=>by rw[←I.sq2_inj sq1 h'];exact hx,rfl,fr,rfl⟩,st2,fun c hm=>?_⟩
  ·show Inv X pins σ (upd H s.heap.objs.size (.tup [.int i,x])) { s with heap:=g2,gens:=s.gens,drawn:=s.drawn,toks:=tk+1 }
   refine Inv.step (s:=s) (g':=s.gens) (d':=s.drawn) (t':=tk+1) (ch:=[e,it]) I (fun c hm=>?_) (fun c o _ _ hm e _=>kp2 c o hm e) (fun c o _ _ hm e _=>⟨o.slots,kp2 c o hm e⟩) (fun c o hm e n=>by rw[xY (nT c o e)];exact n) (fun c o hm e=>⟨o,kp2 c o hm e⟩)
    (fun c zs e=>by rw[xY (xK e fr)];exact e) (fun c o u e=>by rw[xY (xK e fr)];exact e) (fun c ps e=>⟨#[],by rw[xY (xK e fr),e];simp⟩) (fun m hm=>?_) (fun c u e=>?_) I.bare
   ·obtain⟨_,f1,_,f3,f4,f5⟩:=hf c hm
    exact⟨f3,f1,f4,f5⟩
   ·obtain⟨o,es,ep,ho,r⟩:=hm
    exact⟨o,es,ep,kp2 _ o (fun z'=>(hf _ z').2.1 rfl) ho,r⟩
   ·by_cases hc':c=s.heap.objs.size
    ·subst hc'
     rw[ya] at e
     cases e
     exact⟨by show 2≤sizeLine;decide,[.int i tk,xv],.cons ⟨_,rfl⟩ (.cons rx .nil),_,T2,rfl,0,rfl⟩
    ·rw[xY hc'] at e
     refine(I.hok c u e).stay (fun c' v hcc q'=>kp2 c' v ?_ q') (fun c' q'=>by rw[xY (xK q' fr)];exact q') (fun c' zs q'=>by rw[xY (xK q' fr)];exact q') fun c' o u q'=>by rw[xY (xK q' fr)];exact q'
     rcases hcc with rfl | hcc
     ·exact nfp _ _ e
     ·exact nfp _ _ hcc
  ·rw[xY]
   ·exact(hf c hm).1
   ·simp only[xkJ,xkY,xly] at hm
    rcases hm with z | z<;>subst z
    ·exact nT _ _ s1
    ·obtain⟨o,e,_⟩:=(tU b _ a []).ob _ _ s2;exact nT _ _ e
 done:=by
  intro X hP hw hK hc i pins s σ H E I hf st hg
  subst hP hw hK
  obtain⟨⟨old,s1⟩,s2⟩:=st
  obtain⟨xs,sq1,hend⟩:=hg
  obtain⟨vs,rv,c1⟩:=I.sq2 sq1
  have hT:s.TypeIs (.ref e) "enumerate" := ⟨_,s1,rfl⟩
  unfold pyNext
  refine wpAny_bind (wpAny_attempt (wpAny_callSpecial?_slot (name:=Str.ofString "__next__") hT F.slot_enumerate_next (wpAny_call_entry F.slot_enumerate_next hT F.entry_enumerate_next ?_ (F.args_enumerate_next_1 _))))
  show wpAny _ _ (field (.ref e) 2 >>= _) _ _ _
  refine wpAny_bind (wpAny_field s1 rfl (x:=.ref it) rfl ?_)
  refine wpAny_bind ((tU b it a vs).fin _ _ _ _ i s _ (I.ok.hd hc) s2 c1 (xkj (by rw[←rv.length];exact hend)) fun g x kp hx'=>?_)
  obtain⟨o,ho,hcl⟩:=hx'
  refine wpAny_bind (wpAny_isInstance (T := "StopIteration") (b:=true) ⟨o,ho,hcl⟩ isSubtype_stop (wpAny_pure ⟨rfl,?_⟩))
  have kp2:∀c o,c∉[e,it]→s.heap.get? c=some o→g.get? c=some o:=fun c o hc q=>by
   simp only[xkJ,xkY,xly,not_or] at hc
   exact kp c o hc.2 q
  have nfp:∀c u,H c=some u→c∉[e,it]:=fun c u q hm=>by rw[(hf c hm).1] at q;cases q
  refine Inv.step (s:=s) (g':=s.gens) (d':=s.drawn) (t':=s.toks) (ch:=[e,it]) I (fun c hm=>?_) (fun c o _ _ hm e _=>kp2 c o hm e) (fun c o _ _ hm e _=>⟨o.slots,kp2 c o hm e⟩) (fun c o hm e n=>n) (fun c o hm e=>⟨o,kp2 c o hm e⟩)
   (fun c zs e=>e) (fun c o u e=>e) (fun c ps e=>⟨#[],by rw[e];simp⟩) (fun m hm=>?_) (fun c u e=>?_) I.bare
  ·obtain⟨_,f1,_,f3,f4,f5⟩:=hf c hm
   exact⟨f3,f1,f4,f5⟩
  ·obtain⟨o,es,ep,ho,r⟩:=hm
   exact⟨o,es,ep,kp2 _ o (fun z'=>(hf _ z').2.1 rfl) ho,r⟩
  ·refine(I.hok c u e).stay (fun c' v hcc q'=>kp2 c' v ?_ q') (fun _ q'=>q') (fun _ _ q'=>q') fun _ _ _ q'=>q'
   rcases hcc with rfl | hcc
   ·exact nfp _ _ e
   ·exact nfp _ _ hcc
 self:=fun A i s Q E st h=>by
  obtain⟨⟨old,s1⟩,_⟩:=st
  exact wpAny_pyIter_enum s1 h
end
open AutoSeq1 (wpAny_loadPart') in
theorem kT (l:Addr)(items:Array Value)(n:Nat)(dct:Option Addr)(sl:Array (Option Value)) :
  Meets (Builtin.«enumerate.__new__» ⟨[.type "enumerate", .ref l],[]⟩) (fun _ R s=>s.heap.get? l=some { cls:=.type "tuple", dict:=dct,data:=.seq items n,slots:=sl } ∧
   R (.ok (.ret (.ref (s.heap.push { cls:=.type "tuple_iterator", data:=.fields #[.ref l,.int 0 0] }).objs.size)))
    { s with heap:=(s.heap.push { cls:=.type "tuple_iterator", data:=.fields #[.ref l,.int 0 0] }).push { cls:=.type "enumerate", data:=.fields #[.none,.bool false,.ref s.heap.objs.size,rawInt 0,.none,.none] } }) :=
 .of_wp fun prog w A R s h=>by
  obtain⟨hp,g,d,tk,os⟩:=s;obtain⟨hl,h⟩:=h
  have hsub:=sub_enumerate
  have hL:Heap.IsTuple (Shared.heap ⟨hp,g,d,tk,os⟩) l items:=⟨_,hl,rfl,n,rfl⟩
  wp_walk using wpAny_loadPart' hl
  refine wpAny_stack_any fun st=>wpAny_pure ?_
  split
  ·rename_i c _ _ _ _ _
   cases (c == Value.type "enumerate")
   ·wp_walk using wpAny_loadPart' hl,wpAny_pyIter_tuple hL
    exact⟨_,rfl,h⟩
   ·wp_walk using wpAny_loadPart' hl,wpAny_pyIter_tuple hL
    exact⟨_,rfl,h⟩
  ·wp_walk using wpAny_loadPart' hl,wpAny_pyIter_tuple hL
   exact⟨_,rfl,h⟩
section
variable {prog:Program} {w:World} {A:Around} {E:Value→Shared→Prop} {s:Shared}
theorem kS (hL:s.heap.IsTuple l items)
  (h:∀h',IsEnum h' (s.heap.objs.size+1) s.heap.objs.size 0 .none→h'.IsTupleIter s.heap.objs.size l 0→h'.objs.size=s.heap.objs.size+2 →
   (∀b o,s.heap.get? b=some o→h'.get? b=some o)→Q (.ref (s.heap.objs.size+1)) { s with heap:=h' }) :
  wpAny (model prog w) A (call (.type "enumerate") [.ref l]) Q E s:=by
 obtain⟨⟨c,dct,dt,sl⟩,hl,hc,n,hd⟩:=hL
 replace hc:c=.type "tuple" := hc
 replace hd:dt=.seq items n:=hd
 subst hc hd
 refine callType_new F.called_enumerate (by decide) (F.typeCall_enumerate_1 _) (F.newCall_enumerate_1 _) (fun obj=>F.args_object_init_2 obj _) F.entry_enumerate_new
  (kT l items n dct sl) ⟨hl,?_⟩
 have hz:(s.heap.push { cls:=.type "tuple_iterator", data:=.fields #[.ref l,.int 0 0] }).objs.size=s.heap.objs.size+1:=Heap.size_push ..
 show _∧_
 rw[hz]
 have he:IsEnum ((s.heap.push { cls:=.type "tuple_iterator", data:=.fields #[.ref l,.int 0 0] }).push
   { cls:=.type "enumerate", data:=.fields #[.none,.bool false,.ref s.heap.objs.size,rawInt 0,.none,.none] }) (s.heap.objs.size+1) s.heap.objs.size 0 .none:=by
  have:=Heap.get?_push_size (s.heap.push { cls:=.type "tuple_iterator", data:=.fields #[.ref l,.int 0 0] })
   (o:={ cls:=.type "enumerate", data:=.fields #[.none,.bool false,.ref s.heap.objs.size,rawInt 0,.none,.none] }) rfl
  rw[hz] at this;exact this
 refine⟨⟨_,he,rfl⟩,h _ he ⟨_,Heap.get?_push_of_some _ (Heap.get?_push_size _ rfl),rfl,rfl⟩ (by rw[Heap.size_push,hz]) fun b o x=>Heap.get?_push_of_some _ (Heap.get?_push_of_some _ x)⟩
end
theorem bM:bootBuiltins "enumerate" = some (.type "enumerate"):=by decide +kernel
def xgw (K:PySem.W.Frag)(ta:TA):TI:=fun σ H R=>ta σ H fun vs H1=>∃(b:Bool) (a:Addr) (xs:List V),vs=[.ref a]∧Sq2 K b H1 a xs∧R (Ite K b a) H1
section
variable {X:Cx}
theorem rQ (K:PySem.W.Frag)(hg:Gl X "enumerate")(hm:X.mg "enumerate" = none)(ha:PA X [a] ta)(hs:starEach [a] X.env=[(false,eval a X.env)]:=by rfl)(eK:X.K=K:=by rfl) :
  PI X (.Tuple elts kk pp) (.Call (.Name "enumerate" p) [a] [] pos) (xgw K ta):=by
 subst eK
 intro pins s σ H R I h
 refine Call_ (rA I hg hm bM (PyProof.Rows.callWith_type1 (thn (@ha pos pins s σ H _ I h) fun us s1 ⟨vs,H1,I1,r1,q1⟩=>?_) (by rw[hs];rfl) (by rfl)))
 obtain⟨bb,a1,xs,e,sq1,q⟩:=q1
 subst e
 obtain⟨u1,rfl,ru⟩:=vals1 r1
 obtain rfl:u1=Value.ref a1:=ru
 obtain⟨vs,rv,c1⟩:=I1.sq2 sq1
 have mk:∀g,ESt bb (s1.heap.objs.size+1) s1.heap.objs.size a1 0 g→a1<s1.heap.objs.size→(∀c o,s1.heap.get? c=some o→g.get? c=some o) →
   wpAny (model X.prog X.w) X.A (pyIter (.ref (s1.heap.objs.size+1))) (PIE X pins σ (.Tuple elts kk pp) R) X.xe { s1 with heap:=g }:=fun g st la kp=>by
  obtain⟨⟨old,he⟩,st2⟩:=st
  refine wpAny_pyIter_enum he ⟨_,[s1.heap.objs.size+1,s1.heap.objs.size],ESt bb (s1.heap.objs.size+1) s1.heap.objs.size a1,_,H1,rfl,I1.kept (t':=s1.toks) kp,
   xbY (Nat.succ_ne_self _) (xlm (xlh la)) (xlm la),⟨⟨old,he⟩,st2⟩,fun b hb=>?_,q⟩
  simp only[xkJ,xkY,xly] at hb
  rcases hb with rfl | rfl
  ·exact I1.fpOk (xlc _) (I1.hok.fresh (xlc _))
  ·exact I1.fpOk (xlb _) (I1.hok.fresh (xlb _))
 cases bb with
 | true =>
  have c1:s1.heap.IsTuple a1 vs.toArray:=c1
  refine kS c1 ?_
  intro g z1 z2 _ kp
  refine mk g ⟨⟨_,z1⟩,z2⟩ ?_ kp
  obtain⟨o,e,_⟩:=c1;exact Heap.lt_size e
 | false =>
  have c1:s1.heap.IsList a1 vs.toArray:=c1
  refine call_enumerate_list c1 ?_
  intro g z1 z2 _ kp
  refine mk g ⟨⟨_,z1⟩,z2⟩ ?_ kp
  obtain⟨o,e,_⟩:=c1;exact Heap.lt_size e
end
def lU:Nat→List Tr→List Tr
 | _,[]=>[]
 | k,t::ts=>.tup [.int k,t]::lU (k+1) ts
def qy (ts:List Tr):List Tr:=lU 0 ts
theorem uN:∀(k:Nat) (ts:List Tr),(lU k ts).length=ts.length
 | _,[]=>rfl
 | k,_::ts=>by show(lU (k+1) ts).length+1=_;rw[uN];rfl
theorem jV:∀ {k:Nat} {ts:List Tr} {i:Nat} {t:Tr},ts[i]? = some t→(lU k ts)[i]? = some (.tup [.int ((k+i:Nat):Int),t])
 | _,[],_,_,h=>by simp at h
 | k,x::ts,0,t,h=>by simp at h;subst h;rfl
 | k,x::ts,i+1,t,h=>by
  show(lU (k+1) ts)[i]? = _
  rw[jV (k:=k+1) (ts:=ts) (i:=i) (by simpa using h)]
  rw[show k+1+i=k+(i+1) by omega]
section
variable {K:PySem.W.Frag}
theorem xcp:ItL (Ite K false a) (qy ts) [(.lst ts,.ref a)] where
 go:=fun F H i s hi=>by
  obtain⟨a',ws,e,n,h,r⟩:=s _ xkL
  cases e
  rw[show(qy ts).length=ts.length from uN 0 ts] at hi
  obtain⟨w,e1,_⟩:=r.getT (xki hi)
  exact⟨ws,w,SqL.of h,e1⟩
 stop:=fun F H s=>by
  obtain⟨a',ws,e,n,h,r⟩:=s _ xkL
  cases e
  exact⟨ws,SqL.of h,by rw[show(qy ts).length=ts.length from uN 0 ts,←r.len];exact xlb _⟩
 yld:=fun F i H x H' s d hi y=>by
  obtain⟨a',ws,e,n,h,r⟩:=s _ xkL
  cases e
  obtain⟨v,q,hv,rfl,hq,rfl⟩:=y
  obtain⟨t,e1,e2⟩:=r.get (hv ws (SqL.of h))
  refine⟨.inr ⟨q,_,hq,rfl⟩,.tup [.int i,t],?_,q,_,rfl,fun z=>d q z hq,ya,⟨_,_,rfl,rfl,_,_,rfl,tF hq e2,rfl⟩⟩
  have:=jV (k:=0) e1
  rw[Nat.zero_add] at this
  exact this
theorem xaR:ItL (Ite K true a) (qy ts) [(.tup ts,.ref a)] where
 go:=fun F H i s hi=>by
  obtain⟨a',ws,e,n,h,r⟩:=s _ xkL
  cases e
  rw[show(qy ts).length=ts.length from uN 0 ts] at hi
  obtain⟨w,e1,_⟩:=r.getT (xki hi)
  exact⟨ws,w,SqT.of h,e1⟩
 stop:=fun F H s=>by
  obtain⟨a',ws,e,n,h,r⟩:=s _ xkL
  cases e
  exact⟨ws,SqT.of h,by rw[show(qy ts).length=ts.length from uN 0 ts,←r.len];exact xlb _⟩
 yld:=fun F i H x H' s d hi y=>by
  obtain⟨a',ws,e,n,h,r⟩:=s _ xkL
  cases e
  obtain⟨v,q,hv,rfl,hq,rfl⟩:=y
  obtain⟨t,e1,e2⟩:=r.get (hv ws (SqT.of h))
  refine⟨.inr ⟨q,_,hq,rfl⟩,.tup [.int i,t],?_,q,_,rfl,fun z=>d q z hq,ya,⟨_,_,rfl,rfl,_,_,rfl,tF hq e2,rfl⟩⟩
  have:=jV (k:=0) e1
  rw[Nat.zero_add] at this
  exact this
def xgG (d:DA):DI:=fun τ KK=>d τ fun xs=>match xs with | [.tup ts]=>KK (qy ts) | [.lst ts]=>KK (qy ts) | _=>False
theorem fO (h:OkA K b n ta da):OkI K b (xgw K ta) (xgG da):=fun B φ σ τ H R KK Rs hd q =>
 h B φ σ τ H _ _ Rs hd fun ts vs H1 x1 k1 l1 r1=>by
  split at k1
  ·rename_i us
   obtain⟨v,rfl,r⟩:=dq r1
   obtain⟨a,ws,e,n,ha,rl⟩:=id r
   subst e
   exact⟨true,a,ws,rfl,SqT.of ha,q _ _ _ H1 x1 k1 xaR fun p hp=>by
    cases xkU.mp hp
    exact r⟩
  ·rename_i us
   obtain⟨v,rfl,r⟩:=dq r1
   obtain⟨a,ws,e,n,ha,rl⟩:=id r
   subst e
   exact⟨false,a,ws,rfl,SqL.of ha,q _ _ _ H1 x1 k1 xcp fun p hp=>by
    cases xkU.mp hp
    exact r⟩
  ·exact k1.elim
end
end L2
namespace L2
open PySem PySem.Spec PyProof.Rows
def xgf (K:PySem.W.Frag):R2:=fun x y H Q=>∃a b xs ys,x=.ref a∧y=.ref b∧SqT K H a xs∧SqT K H b ys∧xs.length+ys.length≤sizeLine ∧
 (xs=[]→Q (.ref b) H)∧(xs≠[]→ys=[]→Q (.ref a) H)∧(xs≠[]→ys≠[]→∀p,H p=none→Q (.ref p) (upd H p (.tup (xs++ys))))
section
variable {X:Cx}
theorem xeZ:OpR X (binaryOp .Add) (xgf X.K):=by
 intro pins s σ H x y v u Q I rx ry h
 obtain⟨a,b,xs,ys,rfl,rfl,ha,hb,hz,q0,q1,q2⟩:=h
 by_cases hx:xs=[]
 ·cases rx
  cases ry
  obtain⟨its,r1,p1,_⟩:=I.tuple ha
  obtain⟨its2,r2,p2,_⟩:=I.tuple hb
  obtain⟨⟨cls,dd,data,sl⟩,ho,hc,n,hd⟩:=id p1
  obtain⟨⟨cls2,dd2,data2,sl2⟩,ho2,hc2,n2,hd2⟩:=id p2
  simp only at hc hd hc2 hd2
  subst hc hd hc2 hd2
  have hv:its=[]:=r1.nil_iff.mpr hx
  exact concat_meets ⟨_,ho,rfl⟩ ⟨_,ho2,rfl⟩ noFill_tuple_add seq_tuple_add PySem.F.slot_tuple_add PySem.F.entry_tuple_add (PySem.F.args_tuple_add_2 _ _)
   (tuple_addW0 a b its.toArray its2.toArray n n2 dd dd2 sl sl2 (by simp[hv])) ⟨ho,ho2,⟨.ref b,H,I,rfl,q0 hx⟩⟩
 ·exact xfk pins s σ H _ _ _ _ Q I rx ry ⟨a,b,xs,ys,rfl,rfl,ha,hb,hx,hz,q1 hx,q2 hx⟩
end
section
variable {X:Cx}
def xgz (K:PySem.W.Frag):R2:=fun x y H Q=>(rI0 fun i j=>.int (i+j)) x y H Q∨xhu x y H Q∨xgf K x y H Q
theorem xfE (K:PySem.W.Frag)(e:X.K=K:=by rfl):OpR X (binaryOp .Add) (xgz K):=by subst e;exact wc.or (aL.or xeZ)
def xiQ (K:PySem.W.Frag):R2:=fun x y H Q=>(rI0 fun i j=>.bl (decide (i<j))) x y H Q∨xii K x y H Q
theorem vE (K:PySem.W.Frag)(hu:X.A.units+64<cLine)(e:X.K=K:=by rfl):OpR X (compareOp .Lt) (xiQ K):=by subst e;exact xge.or (xhk (xlf (xk_ _ _) hu))
end
section
variable {prog:Program} {w:World} {A:Around} {E:Value→Shared→Prop} {s:Shared}
theorem jF {t sl:Addr}{items:Array Value}{vl vu:Value}{lo hi:Option Int}{Q:Value→Shared→Prop}(ht:IsTup s.heap t items)(hs:s.heap.IsSliceOf sl vl vu .none)(pl:IsPart vl lo)(pu:IsPart vu hi)
  (hw:HT.sIx items.size 0 lo=0∧HT.sIx items.size items.size hi=items.size) (h:Q (.ref t) s):wpAny (model prog w) A (getItem (.ref t) (.ref sl)) Q E s:=by
 obtain⟨os,hos,hcs,hds⟩:=id hs
 have hTs:s.TypeIs (.ref sl) "slice" := ⟨os,hos,hcs⟩
 unfold getItem
 try with_reducible refine wpAny_holding ?_
 first | refine wpAny_bind (wpAny_pure ?_) | skip
 refine wpAny_bind (wpAny_sequenceKey ht.typeIs (by decide) ?_)
 refine wpAny_bind (wpAny_callSpecial?_slot (name:=Str.ofString "__getitem__") ht.typeIs PyProof.Rows.slot_tuple_getitem
  (wpAny_call_entry PyProof.Rows.slot_tuple_getitem ht.typeIs entry_tuple_getitem ?_ (args_tuple_getitem _ _)))
 show wpAny _ _ (Builtin.Tuple.tupleItemsOf (.ref t) >>= _) _ _ s
 refine wpAny_bind (tupleItemsOf_ ht ?_)
 refine wpAny_bind (wpAny_typeOf hTs ?_)
 rw[if_pos (by decide)]
 refine wpAny_bind (HT.qu hs pl pu ?_)
 have hyes:(((HT.sIx items.size 0 lo:Nat):Int) == 0&&(1:Int) == 1&&(HT.sIx items.size items.size hi-HT.sIx items.size 0 lo) == items.size)=true:=by
  rw[hw.1,hw.2];simp
 show wpAny _ _ (if (((HT.sIx items.size 0 lo:Nat):Int) == 0&&(1:Int) == 1&&(HT.sIx items.size items.size hi-HT.sIx items.size 0 lo) == items.size)=true then _ else _) _ _ s
 rw[if_pos hyes]
 have hex:∀ {Q':Bool→Shared→Prop} {E':Value→Shared→Prop} {A':Around},Q' true s→wpAny (model prog w) A' (Builtin.Tuple.tupleIsExact (.ref t)) Q' E' s:=fun {Q' E' A'} hq=>by
  unfold Builtin.Tuple.tupleIsExact
  refine wpAny_bind (wpAny_typeOf ht.typeIs (wpAny_pure ?_))
  have e:(Value.type "tuple" == Value.type "tuple")=true:=by decide
  rw[e];exact hq
 refine wpAny_bind (hex ?_)
 rw[if_pos rfl]
 exact wpAny_bind (wpAny_rule (wpAny_pure ⟨_,rfl,wpAny_pure h⟩))
end
section
variable {X:Cx}
def xgH (K:PySem.W.Frag):V→Option Int→Option Int→Hp→VK→Prop:=fun x lo hi H Q=>∃a xs,x=.ref a∧SqT K H a xs ∧
 (l_ xs lo hi=xs→Q (.ref a) H)∧∀p,H p=none→Q (.ref p) (upd H p (.tup (l_ xs lo hi)))
theorem xeP:SlR X (xgH X.K):=by
 intro pins s σ H x v vl vu lo hi sl Q I rx hs pl pu h
 obtain⟨a,xs,rfl,hx,q0,q⟩:=h
 by_cases hw:HT.sIx xs.length 0 lo=0∧HT.sIx xs.length xs.length hi=xs.length
 ·cases rx
  obtain⟨its,r,ht,hz⟩:=I.tuple hx
  have hlen:its.toArray.size=xs.length:=by rw[xk2];exact r.length.symm
  refine⟨"tuple", _,PyProof.Rows.slot_tuple_getitem.lookup,ht.typeIs,?_⟩
  refine jF ht hs pl pu (by rw[hlen];exact hw) ⟨.ref a,H,I,rfl,q0 ?_⟩
  unfold l_
  rw[hw.1,hw.2,xj8,Nat.sub_zero,xk6]
 ·exact xgD pins s σ H _ v vl vu lo hi sl Q I rx hs pl pu ⟨a,xs,rfl,hx,hw,q⟩
def xis (K:PySem.W.Frag):V→Option Int→Option Int→Hp→VK→Prop:=fun x lo hi H Q=>xf3 K x lo hi H Q∨xgH K x lo hi H Q
theorem xbu (K:PySem.W.Frag)(e:X.K=K:=by rfl):SlR X (xis K):=by
 subst e
 intro pins s σ H x v vl vu lo hi sl Q I rx hs pl pu h
 rcases h with h | h
 ·exact xbN pins s σ H x v vl vu lo hi sl Q I rx hs pl pu h
 ·exact xeP pins s σ H x v vl vu lo hi sl Q I rx hs pl pu h
def xck:V→List V→Hp→VK→Prop:=fun x vs H Q=>∃(l:Addr) (xs:List V) (y:V) (k:Nat),x=.ref l∧vs=[.int k,y]∧H l=some (.lst xs)∧xs.length<sizeLine∧k≤xs.length∧Q .non (upd H l (.lst (xs.take k++[y]++xs.drop k)))
theorem xgk (I:Inv X pins σ H s)(hH:H l=some (.lst xs))(hz:xs.length<sizeLine)(ki:Int)(k:Nat)(t1:Tok)(hk1:0≤ki)(hk3:ki≤(xs.length:Int))(hkt:ki.toNat=k)
  (ru:RelV y u2) (q:Q .non (upd H l (.lst (xs.take k++[y]++xs.drop k)))):wpAny (model X.prog X.w) X.A (call (.builtin "list.insert") [.ref l,.int ki t1,u2]) (EP X pins σ Q) X.xe s:=by
 obtain⟨z,its,n,r,hl,e⟩:=I.lstM hH
 have hk2:ki<2 ^ 63:=by
  have:xs.length≤16777216:=z
  omega
 have hfit:¬(!Builtin.List.listFitsIndex ki)=true:=by
  rw[fitsIndex_both (by omega) hk2]
  exact xjn
 have hsz:its.toArray.size≤sizeLine:=by rw[xk2];omega
 have hk':k≤its.length:=by omega
 refine call_meets F.slot_list_insert ⟨_,e,rfl⟩ F.entry_list_insert (F.args_list_insert_3 _ _ _) (AutoSeq1.list_insert_list_int_val_1 l its.toArray n ki t1 u2 hfit hsz) ⟨e,?_⟩
 refine⟨.non,_,I.lset (its':=its.take k++[u2]++its.drop k) hH e ?_ ((zQ.append (r.take k) (.cons ru .nil)).append (r.drop k)) ?_,rfl,q⟩
 ·have e1:(if ki<0 then(ki+(its.toArray.size:Int)).toNat else min ki.toNat its.toArray.size)=k:=by
   rw[if_neg (by omega),hkt,xk2,Nat.min_eq_left hk']
  show((its.toArray.extract 0 (if ki<0 then(ki+(its.toArray.size:Int)).toNat else min ki.toNat its.toArray.size)).push u2++its.toArray.extract (if ki<0 then(ki+(its.toArray.size:Int)).toNat else min ki.toNat its.toArray.size))=_
  rw[e1]
  apply Array.toList_inj.mp
  simp
  exact xk7 (by rw[xks];exact xlb _)
 ·simp only[xkq,xkA,xks,xkz]
  omega
theorem xcf:MtM X "list.insert" xck:=by
 intro pins s σ H x vs v us Q I rx rv h
 obtain⟨l,xs,y,k,rfl,rfl,hH,hz,hk,q⟩:=h
 cases rx
 obtain⟨u1,u2,rfl,⟨t1,rfl⟩,ru⟩:=vals2 rv
 have hk1:(0:Int)≤(k:Int):=xjU k
 have hk3:(k:Int)≤(xs.length:Int):=Int.ofNat_le.mpr hk
 have hkt:(k:Int).toNat=k:=xjX k
 generalize (k:Int)=ki at hk1 hk3 hkt ⊢
 exact xgk I hH hz ki k t1 hk1 hk3 hkt ru q
end
section
variable {K:PySem.W.Frag} {fr:Bool}
def xcH (x y:Tr)(KK:Tr→Prop):Prop:=match x,y with
 | .int i,.int j=>KK (.int (i+j))
 | .lst ts,.lst us=>ts.length+us.length≤sizeLine∧KK (.lst (ts++us))
 | .tup ts,.tup us=>ts.length+us.length≤sizeLine∧KK (.tup (ts++us))
 | _,_=>False
theorem xfn (ha:OkE K b ta da)(hb:OkE K b tb db):OkE K b (tOp (xgz K) ta tb) (d2 xcH da db):=fun B φ σ τ H Q KK R hd q =>
 ha B φ σ τ H _ _ R hd fun t v H1 x1 k1 r1=>hb B φ σ τ H1 _ _ (R.hx x1) k1 fun u w H2 x2 k2 r2=>by
  have r1':=x2.rep (fun a s=>R.sB s) r1
  have x:=x1.trans x2
  replace k2:xcH t u KK:=k2
  unfold xcH at k2
  split at k2
  ·rename_i i j
   cases (show v=.int i from r1');cases (show w=.int j from r2)
   exact .inl ⟨i,j,rfl,rfl,q _ _ H2 x k2 rfl⟩
  ·rename_i ts us
   obtain⟨a,ws,e,n,ha',rl⟩:=r1'
   obtain⟨a2,ws2,e2,n2,ha2,rl2⟩:=r2
   exact .inr (.inl ⟨a,a2,ws,ws2,e,e2,ha',ha2,by rw[←rl.len,←rl2.len];exact k2.1,fun p hp=>q _ _ _ (x.trans (HX.new (R.hx x) hp _)) k2.2 ⟨p,_,rfl,fun z=>(R.hx x).domB z hp,ya,uK hp (rl.app rl2)⟩⟩)
  ·rename_i ts us
   obtain⟨a,ws,e,n,ha',rl⟩:=id r1'
   obtain⟨a2,ws2,e2,n2,ha2,rl2⟩:=id r2
   refine .inr (.inr ⟨a,a2,ws,ws2,e,e2,SqT.of ha',SqT.of ha2,by rw[←rl.len,←rl2.len];exact k2.1,fun z=>?_,fun _ z=>?_,fun _ _ p hp=>q _ _ _ (x.trans (HX.new (R.hx x) hp _)) k2.2 ⟨p,_,rfl,fun z=>(R.hx x).domB z hp,ya,uK hp (rl.app rl2)⟩⟩)
   ·have e0:ts=[]:=by
     have:=rl.len;rw[z] at this;exact xkt.mp this
    subst e0
    rw[←e2];exact q _ _ H2 x k2.2 (by rw[xkV];exact r2)
   ·have e0:us=[]:=by
     have:=rl2.len;rw[z] at this;exact xkt.mp this
    subst e0
    rw[←e];exact q _ _ H2 x k2.2 (by rw[xj5];exact r1')
  ·exact k2.elim
def xiN (x y:Tr)(KK:Tr→Prop):Prop:=match x,y with
 | .int i,.int j=>KK (.bl (decide (i<j)))
 | x,y=>∃ns ms:List Int,x=.tup (ns.map Tr.int)∧y=.tup (ms.map Tr.int)∧KK (.bl (HT.lexLt ns ms))
theorem vG:OpS (xiQ K) xiN:=fun F G H x y t u KK Q r1 r2 hf q=>by
 unfold xiN at hf
 split at hf
 ·rename_i i j
  cases (show x=.int i from r1);cases (show y=.int j from r2)
  exact .inl ⟨i,j,rfl,rfl,q _ _ rfl hf⟩
 ·obtain⟨ns,ms,rfl,rfl,k⟩:=hf
  obtain⟨a,ws,e,n,ha,rl⟩:=r1
  obtain⟨a2,ws2,e2,n2,ha2,rl2⟩:=r2
  rw[fY rl] at ha
  rw[fY rl2] at ha2
  exact .inr ⟨a,a2,ns,ms,e,e2,SqT.of ha,SqT.of ha2,q _ _ rfl k⟩
theorem lO {F:Addr→Prop}{H:Hp}{ts:List Tr}{ws:List V}{lo hi:Option Int}(r:zU F H ts ws)(h:l_ ws lo hi=ws):dU ts lo hi=ts:=by
 unfold dU
 unfold l_ at h
 rw[←r.len] at h
 have h1:((ts.drop (HT.sIx ts.length 0 lo)).take (HT.sIx ts.length ts.length hi-HT.sIx ts.length 0 lo)).length=ts.length:=by
  have:=xlq List.length h
  rw[xkA,xks] at this ⊢
  rw[←r.len] at this
  exact this
 have h2:HT.sIx ts.length 0 lo=0∨ts.length=0:=by
  rw[xkA,xks] at h1
  omega
 rcases h2 with h2 | h2
 ·rw[h2,xj8,Nat.sub_zero]
  rw[h2,xkA,xj8,Nat.sub_zero] at h1
  exact xk7 (by omega)
 ·have:ts=[]:=xkt.mp h2
  subst this
  simp
theorem xa7 {b:Bool}{te:TE}{tl th:TO}{d:DE}{dl dh:DO}(h:OkE K b te d)(hl:OkO K tl dl)(hh:OkO K th dh):OkE K b (tSl (xis K) te tl th) (dSl d dl dh):=fun B φ σ τ H Q KK R hd q =>
 h B φ σ τ H _ _ R hd fun t v H1 x1 k1 r1=>hl B φ σ τ H1 _ _ (R.hx x1) k1 fun lo H2 x2 k2=>hh B φ σ τ H2 _ _ (R.hx (x1.trans x2)) k2 fun hi H3 x3 k3=>by
  have r3:=(x2.trans x3).rep (fun a s=>R.sB s) r1
  have x:=(x1.trans x2).trans x3
  cases t with
  | lst ts =>
   obtain⟨a,ws,e,n,ha,rl⟩:=r3
   exact .inl ⟨a,ws,e,SqL.of ha,fun p hp=>q _ _ _ (x.trans (HX.new (R.hx x) hp _)) k3 ⟨p,_,rfl,fun z=>(R.hx x).domB z hp,ya,uK hp (rl.cut lo hi)⟩⟩
  | tup ts =>
   obtain⟨a,ws,e,n,ha,rl⟩:=id r3
   refine .inr ⟨a,ws,e,SqT.of ha,fun z=>?_,fun p hp=>q _ _ _ (x.trans (HX.new (R.hx x) hp _)) k3 ⟨p,_,rfl,fun z=>(R.hx x).domB z hp,ya,uK hp (rl.cut lo hi)⟩⟩
   rw[←e]
   exact q _ _ H3 x k3 (by rw[lO rl z];exact r3)
  | _=>exact k3.elim
def xiF (i:Nat)(dk d:DE):DS:=fun G τ=>match nth τ i with
 | .ow ts=>dk τ fun k=>d τ fun t=>∃n:Nat,k=.int n∧n≤ts.length∧ts.length<sizeLine∧G.nx (τ.set i (.ow (ts.take n++[t]++ts.drop n)))
 | _=>False
theorem xbm (n:Nat)(r:zU F H ts ws):zU F H (ts.take n) (ws.take n):=zL.mpr (jD n (zL.mp r))
theorem xbV (n:Nat)(r:zU F H ts ws):zU F H (ts.drop n) (ws.drop n):=zL.mpr (jy n (zL.mp r))
theorem xeX {b:Bool}{i:Nat}{tk te:TE}{dk d:DE}(hk:OkE K b tk dk)(h:OkE K true te d):OkS K fr (xdG (tBM K "list" xck (rz i) (vJ tk (vJ te xab)))) (xiF i dk d):=fun B φ σ τ H E G R hd e=>by
 have en:=R.ent i
 unfold xiF at hd
 revert en hd
 cases hi:nth τ i with
 | ow ts =>
  intro hd ⟨a,ws,e1,e2,e3,e4,r⟩
  refine⟨_,e1,.inl ⟨rfl,_,SqL.of e4⟩,hk B φ σ τ H _ _ R hd fun t0 v0 H0 x0 k0 r0=>h B φ σ τ H0 _ _ (R.hx x0) k0 fun t v H1 x1 k1 r1=>?_⟩
  obtain⟨n,rfl,hn,hz,k1⟩:=k1
  cases (show v0=.int n from r0)
  obtain⟨ws',f4,f5,_⟩:=kH R (x0.trans x1) hi e1
  exact⟨a,ws',v,n,rfl,rfl,f4,by rw[←f5.len];exact hz,by rw[←f5.len];exact hn,e.nx φ σ _ _ ((R.hx (x0.trans x1)).wrOw hi e1 (((xbm n f5).app (show zU _ _ [t] [v] from⟨v,[],rfl,r1,rfl⟩)).app (xbV n f5))) k1⟩
 | _=>exact fun z _=>z.elim
end
end L2
namespace L2
open PySem PySem.Spec PyProof.Rows
def xfG (b:Bool):String:=if b then "tuple_iterator" else "list_iterator"
abbrev za1 (b:Bool)(h:Heap)(a:Addr):Heap:=h.push { cls:=.type (xfG b),data:=.fields #[.ref a,.int 0 0] }
abbrev za2 (b c:Bool)(h:Heap)(a d:Addr):Heap:=(za1 b h a).push { cls:=.type (xfG c),data:=.fields #[.ref d,.int 0 0] }
abbrev za3 (b c:Bool)(h:Heap)(a d:Addr):Heap:=(za2 b c h a d).push { cls:=.type "tuple", data:=.seq #[.ref h.objs.size,.ref (za1 b h a).objs.size] }
abbrev za4 (b c:Bool)(h:Heap)(a d:Addr):Heap:=(za3 b c h a d).push { cls:=.type "tuple", data:=.seq #[.none,.none] }
abbrev za5 (b c:Bool)(h:Heap)(a d:Addr):Heap:=(za4 b c h a d).push { cls:=.type "zip", data:=.fields #[.none,.bool false,.bool false,.ref (za2 b c h a d).objs.size,.ref (za3 b c h a d).objs.size] }
theorem dn (h:xar b a vs s.heap)(q:Q (.ref s.heap.objs.size) { s with heap:=za1 b s.heap a }):wpAny (model prog w) A (pyIter (.ref a)) Q E s:=by
 cases b with
 | true=>exact wpAny_pyIter_tuple (show s.heap.IsTuple a vs.toArray from h) q
 | false=>exact wpAny_pyIter_list (show s.heap.IsList a vs.toArray from h) q
theorem xav (s:xar b a vs h)(o:Obj):xar b a vs (h.push o):=(tU b 0 a vs).smv _ _ s fun o' e=>Heap.get?_push_of_some _ e
theorem xbJ (b c:Bool)(a d:Addr)(xs ys:List Value):Meets (Builtin.«zip.__new__» ⟨[.type "zip", .ref a,.ref d],[]⟩) (fun _ R s=>xar b a xs s.heap∧xar c d ys s.heap∧R (.ok (.ret (.ref (za4 b c s.heap a d).objs.size))) { s with heap:=za5 b c s.heap a d }) :=
 .of_wp fun prog w A R s h=>by
  obtain⟨hp,g,dd,tk,os⟩:=s
  obtain⟨ha,hb,h⟩:=h
  have hsub:=sub_zip
  have A1:xar b a xs (Shared.heap ⟨hp,g,dd,tk,os⟩):=ha
  have B1:xar c d ys (Shared.heap ⟨hp.push { cls:=.type (xfG b),data:=.fields #[.ref a,.int 0 0] },g,dd,tk,os⟩):=xav hb _
  wp_walk using dn A1,dn B1
  exact⟨_,rfl,h⟩
section
variable {prog:Program} {w:World} {A:Around} {E:Value→Shared→Prop} {s:Shared}
theorem xaC (ha:xar b a xs s.heap)(hb:xar c d ys s.heap)
  (h:∀g,IsZip g (s.heap.objs.size+4) (s.heap.objs.size+2) (s.heap.objs.size+3) .none→IsPair g (s.heap.objs.size+2) (.ref s.heap.objs.size) (.ref (s.heap.objs.size+1))→IsPair g (s.heap.objs.size+3) .none .none →
   Tn2 b s.heap.objs.size a 0 g→Tn2 c (s.heap.objs.size+1) d 0 g→(∀c o,s.heap.get? c=some o→g.get? c=some o)→Q (.ref (s.heap.objs.size+4)) { s with heap:=g }) :
  wpAny (model prog w) A (call (.type "zip") [.ref a,.ref d]) Q E s:=by
 refine callType_new F.called_zip (by decide) (F.typeCall_zip_2 _ _) (F.newCall_zip_2 _ _) (fun obj=>F.args_object_init_3 obj _ _) F.entry_zip_new (xbJ b c a d xs ys) ⟨ha,hb,?_⟩
 have n1:(za1 b s.heap a).objs.size=s.heap.objs.size+1:=Heap.size_push ..
 have n2:(za2 b c s.heap a d).objs.size=s.heap.objs.size+2:=by rw[Heap.size_push,n1]
 have n3:(za3 b c s.heap a d).objs.size=s.heap.objs.size+3:=by rw[Heap.size_push,n2]
 have n4:(za4 b c s.heap a d).objs.size=s.heap.objs.size+4:=by rw[Heap.size_push,n3]
 have o5:(za5 b c s.heap a d).get? (za4 b c s.heap a d).objs.size=some _:=Heap.get?_push_size _ rfl
 have o4:(za5 b c s.heap a d).get? (za3 b c s.heap a d).objs.size=some _:=Heap.get?_push_of_some _ (Heap.get?_push_size _ rfl)
 have o3:(za5 b c s.heap a d).get? (za2 b c s.heap a d).objs.size=some _:=Heap.get?_push_of_some _ (Heap.get?_push_of_some _ (Heap.get?_push_size _ rfl))
 have o2:(za5 b c s.heap a d).get? (za1 b s.heap a).objs.size=some _:=Heap.get?_push_of_some _ (Heap.get?_push_of_some _ (Heap.get?_push_of_some _ (Heap.get?_push_size _ rfl)))
 have o1:(za5 b c s.heap a d).get? s.heap.objs.size=some _:=Heap.get?_push_of_some _ (Heap.get?_push_of_some _ (Heap.get?_push_of_some _ (Heap.get?_push_of_some _ (Heap.get?_push_size _ rfl))))
 show _∧_
 rw[n2,n3,n4] at o5
 rw[n1,n2] at o3
 rw[n3] at o4
 rw[n1] at o2
 rw[n4]
 refine⟨⟨_,o5,rfl⟩,h _ o5 o3 o4 ?_ ?_ fun c o g=>Heap.get?_push_of_some _ (Heap.get?_push_of_some _ (Heap.get?_push_of_some _ (Heap.get?_push_of_some _ (Heap.get?_push_of_some _ g))))⟩
 ·cases b with
  | true=>exact⟨_,o1,rfl,rfl⟩
  | false=>exact⟨_,o1,rfl,rfl⟩
 ·cases c with
  | true=>exact⟨_,o2,rfl,rfl⟩
  | false=>exact⟨_,o2,rfl,rfl⟩
end
def xhL (K:PySem.W.Frag)(b c:Bool)(a1 a2:Addr):It :=
 ⟨fun i H=>∃xs ys x y,Sq2 K b H a1 xs∧Sq2 K c H a2 ys∧xs[i]? = some x∧ys[i]? = some y,
  fun i H v H'=>∃x y q,(∀xs,Sq2 K b H a1 xs→xs[i]? = some x)∧(∀ys,Sq2 K c H a2 ys→ys[i]? = some y)∧v=.ref q∧H q=none∧H'=upd H q (.tup [x,y]),
  fun i H=>∃xs ys,Sq2 K b H a1 xs∧Sq2 K c H a2 ys∧(xs.length≤i∨ys.length≤i)⟩
section
variable {P:Program} {w:World} {K:PySem.W.Frag} {z ti to i1 i2 a1 a2:Addr} {b c':Bool}
def ZS2 (b c:Bool)(z ti to i1 i2 a1 a2:Addr)(i:Nat)(h:Heap):Prop:=IsZip h z ti to .none∧IsPair h ti (.ref i1) (.ref i2)∧(∃p q,IsPair h to p q)∧Tn2 b i1 a1 i h∧Tn2 c i2 a2 i h
theorem xaW (D:ZA z ti to i1 i2 a1 a2):Turn P w K (.Tuple elts kk pp) (xhL K b c' a1 a2) [z,ti,to,i1,i2] z (ZS2 b c' z ti to i1 i2 a1 a2) where
 mem:=by simp
 obj:=fun i h st c hc=>by
  obtain⟨s1,s2,⟨p,q,s3⟩,s4,s5⟩:=st
  simp only[xkJ,xkY,xly] at hc
  rcases hc with e | e | e | e | e<;>subst e
  ·exact⟨_,s1,fun v=>by simp⟩
  ·exact⟨_,s2,fun v=>by simp⟩
  ·exact⟨_,s3,fun v=>by simp⟩
  ·exact(tU b _ a1 []).ob _ _ s4
  ·exact(tU c' _ a2 []).ob _ _ s5
 keep:=fun i h h' st k=>by
  obtain⟨s1,s2,⟨p,q,s3⟩,s4,s5⟩:=st
  exact⟨k _ (by simp) _ s1,k _ (by simp) _ s2,⟨p,q,k _ (by simp) _ s3⟩,(tU b i1 a1 []).mv _ _ _ s4 fun o e=>k _ (by simp) o e,(tU c' i2 a2 []).mv _ _ _ s5 fun o e=>k _ (by simp) o e⟩
 item:=by
  intro X hP hw hK hc i pins s σ H E I hf st hg
  subst hP hw hK
  obtain⟨Z,TI,⟨p,q,TO⟩,b1,b2⟩:=st
  obtain⟨xs,ys,x,y,sq1,sq2,hx,hy⟩:=hg
  obtain⟨vs,rv,c1⟩:=I.sq2 sq1
  obtain⟨us,ru,c2⟩:=I.sq2 sq2
  obtain⟨xv,ex,rx⟩:=rv.get hx
  obtain⟨yv,ey,ry⟩:=ru.get hy
  have hT:s.TypeIs (.ref z) "zip" := ⟨_,Z,rfl⟩
  have fr:H s.heap.objs.size=none:=I.hok.fresh (xlb _)
  unfold pyNext
  refine wpAny_bind (wpAny_attempt (wpAny_callSpecial?_slot (name:=Str.ofString "__next__") hT F.slot_zip_next (wpAny_call_entry F.slot_zip_next hT F.entry_zip_next (xbo D (tU b i1 a1 vs) (tU c' i2 a2 us) Z TI TO b1 b2 c1 c2 ex ey fun g Z' TO' b1' b2' T' kp=>?_) (F.args_zip_next_1 _))))
  refine wpAny_pure ⟨_,rfl,wpAny_letOwnedTupleGo_zip Z' fun g2 Z2 S2=>?_⟩
  obtain⟨⟨d1,d2,d3,d4,d5,d6,d7,d8,d9,d10⟩,_⟩:=D
  have ltz:z<s.heap.objs.size:=Heap.lt_size Z
  have kp2:∀c o,c∉[z,ti,to,i1,i2]→s.heap.get? c=some o→g2.get? c=some o:=fun c o hc e=>by
   simp only[xkJ,xkY,xly,not_or] at hc
   exact S2.extBut _ _ hc.1 (kp c o hc.1 hc.2.2.1 hc.2.2.2.1 hc.2.2.2.2 e)
  have TI2:IsPair g2 ti (.ref i1) (.ref i2):=S2.extBut _ _ d1 (kp _ _ d1 d5 d6 d7 TI)
  have T2:IsPair g2 s.heap.objs.size xv yv:=S2.extBut _ _ (xll ltz) T'
  have st2:ZS2 b c' z ti to i1 i2 a1 a2 (i+1) g2:=⟨Z2,TI2,⟨_,_,S2.extBut _ _ d2 TO'⟩,(tU b i1 a1 vs).mv _ _ _ b1' fun o=>S2.extBut _ o d3,(tU c' i2 a2 us).mv _ _ _ b2' fun o=>S2.extBut _ o d4⟩
  have nfp:∀c u,H c=some u→c∉[z,ti,to,i1,i2]:=fun c u e hm=>by rw[(hf c hm).1] at e;cases e
  have nT:∀c o,s.heap.get? c=some o→c≠s.heap.objs.size:=fun c o e=>xlm (Heap.lt_size e)
  refine⟨.ref s.heap.objs.size,upd H s.heap.objs.size (.tup [x,y]),?_,rfl,⟨x,y,_,fun xs' h'=>by rw[←I.sq2_inj sq1 h'];exact hx,fun ys' h'=>by rw[←I.sq2_inj sq2 h'];exact hy,rfl,fr,rfl⟩,st2,fun c hm=>?_⟩
  ·show Inv X pins σ (upd H s.heap.objs.size (.tup [x,y])) { s with heap:=g2,gens:=s.gens,drawn:=s.drawn,toks:=s.toks }
   refine Inv.step (s:=s) (g':=s.gens) (d':=s.drawn) (t':=s.toks) (ch:=[z,ti,to,i1,i2]) I (fun c hm=>?_) (fun c o _ _ hm e _=>kp2 c o hm e) (fun c o _ _ hm e _=>⟨o.slots,kp2 c o hm e⟩) (fun c o hm e n=>by rw[xY (nT c o e)];exact n) (fun c o hm e=>⟨o,kp2 c o hm e⟩)
    (fun c zs e=>by rw[xY (xK e fr)];exact e) (fun c o u e=>by rw[xY (xK e fr)];exact e) (fun c ps e=>⟨#[],by rw[xY (xK e fr),e];simp⟩) (fun m hm=>?_) (fun c u e=>?_) I.bare
   ·obtain⟨_,f1,_,f3,f4,f5⟩:=hf c hm
    exact⟨f3,f1,f4,f5⟩
   ·obtain⟨o,es,ep,ho,r⟩:=hm
    exact⟨o,es,ep,kp2 _ o (fun z'=>(hf _ z').2.1 rfl) ho,r⟩
   ·by_cases hc':c=s.heap.objs.size
    ·subst hc'
     rw[ya] at e
     cases e
     exact⟨by show 2≤sizeLine;decide,[xv,yv],.cons rx (.cons ry .nil),_,T2,rfl,0,rfl⟩
    ·rw[xY hc'] at e
     refine(I.hok c u e).stay (fun c' v hcc q'=>kp2 c' v ?_ q') (fun c' q'=>by rw[xY (xK q' fr)];exact q') (fun c' zs q'=>by rw[xY (xK q' fr)];exact q') fun c' o u q'=>by rw[xY (xK q' fr)];exact q'
     rcases hcc with rfl | hcc
     ·exact nfp _ _ e
     ·exact nfp _ _ hcc
  ·rw[xY]
   ·exact(hf c hm).1
   ·simp only[xkJ,xkY,xly] at hm
    rcases hm with e | e | e | e | e<;>subst e
    ·exact nT _ _ Z
    ·exact nT _ _ TI
    ·exact nT _ _ TO
    ·obtain⟨o,e,_⟩:=(tU b _ a1 []).ob _ _ b1;exact nT _ _ e
    ·obtain⟨o,e,_⟩:=(tU c' _ a2 []).ob _ _ b2;exact nT _ _ e
 done:=by
  intro X hP hw hK hc i pins s σ H E I hf st hg
  subst hP hw hK
  obtain⟨Z,TI,⟨p,q,TO⟩,b1,b2⟩:=st
  obtain⟨xs,ys,sq1,sq2,hend⟩:=hg
  obtain⟨vs,rv,c1⟩:=I.sq2 sq1
  obtain⟨us,ru,c2⟩:=I.sq2 sq2
  have hT:s.TypeIs (.ref z) "zip" := ⟨_,Z,rfl⟩
  have he:vs[i]? = none∨us[i]? = none:=hend.imp (fun h=>List.getElem?_eq_none_iff.mpr (by rw[←rv.length];exact h)) (fun h=>List.getElem?_eq_none_iff.mpr (by rw[←ru.length];exact h))
  unfold pyNext
  refine wpAny_bind (wpAny_attempt (wpAny_callSpecial?_slot (name:=Str.ofString "__next__") hT F.slot_zip_next (wpAny_call_entry F.slot_zip_next hT F.entry_zip_next (xdJ (I.ok.hd hc) D (tU b i1 a1 vs) (tU c' i2 a2 us) Z TI TO b1 b2 c1 c2 he fun g e kp ho=>?_) (F.args_zip_next_1 _))))
  obtain⟨o,ho,hcl⟩:=ho
  refine wpAny_bind (wpAny_isInstance (T := "StopIteration") (b:=true) ⟨o,ho,hcl⟩ isSubtype_stop (wpAny_pure ⟨rfl,?_⟩))
  have kp2:∀c o,c∉[z,ti,to,i1,i2]→s.heap.get? c=some o→g.get? c=some o:=fun c o hc e=>by
   simp only[xkJ,xkY,xly,not_or] at hc
   exact kp c o hc.1 hc.2.2.1 hc.2.2.2.1 hc.2.2.2.2 e
  have nfp:∀c u,H c=some u→c∉[z,ti,to,i1,i2]:=fun c u e hm=>by rw[(hf c hm).1] at e;cases e
  refine Inv.step (s:=s) (g':=s.gens) (d':=s.drawn) (t':=s.toks) (ch:=[z,ti,to,i1,i2]) I (fun c hm=>?_) (fun c o _ _ hm e _=>kp2 c o hm e) (fun c o _ _ hm e _=>⟨o.slots,kp2 c o hm e⟩) (fun c o hm e n=>n) (fun c o hm e=>⟨o,kp2 c o hm e⟩)
   (fun c zs e=>e) (fun c o u e=>e) (fun c ps e=>⟨#[],by rw[e];simp⟩) (fun m hm=>?_) (fun c u e=>?_) I.bare
  ·obtain⟨_,f1,_,f3,f4,f5⟩:=hf c hm
   exact⟨f3,f1,f4,f5⟩
  ·obtain⟨o,es,ep,ho,r⟩:=hm
   exact⟨o,es,ep,kp2 _ o (fun z'=>(hf _ z').2.1 rfl) ho,r⟩
  ·refine(I.hok c u e).stay (fun c' v hcc q'=>kp2 c' v ?_ q') (fun _ q'=>q') (fun _ _ q'=>q') fun _ _ _ q'=>q'
   rcases hcc with rfl | hcc
   ·exact nfp _ _ e
   ·exact nfp _ _ hcc
 self:=fun A i s Q E st h=>wpAny_pyIter_zip st.1 h
end
def xgr (K:PySem.W.Frag)(ta:TA):TI:=fun σ H R=>ta σ H fun vs H1=>∃(b c:Bool) (a1 a2:Addr) (xs ys:List V),vs=[.ref a1,.ref a2]∧Sq2 K b H1 a1 xs∧Sq2 K c H1 a2 ys∧R (xhL K b c a1 a2) H1
section
variable {X:Cx}
theorem rM (K:PySem.W.Frag)(hg:Gl X "zip")(hm:X.mg "zip" = none)(ha:PA X [a,b] ta)(hs:starEach [a,b] X.env=[(false,eval a X.env),(false,eval b X.env)]:=by rfl)(hs2:starEach [b] X.env=[(false,eval b X.env)]:=by rfl)(eK:X.K=K:=by rfl) :
  PI X (.Tuple elts kk pp) (.Call (.Name "zip" p) [a,b] [] pos) (xgr K ta):=by
 subst eK
 intro pins s σ H R I h
 refine Call_ (rA I hg hm xg7 (PyProof.Rows.callWith_type1 (thn (@ha pos pins s σ H _ I h) fun us s1 ⟨vs,H1,I1,r1,q1⟩=>?_) (by rw[hs,hs2]) (by rw[hs2];rfl)))
 obtain⟨bb,cc,a1,a2,xs,ys,e,sq1,sq2,q⟩:=q1
 subst e
 obtain⟨u1,u2,rfl,e1,e2⟩:=vals2 r1
 obtain rfl:u1=Value.ref a1:=e1
 obtain rfl:u2=Value.ref a2:=e2
 obtain⟨vs,rv,c1⟩:=I1.sq2 sq1
 obtain⟨us,ru,c2⟩:=I1.sq2 sq2
 have fp:∀k:Nat,xas X pins H1 (s1.heap.objs.size+k):=fun k=>I1.fpOk (xk_ _ _) (I1.hok.fresh (xk_ _ _))
 have lt:∀(b:Bool) (a:Addr) (vs:List Value),xar b a vs s1.heap→a<s1.heap.objs.size:=fun b a vs h=>by
  cases b with
  | true=>obtain⟨o,e,_⟩:=(show s1.heap.IsTuple a vs.toArray from h);exact Heap.lt_size e
  | false=>obtain⟨o,e,_⟩:=(show s1.heap.IsList a vs.toArray from h);exact Heap.lt_size e
 refine xaC c1 c2 ?_
 intro g z1 z2 z3 z4 z5 kp
 have st:ZS2 bb cc (s1.heap.objs.size+4) (s1.heap.objs.size+2) (s1.heap.objs.size+3) s1.heap.objs.size (s1.heap.objs.size+1) a1 a2 0 g:=⟨z1,z2,⟨_,_,z3⟩,z4,z5⟩
 refine wpAny_pyIter_zip st.1 ⟨_,_,_,_,H1,rfl,I1.kept (t':=s1.toks) kp,xaW (xg9 (lt _ _ _ c1) (lt _ _ _ c2)),st,fun c hc=>?_,q⟩
 simp only[xkJ,xkY,xly] at hc
 rcases hc with e | e | e | e | e<;>subst e
 ·exact fp 4
 ·exact fp 2
 ·exact fp 3
 ·exact fp 0
 ·exact fp 1
end
def xan:List Tr→List Tr→List Tr
 | t::ts,u::us=>.tup [t,u]::xan ts us
 | _,_=>[]
theorem tz:∀(ts us:List Tr),(xan ts us).length=min ts.length us.length
 | [],_=>by simp[xan]
 | _::_,[]=>by simp[xan]
 | _::ts,_::us=>by simp only[xan,xkr,tz ts us];omega
theorem oz:∀ {ts us:List Tr} {i:Nat} {t u:Tr},ts[i]? = some t→us[i]? = some u→(xan ts us)[i]? = some (.tup [t,u])
 | [],_,_,_,_,h,_=>by simp at h
 | _::_,[],_,_,_,_,h=>by simp at h
 | _::_,_::_,0,_,_,h,h'=>by simp at h h';subst h h';rfl
 | _::ts,_::us,i+1,t,u,h,h'=>by
  show(xan ts us)[i]? = _
  exact oz (by simpa using h) (by simpa using h')
def sqT (b:Bool)(ts:List Tr):Tr:=if b then .tup ts else .lst ts
section
variable {K:PySem.W.Frag}
theorem qI (h:Rep F H (sqT b ts) (.ref a)):∃ws,Sq2 K b H a ws∧zU F H ts ws:=by
 cases b with
 | true =>
  obtain⟨a',ws,e,n,h,r⟩:=(show Rep F H (.tup ts) (.ref a) from h)
  cases e
  exact⟨ws,SqT.of h,r⟩
 | false =>
  obtain⟨a',ws,e,n,h,r⟩:=(show Rep F H (.lst ts) (.ref a) from h)
  cases e
  exact⟨ws,SqL.of h,r⟩
theorem xcS:ItL (xhL K b c a1 a2) (xan ts us) [(sqT b ts,.ref a1),(sqT c us,.ref a2)] where
 go:=fun F H i s hi=>by
  obtain⟨ws,h1,r1⟩:=qI (K:=K) (s _ xkL)
  obtain⟨ws2,h2,r2⟩:=qI (K:=K) (s _ (xkK _ xkL))
  rw[tz] at hi
  obtain⟨w,e1,_⟩:=r1.getT (xki (i:=i) (by omega))
  obtain⟨w2,e2,_⟩:=r2.getT (xki (i:=i) (by omega))
  exact⟨ws,ws2,w,w2,h1,h2,e1,e2⟩
 stop:=fun F H s=>by
  obtain⟨ws,h1,r1⟩:=qI (K:=K) (s _ xkL)
  obtain⟨ws2,h2,r2⟩:=qI (K:=K) (s _ (xkK _ xkL))
  refine⟨ws,ws2,h1,h2,?_⟩
  rw[tz,←r1.len,←r2.len];omega
 yld:=fun F i H x H' s d hi y=>by
  obtain⟨ws,h1,r1⟩:=qI (K:=K) (s _ xkL)
  obtain⟨ws2,h2,r2⟩:=qI (K:=K) (s _ (xkK _ xkL))
  obtain⟨v,v2,q,hv,hv2,rfl,hq,rfl⟩:=y
  obtain⟨t,e1,g1⟩:=r1.get (hv ws h1)
  obtain⟨u,e2,g2⟩:=r2.get (hv2 ws2 h2)
  exact⟨.inr ⟨q,_,hq,rfl⟩,.tup [t,u],oz e1 e2,q,_,rfl,fun z=>d q z hq,ya,⟨_,_,rfl,tF hq g1,_,_,rfl,tF hq g2,rfl⟩⟩
def xh2:Tr→Option (Bool×List Tr)
 | .tup ts=>some (true,ts)
 | .lst ts=>some (false,ts)
 | _=>none
def xif (d:DA):DI:=fun τ KK=>d τ fun xs=>match xs with
 | [x,y]=>(match xh2 x,xh2 y with | some p,some q=>KK (xan p.2 q.2) | _,_=>False)
 | _=>False
theorem mR (h:xh2 x=some p):x=sqT p.1 p.2:=by
 cases x with
 | tup ts=>cases h;rfl
 | lst ts=>cases h;rfl
 | _=>cases h
theorem xcq (h:Rep F H (sqT b ts) v):∃a,v=.ref a:=by
 cases b with
 | true=>obtain⟨a,ws,e,_⟩:=(show Rep F H (.tup ts) v from h);exact⟨a,e⟩
 | false=>obtain⟨a,ws,e,_⟩:=(show Rep F H (.lst ts) v from h);exact⟨a,e⟩
theorem fK (h:OkA K b n ta da):OkI K b (xgr K ta) (xif da):=fun B φ σ τ H R KK Rs hd q =>
 h B φ σ τ H _ _ Rs hd fun ts vs H1 x1 k1 l1 r1=>by
  split at k1
  ·rename_i x y
   split at k1
   ·rename_i p p' e1 e2
    obtain⟨v,w,rfl,g1,g2⟩:=xbH r1
    rw[mR e1] at g1
    rw[mR e2] at g2
    obtain⟨a1,rfl⟩:=xcq g1
    obtain⟨a2,rfl⟩:=xcq g2
    obtain⟨ws,s1,_⟩:=qI (K:=K) g1
    obtain⟨ws2,s2,_⟩:=qI (K:=K) g2
    refine⟨p.1,p'.1,a1,a2,ws,ws2,rfl,s1,s2,q _ _ _ H1 x1 k1 xcS fun z hz=>?_⟩
    simp only[xkJ,xkY,xly] at hz
    rcases hz with rfl | rfl
    ·exact g1
    ·exact g2
   ·exact k1.elim
  ·exact k1.elim
end
end L2
namespace L2
open PySem PySem.Spec PyProof.Rows
theorem yj (K:PySem.W.Frag)(e:X.K=K:=by rfl):IxR X (rIx K):=e▸xgB
end L2
namespace L2
open PySem PySem.Spec PyProof.Rows
theorem oW (W:List Tr→TSt→Prop)(h0:∀ τ,W [] τ→G.nx τ)
  (h1:∀x xs τ (N:TSt→Prop),W (x::xs) τ→(∀ τ',W xs τ'→N τ')→dg x τ fun τ'=>body { G with nx:=N,ct:=N,bk:=G.nx } τ'):∀xs τ,W xs τ→xcC dg body G xs τ
 | [],τ,w=>h0 τ w
 | x::xs,τ,w=>h1 x xs τ (xcC dg body G xs) w (oW W h0 h1 xs)
theorem zk (W:Nat→TSt→Prop)(w0:W 0 τ)
  (h1:∀i x τ (N:TSt→Prop),all[i]? = some x→W i τ→(∀ τ',W (i+1) τ'→N τ')→dg x τ fun τ'=>body { G with nx:=N,ct:=N,bk:=G.nx } τ')
  (h0:∀ τ,W all.length τ→G.nx τ):xcC dg body G all τ:=by
 refine oW (fun xs τ=>∃i,xs=all.drop i∧i≤all.length∧W i τ) (fun τ ⟨i,e,hi,w⟩=>h0 τ ?_) (fun x xs τ N ⟨i,e,hi,w⟩ hN=>?_) all τ ⟨0,rfl,xln _,w0⟩
 ·have:all.length≤i:=by
   have:=xlq List.length e
   rw[xks] at this
   simp at this
   omega
  have:i=all.length:=by omega
  rw[←this];exact w
 ·have hlt:i<all.length:=by
   have:=xlq List.length e
   rw[xks] at this
   simp at this
   omega
  rw[xj7 hlt] at e
  injection e with e1 e2
  exact h1 i x τ N (by rw[e1];exact xki hlt) w fun τ' w'=>hN τ' ⟨i+1,e2,hlt,w'⟩
theorem oM (W:Nat→TSt→Prop)
  (h:∀n τ (N:TSt→Prop),W n τ→(∀m τ',m<n→W m τ'→N τ')→c τ fun b=>if b=true then body { G with nx:=N,ct:=N,bk:=G.nx } τ else G.nx τ):∀k n τ,n<k→W n τ→xeJ c body G k τ
 | 0,_,_,hk,_=>absurd hk (by omega)
 | k+1,n,τ,hk,w=>h n τ (xeJ c body G k) w fun m τ' hm w'=>oM W h k m τ' (by omega) w'
theorem jM (W:Nat→TSt→Prop)(n:Nat)(w0:W n τ)
  (h:∀n τ (N:TSt→Prop),W n τ→(∀m τ',m<n→W m τ'→N τ')→c τ fun b=>if b=true then body { G with nx:=N,ct:=N,bk:=G.nx } τ else G.nx τ):xd8 c body G τ :=
 ⟨n+1,oM W h (n+1) n τ (xli n) w0⟩
theorem j1 {dg:DG}{dc:DT}{de:DE}{τi:TSt}{KK:List Tr→Prop}(W:List Tr→List Tr→Prop)(h0:∀acc,W [] acc→KK acc)
  (h1:∀x xs acc (N:List Tr→Prop),W (x::xs) acc→(∀acc',W xs acc'→N acc')→dg x τi fun τ2=>dc τ2 fun b=>if b=true then de τ2 fun y=>N (acc++[y]) else N acc):∀xs acc,W xs acc→xcB dg dc de τi KK xs acc
 | [],acc,w=>h0 acc w
 | x::xs,acc,w=>h1 x xs acc (xcB dg dc de τi KK xs) w (j1 W h0 h1 xs)
theorem kQ {dg:DG}{de:DE}{τi:TSt}{KK:List Tr→Prop}{xs:List Tr}(g:Tr→Tr)(h1:∀x∈xs,∀N:Tr→Prop,N (g x)→dg x τi fun τ2=>de τ2 N)(h0:KK (xs.map g)):xcB dg xcE de τi KK xs []:=by
 refine j1 (fun ys acc=>∃zs,xs=zs++ys∧acc=zs.map g) (fun acc ⟨zs,e,e2⟩=>?_) (fun x ys acc N ⟨zs,e,e2⟩ hN=>?_) xs [] ⟨[],rfl,rfl⟩
 ·rw[xj5] at e
  subst e e2
  exact h0
 ·subst e2
  have hx:x∈xs:=by rw[e];simp
  exact h1 x hx (fun y=>N (zs.map g++[y])) (hN _ ⟨zs++[x],by rw[e];simp,by simp⟩)
theorem wB {α:Type}{f:α→Tr}{l:List α}{i:Nat}{t:Tr}(h:(l.map f)[i]? = some t):∃x,l[i]? = some x∧t=f x:=by
 rw[xkl] at h
 cases e:l[i]? with
 | none=>rw[e] at h;cases h
 | some x=>rw[e] at h;cases h;exact⟨x,rfl,rfl⟩
theorem jf (ts:List α)(n:Nat):atT ts (n:Int)=ts[n]?:=dw ts n
theorem xfZ (h0:0≤k):atT ts k=ts[k.toNat]?:=by
 obtain⟨n,rfl⟩:∃n:Nat,k=(n:Int):=⟨k.toNat,by omega⟩
 rw[jf];simp
theorem fJ (ts:List α)(t:α):atT (ts++[t]) (-1)=some t:=by
 rw[xeF];exact xcY ts t
theorem sqz (h:n≤1000000):n<sizeLine:=xlf h (by decide)
theorem xg3 (h:n≤1000000):n≤sizeLine:=xla (sqz h)
theorem zK {a b:Int}(h:0≤b):a.fdiv b=a / b:=xjv a h
theorem xdh {a b:Int}(h:0≤b):a.fmod b=a % b:=Int.fmod_eq_emod_of_nonneg a h
end L2
namespace L2
open PySem PySem.Spec PyProof.Rows
section
variable {prog:Program} {w:World} {A:Around} {E:Value→Shared→Prop} {s:Shared}
theorem mX (hne:t≠it):∀(n i:Nat) (s:Shared) (Q:List Value→Shared→Prop),s.heap.IsListIter it t i→s.heap.IsList t items→i+n≤items.size →
  (∀h',h'.IsListIter it t (i+n)→Heap.SameBut it s.heap h'→Q ((items.toList.drop i).take n) { s with heap:=h' })→wpAny (model prog w) A (draw (.ref it) n) Q E s
 | 0,i,s,Q,hit,_,_,hQ=>by
  show wpAny _ _ (pure []) Q E s
  exact wpAny_pure (by simpa using hQ s.heap hit (Heap.SameBut.refl ..))
 | n+1,i,s,Q,hit,ht,hle,hQ=>by
  have hlt:i<items.size:=by omega
  show wpAny _ _ (pyNext (.ref it) >>= _) Q E s
  refine wpAny_bind (wpAny_pyNext_list_item hit ht (x:=items[i]) (by simp[hlt]) fun h₁ hit₁ hs₁=>?_)
  refine wpAny_bind (wpAny_holding (mX hne n (i+1) _ _ hit₁ (ht.extBut hs₁.extBut hne) (by omega) fun h₂ hit₂ hs₂=>wpAny_pure ?_))
  have hd:items.toList.drop i=items[i]::items.toList.drop (i+1):=by simp[xj7,hlt]
  have:=hQ h₂ (by rw[show i+(n+1)=i+1+n by omega];exact hit₂) (hs₁.trans hs₂)
  rw[hd,List.take_succ_cons] at this
  exact this
theorem fA (hh:A.handled=none)(ht:s.heap.IsList t items)
  (hQ:∀h',Heap.ExtBut s.heap.objs.size s.heap h'→Q items.toList { s with heap:=h' }):wpAny (model prog w) A (unpackItems (.ref t) items.size none) Q E s:=by
 have hlt:t≠s.heap.objs.size:=by obtain⟨o,ho,_⟩:=ht;exact xlm (Heap.lt_size ho)
 unfold unpackItems
 refine wpAny_bind ?_
 ·unfold notIterableAtAll
  refine wpAny_bind (wpAny_specialOf ht.typeIs slot_list_iter.lookup ?_)
  refine wpAny_pure ?_
  simp only[Bool.false_eq_true,if_false]
  refine wpAny_bind (wpAny_holding (wpAny_pyIter_list ht ?_))
  refine wpAny_bind (wpAny_holding (mX hlt items.size 0 _ _ ⟨_,Heap.get?_push_size _ rfl,rfl,rfl⟩ (ht.push _) (by omega) fun h₁ hit₁ hs₁=>?_))
  have hall:List.take items.size (List.drop 0 items.toList)=items.toList:=by
   rw[xj8];exact xk7 (by simp)
  rw[hall]
  rw[if_neg (by simp)]
  have ht₁:h₁.IsList t items:=(ht.push _).extBut hs₁.extBut hlt
  refine wpAny_bind (wpAny_holding (wpAny_pyNext_list_end hh hit₁ ht₁ (by simp) fun h₂ he₂=>?_))
  simp only[Option.isSome_none,Bool.false_eq_true,if_false]
  refine wpAny_pure (hQ h₂ fun b o hb e=>he₂ b o hb (hs₁.extBut b o hb (Heap.get?_push_of_some _ e)))
theorem pG (hh:A.handled=none)(ht:s.heap.IsList t items)
  (hn:targets.length=items.size) (hstar:targets.findIdx? (·.1)=none)
  (h:∀h',Heap.ExtBut s.heap.objs.size s.heap h'→wpAny (model prog w) A (assignInOrder (targets.map (·.2)) items.toList) Q E { s with heap:=h' }) :
  wpAny (model prog w) A (unpack (.ref t) targets) Q E s:=by
 unfold unpack
 rw[hn,hstar]
 exact wpAny_bind (wpAny_holding (fA hh ht h))
theorem hG (hh:A.handled=none)(ht:s.heap.IsList t items)
  (hn:(assignEach elts env).length=items.size) (hstar:(assignEach elts env).findIdx? (·.1)=none)
  (h:∀h',Heap.ExtBut s.heap.objs.size s.heap h'→wpAny (model prog w) A (assignInOrder ((assignEach elts env).map (·.2)) items.toList) Q E { s with heap:=h' }) :
  wpAny (model prog w) A (assign (.Tuple elts x1 pos) env (.ref t)) Q E s:=by
 rw[assign_Tuple]
 exact wpAny_bind (wpAny_standAt (pG hh ht hn hstar h))
end
def xim (K:PySem.W.Frag)(n:Nat)(t:TGs):TG:=fun v σ H Q=>∃a xs,v=.ref a∧SqL K H a xs∧xs.length=n∧t xs σ H Q
section
variable {X:Cx}
theorem xfI (K:PySem.W.Frag)(hc:X.calm=true)(h:PGs X es t)
  (hn:(assignEach es X.env).length=n:=by rfl) (hst:(assignEach es X.env).findIdx? (·.1)=none:=by rfl) (e:X.K=K:=by rfl):PG X (.Tuple es k pos) (xim K n t):=by
 subst e
 intro pins s σ H v u Q I r hw
 obtain⟨a,xs,e1,hq,hl,hw⟩:=hw
 subst e1
 cases r
 obtain⟨its,rv,⟨o,m,ho,hcl,hd,hs⟩,hz⟩:=I.list hq
 refine hG (I.ok.hd hc) (items:=its.toArray) ⟨o,ho,hcl,m,hs⟩ (by simp[hn,←hl,rv.length]) hst fun h' hx=>?_
 have I1:Inv X pins σ H { s with heap:=h' }:=I.kept (t':=s.toks) fun b o e=>hx b o (xlm (Heap.lt_size e)) e
 exact @h pins _ σ H xs _ Q I1 (by simpa using rv) hw
end
section
variable {K:PySem.W.Frag}
def xja (n:Nat)(d:DGs):DG:=fun t τ KK=>match t with | .lst ts=>ts.length=n∧d ts τ KK | _=>False
theorem xfz (h:xf6 K gs ds):OkN K (xim K n gs) (xja n ds):=fun B φ σ τ H F t v Q KK R hF r hd q=>by
 cases t with
 | lst ts =>
  obtain⟨a,ws,e,n,ha,rl⟩:=r
  exact⟨a,ws,e,SqL.of ha,by rw[←rl.len];exact hd.1,h B φ σ τ H F ts ws Q KK R hF rl hd.2 q⟩
 | _=>exact hd.elim
def xgC (i:Nat)(db:DE):DE:=fun τ KK=>match nth τ i with | .ow ts=>db τ fun y=>xh_ (.lst ts) y KK | _=>False
theorem lF (hb:OkE K true tb db):OkF K (tOp xhu (rz i) tb) (xgC i db):=fun B φ σ τ H Q KK R hd q=>by
 have en:=R.ent i
 unfold xgC at hd
 revert en hd
 cases hi:nth τ i with
 | ow ts =>
  intro hd ⟨a,ws,e1,e2,e3,e4,r⟩
  refine⟨_,e1,hb B φ σ τ H _ _ R hd fun u w H2 x2 k2 r2=>?_⟩
  obtain⟨ws',e4',r',_⟩:=kH R x2 hi e1
  cases u with
  | lst us =>
   obtain⟨a2,ws2,e2,n2,ha2,rl2⟩:=r2
   exact⟨a,a2,ws',ws2,rfl,e2,e4',ha2,by rw[←r'.len,←rl2.len];exact k2.1,fun p hp=>q _ _ _ _ (x2.trans (HX.new (R.hx x2) hp _)) k2.2 (x2.none hp) ya (kM hp (r'.app rl2))⟩
  | _=>exact k2.elim
 | _=>exact fun z _=>z.elim
end
theorem xP {b:Bool}{A B:Prop}(h1:b=true→A)(h0:b=false→B):if b=true then A else B:=by
 cases b with
 | true=>exact xat (h1 rfl)
 | false=>exact pN (h0 rfl)
end L2
namespace Pol
abbrev R3:=Int×Int×Int
def val (r p:R3):Int:=r.1*p.1+r.2.1*p.2.1-r.2.2*p.2.2
def det (u v w:R3):Int:=u.1*(v.2.1*w.2.2-v.2.2*w.2.1)-u.2.1*(v.1*w.2.2-v.2.2*w.1)+u.2.2*(v.1*w.2.1-v.2.1*w.1)
def add (u v:R3):R3:=(u.1+v.1,u.2.1+v.2.1,u.2.2+v.2.2)
def mul (k:Int)(u:R3):R3:=(k*u.1,k*u.2.1,k*u.2.2)
theorem ext3 {u v:R3}(h1:u.1=v.1)(h2:u.2.1=v.2.1)(h3:u.2.2=v.2.2):u=v:=Prod.ext h1 (Prod.ext h2 h3)
theorem val_add (r p q:R3):val r (add p q)=val r p+val r q:=by simp only[val,add];grind
theorem val_mul (r p:R3)(k:Int):val r (mul k p)=k*val r p:=by simp only[val,mul];grind
theorem wY (u v w:R3):det u v w=det v w u:=by simp only[det];grind
theorem mC (u v w:R3):det u w v = - det u v w:=by simp only[det];grind
theorem vW (u v:R3):det u v v=0:=by simp only[det];grind
theorem kA (u v:R3):det u u v=0:=by simp only[det];grind
theorem kC (u v:R3):det u v u=0:=by simp only[det];grind
theorem rV (u v p q:R3):det u v (add p q)=det u v p+det u v q:=by simp only[det,add];grind
theorem qh (u v p:R3)(k:Int):det u v (mul k p)=k*det u v p:=by simp only[det,mul];grind
theorem four (r a b c d:R3):det b c d*val r a+det a b d*val r c=det a c d*val r b+det a b c*val r d:=by simp only[det,val];grind
theorem xd2 (u v w p:R3):mul (det u v w) p=add (mul (det p v w) u) (add (mul (det u p w) v) (mul (det u v p) w)):=by
 apply ext3<;>simp only[det,mul,add]<;>grind
theorem xcV (r u w z p:R3)(hu:val r u=0)(hw:val r w=0):val r p*det u w z=val r z*det u w p:=by
 have h:=xlq (val r) (xd2 u w z p)
 rw[val_mul,val_add,val_add,val_mul,val_mul,val_mul,hu,hw] at h
 rw[xjI (val r p)]
 rw[h];grind
theorem pp {a b:Int}(h:0<a)(k:0<b):0<a*b:=xjS h k
theorem pz {a b:Int}(h:0≤a)(k:0≤b):0≤a*b:=Int.mul_nonneg h k
theorem pn {a b:Int}(h:0≤a)(k:b≤0):a*b≤0:=Int.mul_nonpos_of_nonneg_of_nonpos h k
theorem np {a b:Int}(h:a≤0)(k:0≤b):a*b≤0:=Int.mul_nonpos_of_nonpos_of_nonneg h k
theorem nn {a b:Int}(h:a≤0)(k:b≤0):0≤a*b:=Int.mul_nonneg_of_nonpos_of_nonpos h k
theorem wQ {a b:Int}(h:0<a)(k:0<a*b):0<b:=by
 rcases xjG 0 b with z | z
 ·exact z
 ·have:=pn (xjB h) z;omega
theorem zI {a b:Int}(h:0<a)(k:0≤a*b):0≤b:=by
 rcases xjG b 0 with z | z
 ·have:=xjQ h z;omega
 ·exact z
theorem bE {a b:Int}(h:0<a)(k:a*b≤0):b≤0:=by
 rcases xjG 0 b with z | z
 ·have:=pp h z;omega
 ·exact z
theorem rk {a b:Int}(h:0<a)(k:a*b=0):b=0:=(xjL.mp k).resolve_left (by omega)
inductive Cn (l:List R3):R3→Prop
 | zero:Cn l (0,0,0)
 | mem {v}:v∈l→Cn l v
 | add {p q}:Cn l p→Cn l q→Cn l (add p q)
theorem Cn.nsmul {l:List R3}{p:R3}(h:Cn l p):∀k:Nat,Cn l (mul k p)
 | 0=>by
  have:mul ((0:Nat):Int) p=(0,0,0):=by apply ext3<;>simp[mul]
  rw[this];exact .zero
 | k+1=>by
  have:mul ((k+1:Nat):Int) p=Pol.add (mul k p) p:=by apply ext3<;>simp only[mul,Pol.add]<;>grind
  rw[this];exact(h.nsmul k).add h
theorem Cn.smul (h:Cn l p)(hk:0≤k):Cn l (mul k p):=by
 have:=h.nsmul k.toNat
 rwa [Int.toNat_of_nonneg hk] at this
theorem Cn.mono (h:Cn l p)(hl:∀v∈l,Cn l' v):Cn l' p:=by
 induction h with
 | zero=>exact .zero
 | mem m=>exact hl _ m
 | add _ _ h1 h2=>exact h1.add h2
theorem Cn.lin (h:Cn l p)(g:R3→Int)(g0:g (0,0,0)=0)(ga:∀p q,g (Pol.add p q)=g p+g q)(hl:∀v∈l,0≤g v):0≤g p:=by
 induction h with
 | zero=>omega
 | mem m=>exact hl _ m
 | add _ _ h1 h2=>rw[ga];omega
theorem Cn.valGe (h:Cn l p)(r:R3)(hl:∀v∈l,0≤Pol.val r v):0≤Pol.val r p :=
 h.lin (Pol.val r) (by simp[Pol.val]) (val_add r) hl
theorem Cn.det (h:Cn l p)(u v:R3)(hl:∀w∈l,0≤Pol.det u v w):0≤Pol.det u v p :=
 h.lin (Pol.det u v) (by simp[Pol.det]) (rV u v) hl
theorem Cn.bot {l:List R3}{p:R3}(h:Cn l p)(hl:∀v∈l,0<v.2.2):p=(0,0,0)∨0<p.2.2:=by
 induction h with
 | zero=>exact .inl rfl
 | mem m=>exact .inr (hl _ m)
 | @add p q _ _ h1 h2 =>
  rcases h1 with rfl | h1
  ·have:Pol.add (0,0,0) q=q:=by apply ext3<;>simp[Pol.add]
   rw[this];exact h2
  ·right
   show 0<p.2.2+q.2.2
   rcases h2 with rfl | h2
   ·simpa using h1
   ·omega
theorem Cn.zeros (h:Cn l p)(r:R3)(hl:∀v∈l,0≤Pol.val r v)(h0:Pol.val r p≤0):Cn (l.filter fun v=>Pol.val r v=0) p:=by
 induction h with
 | zero=>exact .zero
 | @mem v m=>exact .mem (xkM.mpr ⟨m,by have:=hl v m;simp;omega⟩)
 | @add p q hp hq h1 h2 =>
  rw[val_add] at h0
  have a:=hp.valGe r hl
  have b:=hq.valGe r hl
  exact(h1 (by omega)).add (h2 (by omega))
theorem Cn.pair {u v p:R3}(h:Cn [u,v] p):∃a b:Int,0≤a∧0≤b∧p=Pol.add (mul a u) (mul b v):=by
 induction h with
 | zero=>exact⟨0,0,by omega,by omega,by apply ext3<;>simp[Pol.add,mul]⟩
 | mem m =>
  simp only[xkJ,xkY,xly] at m
  rcases m with rfl | rfl
  ·exact⟨1,0,by omega,by omega,by apply ext3<;>simp[Pol.add,mul]⟩
  ·exact⟨0,1,by omega,by omega,by apply ext3<;>simp[Pol.add,mul]⟩
 | add _ _ h1 h2 =>
  obtain⟨a,b,a0,b0,rfl⟩:=h1
  obtain⟨c,d,c0,d0,rfl⟩:=h2
  exact⟨a+c,b+d,by omega,by omega,by apply ext3<;>simp only[Pol.add,mul]<;>grind⟩
def InC (l:List R3)(p:R3):Prop:=∃m:Int,0<m∧Cn l (mul m p)
structure Ccw (l:List R3):Prop where
 tri:∀u v w:R3,List.Sublist [u,v,w] l→0<det u v w
 nd:l.Nodup
theorem xeq (h:[u,v,w]=l1++l2):(l1=[]∧l2=[u,v,w])∨(l1=[u]∧l2=[v,w])∨(l1=[u,v]∧l2=[w])∨(l1=[u,v,w]∧l2=[]):=by
 cases l1 with
 | nil=>exact .inl ⟨rfl,h.symm⟩
 | cons a t =>
  injection h with h1 h2
  subst h1
  cases t with
  | nil=>exact .inr (.inl ⟨rfl,h2.symm⟩)
  | cons b t =>
   injection h2 with h1 h2
   subst h1
   cases t with
   | nil=>exact .inr (.inr (.inl ⟨rfl,h2.symm⟩))
   | cons c t =>
    injection h2 with h1 h2
    subst h1
    have:=List.append_eq_nil_iff.mp h2.symm
    rw[this.1,this.2]
    exact .inr (.inr (.inr ⟨rfl,rfl⟩))
theorem Ccw.rot (h:Ccw (a++b)):Ccw (b++a):=by
 refine⟨fun u v w s=>?_,?_⟩
 ·obtain⟨l1,l2,e,s1,s2⟩:=xk3.mp s
  have s3:=List.Sublist.append s2 s1
  rcases xeq e with ⟨rfl,rfl⟩ | ⟨rfl,rfl⟩ | ⟨rfl,rfl⟩ | ⟨rfl,rfl⟩
  ·exact h.tri _ _ _ (by simpa using s3)
  ·have:=h.tri _ _ _ (show List.Sublist [v,w,u] (a++b) by simpa using s3)
   rw[wY];exact this
  ·have:=h.tri _ _ _ (show List.Sublist [w,u,v] (a++b) by simpa using s3)
   rw[←wY];exact this
  ·exact h.tri _ _ _ (by simpa using s3)
 ·have:=h.nd
  rw[xkW] at this ⊢
  exact⟨this.2.1,this.1,fun x hx y hy e=>this.2.2 y hy x hx e.symm⟩
theorem Ccw.alt {l:List R3}(h:Ccw l)(r:R3){a b c d:R3}(s:List.Sublist [a,b,c,d] l):¬(0<val r a∧val r b≤0∧0<val r c∧val r d≤0)∧¬(val r a≤0∧0<val r b∧val r c≤0∧0<val r d):=by
 have h1:=h.tri b c d (xj0 (List.Sublist.cons _ (xjZ _)) s)
 have h2:=h.tri a b d (xj0 (by simp) s)
 have h3:=h.tri a c d (xj0 (by simp) s)
 have h4:=h.tri a b c (xj0 (by simp) s)
 have e:=four r a b c d
 constructor
 ·rintro⟨x1,x2,x3,x4⟩
  have:=pp h1 x1
  have:=pp h2 x3
  have:=pn (xjB h3) x2
  have:=pn (xjB h4) x4
  omega
 ·rintro⟨x1,x2,x3,x4⟩
  have:=pn (xjB h1) x1
  have:=pn (xjB h2) x3
  have:=pp h3 x2
  have:=pp h4 x4
  omega
theorem cR (f:R3→Bool):∀l:List R3,l=l.takeWhile f++l.dropWhile f:=fun l=>(List.takeWhile_append_dropWhile (p:=f) (l:=l)).symm
theorem xbQ:∀ {l:List R3},x∈l.takeWhile f→f x=true:=fun {l} h=>by
 induction l with
 | nil=>simp at h
 | cons a t ih =>
  rw[List.takeWhile_cons] at h
  split at h
  ·rcases xkJ.mp h with rfl | h
   ·assumption
   ·exact ih h
  ·simp at h
theorem cj:∀ {l:List R3},l.dropWhile f=x::t→f x=false:=fun {l} h=>by
 induction l with
 | nil=>simp at h
 | cons a l ih =>
  rw[List.dropWhile_cons] at h
  split at h
  ·exact ih h
  ·rename_i hn
   injection h with h1 h2
   subst h1
   simpa using hn
theorem Ccw.parts (h:Ccw l)(r:R3):∃a b P Q,l=a++b∧b++a=P++Q∧(∀v∈P,0<val r v)∧∀v∈Q,val r v≤0:=by
 have e1:=cR (fun v=>decide (val r v≤0)) l
 have m1:∀v∈l.takeWhile fun v=>decide (val r v≤0),val r v≤0:=fun v hv=>xlx (xbQ hv)
 revert e1 m1
 generalize l.takeWhile (fun v=>decide (val r v≤0))=N1
 cases hd:l.dropWhile (fun v=>decide (val r v≤0)) with
 | nil =>
  intro e1 m1
  rw[xj5] at e1
  exact⟨[],l,[],l,rfl,by simp,fun v hv=>absurd hv (by simp),fun v hv=>m1 v (e1▸hv)⟩
 | cons p R =>
  intro e1 m1
  have hp:0<val r p:=by
   have:=cj hd
   have:=xlw this
   omega
  have e2:=cR (fun v=>decide (0<val r v)) R
  have m2:∀v∈R.takeWhile fun v=>decide (0<val r v),0<val r v:=fun v hv=>xlx (xbQ hv)
  revert e2 m2
  generalize R.takeWhile (fun v=>decide (0<val r v))=P1
  cases hd2:R.dropWhile (fun v=>decide (0<val r v)) with
  | nil =>
   intro e2 m2
   rw[xj5] at e2
   subst e2
   refine⟨N1,p::R,p::R,N1,e1,rfl,fun v hv=>?_,m1⟩
   rcases xkJ.mp hv with rfl | hv
   ·exact hp
   ·exact m2 v hv
  | cons q S =>
   intro e2 m2
   have hq:val r q≤0:=by
    have:=cj hd2
    have:=xlw this
    omega
   have mp:∀v∈p::P1,0<val r v:=fun v hv=>by
    rcases xkJ.mp hv with rfl | hv
    ·exact hp
    ·exact m2 v hv
   cases N1 with
   | cons n0 N =>
    refine⟨n0::N,p::R,p::P1,q::S++(n0::N),e1,by rw[e2];simp,mp,fun v hv=>?_⟩
    rcases xkG.mp hv with hv | hv
    ·rcases xkJ.mp hv with rfl | hv
     ·exact hq
     ·rcases xjG 0 (val r v) with z | z
      ·exfalso
       have s:List.Sublist [n0,p,q,v] l:=by
        rw[e1,e2]
        have s1:List.Sublist [v] S:=xk1.mpr hv
        have s2:List.Sublist [q,v] (q::S):=s1.cons_cons q
        have s3:List.Sublist [q,v] (P1++q::S):=s2.trans (xk4 _ _)
        have s4:List.Sublist [p,q,v] (p::(P1++q::S)):=s3.cons_cons p
        have s5:List.Sublist [n0] (n0::N):=xk1.mpr xkL
        exact s5.append s4
       exact(h.alt r s).2 ⟨m1 n0 xkL,hp,hq,z⟩
      ·exact z
    ·exact m1 v hv
   | nil =>
    have e3:=cR (fun v=>decide (val r v≤0)) S
    have m3:∀v∈S.takeWhile fun v=>decide (val r v≤0),val r v≤0:=fun v hv=>xlx (xbQ hv)
    have hd3:∀v∈S.dropWhile (fun v=>decide (val r v≤0)),0<val r v:=fun v hv=>by
     cases hc:S.dropWhile (fun v=>decide (val r v≤0)) with
     | nil=>rw[hc] at hv;simp at hv
     | cons p2 S2 =>
      have hp2:0<val r p2:=by
       have:=cj hc
       have:=xlw this
       omega
      rw[hc] at hv
      rcases xkJ.mp hv with rfl | hv
      ·exact hp2
      ·rcases xjG 0 (val r v) with z | z
       ·exact z
       ·exfalso
        have s:List.Sublist [p,q,p2,v] l:=by
         rw[e1,xkV,e2,e3,hc]
         have s1:List.Sublist [v] S2:=xk1.mpr hv
         have s2:List.Sublist [p2,v] (p2::S2):=s1.cons_cons p2
         have s3:=s2.trans (xk4 (S.takeWhile fun v=>decide (val r v≤0)) _)
         have s4:=s3.cons_cons q
         have s5:=s4.trans (xk4 P1 _)
         exact s5.cons_cons p
        exact(h.alt r s).1 ⟨hp,hq,hp2,z⟩
    refine⟨p::P1++q::S.takeWhile (fun v=>decide (val r v≤0)),S.dropWhile (fun v=>decide (val r v≤0)),S.dropWhile (fun v=>decide (val r v≤0))++p::P1,q::S.takeWhile (fun v=>decide (val r v≤0)),?_,?_,fun v hv=>?_,fun v hv=>?_⟩
    ·rw[e1,xkV,e2]
     conv=>lhs;rw[e3]
     simp
    ·simp
    ·rcases xkG.mp hv with hv | hv
     ·exact hd3 v hv
     ·exact mp v hv
    ·rcases xkJ.mp hv with rfl | hv
     ·exact hq
     ·exact m3 v hv
end Pol
namespace Pol
def xB:R3→List R3→R3
 | p,[]=>p
 | _,x::xs=>xB x xs
theorem vg (u v w:R3):det u v w=det w u v:=by simp only[det];grind
theorem xdO (u v w:R3):det u v w = - det v u w:=by simp only[det];grind
theorem f_ (p q:R3):∀(xs ys:List R3),xB p (xs++q::ys)=xB q ys
 | [],_=>rfl
 | x::xs,ys=>f_ x q xs ys
theorem aE (p q:R3)(xs:List R3):xB p (xs++[q])=q:=f_ p q xs []
theorem yz (p:R3):∀(xs:List R3),xB p xs∈p::xs
 | []=>by simp[xB]
 | x::xs=>xkK _ (yz x xs)
theorem sQ (p:R3):∀(xs:List R3),∃ys,p::xs=ys++[xB p xs]
 | []=>⟨[],rfl⟩
 | x::xs=>by
  obtain⟨ys,e⟩:=sQ x xs
  exact⟨p::ys,xlq (p::·) e⟩
def chain:R3→List R3→List (R3×R3)
 | _,[]=>[]
 | p,x::xs=>(p,x)::chain x xs
theorem j9 (p:R3):∀(xs ys:List R3),chain p (xs++ys)=chain p xs++chain (xB p xs) ys
 | [],_=>rfl
 | x::xs,ys=>by
  show(p,x)::chain x (xs++ys)=(p,x)::(chain x xs++chain (xB x xs) ys)
  rw[j9 x xs ys]
def cyc:List R3→List (R3×R3)
 | []=>[]
 | x::xs=>chain (xB x xs) (x::xs)
theorem hU:cyc ((x::xs)++(y::ys))=chain (xB y ys) (x::xs)++chain (xB x xs) (y::ys):=by
 show chain (xB x (xs++y::ys)) ((x::xs)++(y::ys))=_
 rw[f_,j9];rfl
theorem xbG (a b:List R3):∃c d,cyc (a++b)=c++d∧cyc (b++a)=d++c:=by
 cases a with
 | nil=>exact⟨[],cyc b,by simp,by simp⟩
 | cons x xs =>
  cases b with
  | nil=>exact⟨[],cyc (x::xs),by simp,by simp⟩
  | cons y ys=>exact⟨_,_,hU,hU⟩
theorem cg (h:p∈cyc (b++a)):p∈cyc (a++b):=by
 obtain⟨c,d,e1,e2⟩:=xbG a b
 rw[e2] at h
 rw[e1]
 exact xkG.mpr ((xkG.mp h).symm)
theorem j8:∀ {p:R3} {l:List R3},(x,y)∈chain p l→∃s t,p::l=s++x::y::t
 | _,[],h=>by simp[chain] at h
 | p,z::l,h=>by
  rcases xkJ.mp h with e | h
  ·injection e with e1 e2
   subst e1 e2
   exact⟨[],l,rfl⟩
  ·obtain⟨s,t,e⟩:=j8 h
   exact⟨p::s,t,by rw[e];rfl⟩
theorem sY:∀ {s:List R3} {p:R3} {l t:List R3},p::l=s++x::y::t→(x,y)∈chain p l
 | [],p,l,t,h=>by
  injection h with h1 h2
  subst h1 h2
  exact xkL
 | a::s,p,l,t,h=>by
  injection h with h1 h2
  subst h1
  cases l with
  | nil=>cases s<;>cases h2
  | cons z l=>exact xkK _ (sY (s:=s) h2)
theorem Ccw.edge (h:Ccw l)(he:(u,v)∈cyc l)(hw:w∈l):0≤det u v w:=by
 cases l with
 | nil=>simp at hw
 | cons x xs =>
  have he:(u,v)∈(xB x xs,x)::chain x xs:=he
  rcases xkJ.mp he with e | he
  ·injection e with e1 e2
   subst e1 e2
   obtain⟨ys,e⟩:=sQ v xs
   generalize xB v xs=L at e ⊢
   cases ys with
   | nil =>
    injection e with e1 e2
    rw[←e1,kA];exact xjE _
   | cons y ys =>
    injection e with e1 e2
    subst e1
    have e2:xs=ys++[L]:=e2
    rw[e2] at hw
    rcases xkJ.mp hw with rfl | hw
    ·rw[vW];exact xjE _
    ·rcases xkG.mp hw with hw | hw
     ·have:=h.tri v w L (by
       rw[e2]
       exact((xk1.mpr hw).append (xjZ [L])).cons_cons v)
      rw[vg] at this;exact xjB this
     ·have:w=L:=by simpa using hw
      rw[this,kC];exact xjE _
  ·obtain⟨s,t,e⟩:=j8 he
   rw[e] at hw
   rcases xkG.mp hw with hw | hw
   ·have:=h.tri w u v (by
     rw[e]
     exact(xk1.mpr hw).append ((xjZ [u,v]).trans (by simp)))
    rw[wY] at this;omega
   ·rcases xkJ.mp hw with rfl | hw
    ·rw[kC];exact xjE _
    ·rcases xkJ.mp hw with rfl | hw
     ·rw[vW];exact xjE _
     ·have:=h.tri u v w (by
       rw[e]
       exact((((xk1.mpr hw).cons_cons v).cons_cons u)).trans (xk4 s _))
      omega
theorem fan (x:R3)(p:R3):∀(y:R3) (ys:List R3),(∀u v,(u,v)∈chain y ys→0<det x u v∧0≤det u v p)→0≤det x y p→det x (xB y ys) p≤0→ys≠[]→∃u v,(u,v)∈chain y ys∧0≤det x u p∧det x v p≤0
 | y,[],_,_,_,h=>absurd rfl h
 | y,z::ys,hc,h0,h1,_=>by
  rcases xjG 0 (det x z p) with c | c
  ·cases ys with
   | nil=>exact absurd h1 (by show ¬det x z p≤0;omega)
   | cons a ys =>
    obtain⟨u,v,m,h2,h3⟩:=fan x p z (a::ys) (fun u v m=>hc u v (xkK _ m)) (xjB c) h1 (by simp)
    exact⟨u,v,xkK _ m,h2,h3⟩
  ·exact⟨y,z,xkL,h0,c⟩
theorem Ccw.incone (h:Ccw l)(h3:3≤l.length)(hp:∀u v,(u,v)∈cyc l→0≤det u v p):InC l p:=by
 match l,h,h3,hp with
 | x::y::z::t,h,_,hp =>
  have he:∀u v,(u,v)∈chain y (z::t)→0<det x u v∧0≤det u v p:=fun u v m=>by
   obtain⟨s,s2,e⟩:=j8 m
   refine⟨h.tri x u v ?_,hp u v (xkK _ (xkK _ m))⟩
   rw[e]
   exact(((xjZ [u,v]).trans (show List.Sublist [u,v] (u::v::s2) by simp)).trans (xk4 s _)).cons_cons x
  have h0:0≤det x y p:=hp x y (xkK _ xkL)
  have h1:0≤det (xB x (y::z::t)) x p:=hp _ _ xkL
  have h1':det x (xB y (z::t)) p≤0:=by
   have e:det x (xB y (z::t)) p = - det (xB x (y::z::t)) x p:=xdO _ _ _
   omega
  obtain⟨u,v,m,h2,h3⟩:=fan x p y (z::t) he h0 h1' (by simp)
  obtain⟨d1,d2⟩:=he u v m
  have mem:∀w,w=u∨w=v→w∈x::y::z::t:=fun w hw=>by
   obtain⟨s,s2,e⟩:=j8 m
   have:w∈y::z::t:=by
    rw[e]
    rcases hw with rfl | rfl<;>simp
   exact xkK _ this
  refine⟨det x u v,d1,?_⟩
  rw[xd2 x u v p]
  have c1:0≤det p u v:=by rw[wY];exact d2
  have c2:0≤det x p v:=by rw[mC];omega
  exact((Cn.mem xkL).smul c1).add (((Cn.mem (mem u (.inl rfl))).smul c2).add ((Cn.mem (mem v (.inr rfl))).smul h2))
end Pol
namespace Pol
def turn (r s:R3):Int:=r.1*s.2.1-r.2.1*s.1
def uO (w:R3):Nat:=Int.gcd (Int.gcd w.1 w.2.1:Int) w.2.2
def red (w:R3):R3:=(w.1 / uO w,w.2.1 / uO w,w.2.2 / uO w)
theorem lu (w:R3):(uO w:Int) ∣ w.1∧(uO w:Int) ∣ w.2.1∧(uO w:Int) ∣ w.2.2:=by
 have h1:(uO w:Int) ∣ (Int.gcd w.1 w.2.1:Int):=xjx ..
 exact⟨xjr h1 (xjx ..),xjr h1 (xjy ..),xjy ..⟩
theorem xc3 (h1:d ∣ w.1)(h2:d ∣ w.2.1)(h3:d ∣ w.2.2):d ∣ (uO w:Int):=xjo (xjo h1 h2) h3
theorem kG (h:0<w.2.2):0<(uO w:Int):=by
 have:=xjA (Int.gcd w.1 w.2.1:Int) (show w.2.2≠0 by omega)
 unfold uO;omega
theorem rL:mul (uO w) (red w)=w:=by
 obtain⟨h1,h2,h3⟩:=lu w
 exact ext3 (xjK h1) (xjK h2) (xjK h3)
theorem xaK (h:0<w.2.2):0<(red w).2.2:=by
 have e:(uO w:Int)*(red w).2.2=w.2.2:=xlq (·.2.2) (rL (w:=w))
 exact wQ (kG h) (by rw[e];exact h)
theorem xdC (h:0<w.2.2):uO (red w)=1:=by
 obtain⟨h1,h2,h3⟩:=lu (red w)
 have g:=kG h
 have d:(uO w:Int)*(uO (red w):Int) ∣ (uO w:Int):=by
  have e:=rL (w:=w)
  refine xc3 ?_ ?_ ?_
  ·conv=>rhs;rw[←e]
   exact xjJ _ h1
  ·conv=>rhs;rw[←e]
   exact xjJ _ h2
  ·conv=>rhs;rw[←e]
   exact xjJ _ h3
 have d2:(uO (red w):Int) ∣ 1:=by
  have:(uO w:Int)*(uO (red w):Int) ∣ (uO w:Int)*1:=by rw[xjR];exact d
  exact Int.dvd_of_mul_dvd_mul_left (by omega) this
 have:=Int.le_of_dvd (by decide) d2
 have p:=kG (xaK h)
 omega
theorem gZ (hg:uO v=1)(hz:0<v.2.2)(hs:val s v=0)(ht:val t v=0)(hn:turn s t≠0) :
  v.2.2≤(turn s t).natAbs∧v.1.natAbs≤(s.2.2*t.2.1-t.2.2*s.2.1).natAbs∧v.2.1.natAbs≤(t.2.2*s.1-s.2.2*t.1).natAbs:=by
 have e1:turn s t*v.1=v.2.2*(s.2.2*t.2.1-t.2.2*s.2.1):=by
  have:turn s t*v.1=v.2.2*(s.2.2*t.2.1-t.2.2*s.2.1)+t.2.1*val s v-s.2.1*val t v:=by simp only[turn,val];grind
  rw[hs,ht] at this;rw[this];grind
 have e2:turn s t*v.2.1=v.2.2*(t.2.2*s.1-s.2.2*t.1):=by
  have:turn s t*v.2.1=v.2.2*(t.2.2*s.1-s.2.2*t.1)+s.1*val t v-t.1*val s v:=by simp only[turn,val];grind
  rw[hs,ht] at this;rw[this];grind
 have dv:v.2.2 ∣ turn s t:=by
  have h1:v.2.2 ∣ turn s t*v.1:=⟨_,e1⟩
  have h2:v.2.2 ∣ turn s t*v.2.1:=⟨_,e2⟩
  have h3:v.2.2 ∣ turn s t*v.2.2:=Int.dvd_mul_left ..
  have g12:v.2.2 ∣ turn s t*(Int.gcd v.1 v.2.1:Int):=by
   have:=xjo h1 h2
   rw[xjz] at this
   have h4:((turn s t).natAbs*Int.gcd v.1 v.2.1:Nat)=((turn s t*(Int.gcd v.1 v.2.1:Int)).natAbs:Nat):=by rw[xjT];rfl
   rw[h4] at this
   exact xjq.mp this
  have g3:=xjo g12 h3
  rw[xjz] at g3
  have hg':Int.gcd (Int.gcd v.1 v.2.1:Int) v.2.2=1:=hg
  rw[hg',Nat.mul_one] at g3
  exact xjq.mp g3
 have zl:v.2.2≤(turn s t).natAbs:=by
  have h:=Int.le_of_dvd (show(0:Int)<((turn s t).natAbs:Int) by omega) (xjq.mpr dv)
  exact h
 refine⟨zl,?_,?_⟩
 ·have h:=xlq Int.natAbs e1
  rw[xjT,xjT] at h
  rcases Nat.lt_or_ge (s.2.2*t.2.1-t.2.2*s.2.1).natAbs v.1.natAbs with c | c
  ·exfalso
   have h1:v.2.2.natAbs≤(turn s t).natAbs:=by omega
   have h2:0<v.2.2.natAbs:=by omega
   have h3:v.2.2.natAbs*(s.2.2*t.2.1-t.2.2*s.2.1).natAbs<v.2.2.natAbs*v.1.natAbs:=Nat.mul_lt_mul_of_pos_left c h2
   have h4:v.2.2.natAbs*v.1.natAbs≤(turn s t).natAbs*v.1.natAbs:=xlk _ h1
   omega
  ·exact c
 ·have h:=xlq Int.natAbs e2
  rw[xjT,xjT] at h
  rcases Nat.lt_or_ge (t.2.2*s.1-s.2.2*t.1).natAbs v.2.1.natAbs with c | c
  ·exfalso
   have h1:v.2.2.natAbs≤(turn s t).natAbs:=by omega
   have h2:0<v.2.2.natAbs:=by omega
   have h3:v.2.2.natAbs*(t.2.2*s.1-s.2.2*t.1).natAbs<v.2.2.natAbs*v.2.1.natAbs:=Nat.mul_lt_mul_of_pos_left c h2
   have h4:v.2.2.natAbs*v.2.1.natAbs≤(turn s t).natAbs*v.2.1.natAbs:=xlk _ h1
   omega
  ·exact c
def abs (i:Int):Int:=if i<0 then -i else i
def cw (r u v:R3):R3:=add (mul (abs (val r v)) u) (mul (abs (val r u)) v)
def xF (r u v:R3):R3:=red (cw r u v)
theorem xaV (r u v:R3):cw r u v=cw r v u:=by apply ext3<;>simp only[cw,add]<;>omega
structure Bt (u v x:R3)(a b g:Int):Prop where
 pa:0<a
 pb:0<b
 pg:0<g
 e:mul g x=add (mul a u) (mul b v)
theorem kF (hu:0<u.2.2)(hv:0<v.2.2)(h:val r u*val r v<0):Bt u v (xF r u v) (abs (val r v)) (abs (val r u)) (uO (cw r u v))∧val r (xF r u v)=0∧0<(xF r u v).2.2∧uO (xF r u v)=1:=by
 have sg:(val r u<0∧0<val r v)∨(0<val r u∧val r v<0):=by
  rcases xjH (val r u) 0 with c | c | c
  ·rcases xjG 0 (val r v) with d | d
   ·exact .inl ⟨c,d⟩
   ·have:=nn (xjB c) d;omega
  ·rw[c] at h;simp at h
  ·rcases xjG (val r v) 0 with d | d
   ·exact .inr ⟨c,d⟩
   ·have:=pz (xjB c) d;omega
 have p1:0<abs (val r v):=by unfold abs;split<;>omega
 have p2:0<abs (val r u):=by unfold abs;split<;>omega
 have hz:0<(cw r u v).2.2:=by
  show 0<abs (val r v)*u.2.2+abs (val r u)*v.2.2
  have:=pp p1 hu
  have:=pp p2 hv
  omega
 have v0:val r (cw r u v)=0:=by
  unfold cw
  rw[val_add,val_mul,val_mul]
  rcases sg with ⟨c,d⟩ | ⟨c,d⟩
  ·have e1:abs (val r v)=val r v:=by unfold abs;rw[if_neg (by omega)]
   have e2:abs (val r u) = - val r u:=by unfold abs;rw[if_pos c]
   rw[e1,e2];grind
  ·have e1:abs (val r v) = - val r v:=by unfold abs;rw[if_pos d]
   have e2:abs (val r u)=val r u:=by unfold abs;rw[if_neg (by omega)]
   rw[e1,e2];grind
 refine⟨⟨p1,p2,kG hz,rL⟩,?_,xaK hz,xdC hz⟩
 have:=xlq (val r) (rL (w:=cw r u v))
 rw[val_mul,v0] at this
 exact rk (kG hz) this
theorem Bt.val (h:Bt u v x a b g)(r:R3):g*Pol.val r x=a*Pol.val r u+b*Pol.val r v:=by
 have:=xlq (Pol.val r) h.e
 rwa [val_mul,val_add,val_mul,val_mul] at this
theorem Bt.det (h:Bt u v x a b g)(p q:R3):g*Pol.det p q x=a*Pol.det p q u+b*Pol.det p q v:=by
 have:=xlq (Pol.det p q) h.e
 rwa [qh,rV,qh,qh] at this
theorem Bt.kept (h:Bt u v x a b g)(hu:Pol.val r u≤0)(hv:Pol.val r v≤0):Pol.val r x≤0:=by
 have:=h.val r
 have:=pn (xjB h.pa) hu
 have:=pn (xjB h.pb) hv
 exact bE h.pg (by omega)
theorem Bt.tight (h:Bt u v x a b g)(hu:Pol.val r u=0)(hv:Pol.val r v=0):Pol.val r x=0:=by
 have:=h.val r
 rw[hu,hv] at this
 exact rk h.pg (by omega)
theorem unlike (hs:s.1≠0∨s.2.1≠0)(hu:0<u.2.2)(hv:0<v.2.2)(su:val s u=0)(sv:val s v=0)(h:val r u*val r v<0):turn s r≠0:=by
 intro z
 have e:s.1*(val r u*v.2.2-val r v*u.2.2)=r.1*(val s u*v.2.2-val s v*u.2.2)+turn s r*(u.2.1*v.2.2-v.2.1*u.2.2):=by simp only[val,turn];grind
 have e':s.2.1*(val r u*v.2.2-val r v*u.2.2)=r.2.1*(val s u*v.2.2-val s v*u.2.2)-turn s r*(u.1*v.2.2-v.1*u.2.2):=by simp only[val,turn];grind
 rw[z,su,sv] at e e'
 have k:val r u*v.2.2-val r v*u.2.2=0:=by
  rcases hs with c | c
  ·have e:s.1*(val r u*v.2.2-val r v*u.2.2)=0:=by rw[e];grind
   exact(xjL.mp e).resolve_left c
  ·have e':s.2.1*(val r u*v.2.2-val r v*u.2.2)=0:=by rw[e'];grind
   exact(xjL.mp e').resolve_left c
 rcases xjH (val r u) 0 with c | c | c
 ·have d:0<val r v:=by
   rcases xjG 0 (val r v) with d | d
   ·exact d
   ·have:=nn (xjB c) d;omega
  have:=xjP c hv
  have:=pp d hu
  omega
 ·rw[c] at h;simp at h
 ·have d:val r v<0:=by
   rcases xjG (val r v) 0 with d | d
   ·exact d
   ·have:=pz (xjB c) d;omega
  have:=xjP d hu
  have:=pp c hv
  omega
end Pol
namespace Pol
def seg (r:R3)(p:R3×R3):List R3:=(if val r p.1*val r p.2<0 then[xF r p.1 p.2] else[])++(if val r p.2≤0 then[p.2] else[])
def cJ (r:R3)(l:List R3):List R3:=(cyc l).flatMap (seg r)
theorem oZ (r:R3)(a b:List R3):∃c d,cJ r (a++b)=c++d∧cJ r (b++a)=d++c:=by
 obtain⟨c,d,e1,e2⟩:=xbG a b
 exact⟨c.flatMap (seg r),d.flatMap (seg r),by unfold cJ;rw[e1,List.flatMap_append],by unfold cJ;rw[e2,List.flatMap_append]⟩
theorem dA:∀ {p:R3} {P:List R3},0<val r p→(∀v∈P,0<val r v)→(chain p P).flatMap (seg r)=[]
 | p,[],_,_=>rfl
 | p,x::P,hp,h=>by
  have hx:=h x xkL
  show seg r (p,x)++(chain x P).flatMap (seg r)=[]
  rw[dA hx fun v hv=>h v (xkK _ hv),xj5]
  unfold seg
  rw[if_neg (show ¬val r p*val r x<0 by have:=pp hp hx;omega),if_neg (show ¬val r x≤0 by omega)];rfl
theorem dY:∀ {p:R3} {Q:List R3},val r p≤0→(∀v∈Q,val r v≤0)→(chain p Q).flatMap (seg r)=Q
 | p,[],_,_=>rfl
 | p,x::Q,hp,h=>by
  have hx:=h x xkL
  show seg r (p,x)++(chain x Q).flatMap (seg r)=x::Q
  rw[dY hx fun v hv=>h v (xkK _ hv)]
  unfold seg
  rw[if_neg (show ¬val r p*val r x<0 by have:=nn hp hx;omega),if_pos (show val r (p,x).2≤0 from hx)];rfl
def bef (r p q:R3):List R3:=if val r q<0 then[xF r p q] else[]
theorem xg2 (hp:0<val r p)(hq:val r q≤0):seg r (p,q)=bef r p q++[q]:=by
 unfold seg bef
 rw[if_pos (show val r (p,q).2≤0 from hq)]
 by_cases c:val r q<0
 ·rw[if_pos c,if_pos (show val r (p,q).1*val r (p,q).2<0 from xjQ hp c)]
 ·rw[if_neg c,if_neg (show ¬val r (p,q).1*val r (p,q).2<0 from by
   have e:val r q=0:=by omega
   show ¬val r p*val r q<0
   rw[e];simp)]
theorem xfg (hp:0<val r p)(hq:val r q≤0):seg r (q,p)=bef r p q:=by
 unfold seg bef
 rw[if_neg (show ¬val r (q,p).2≤0 from by show ¬val r p≤0;omega),xj5]
 by_cases c:val r q<0
 ·rw[if_pos c,if_pos (show val r (q,p).1*val r (q,p).2<0 from xjP c hp)]
  unfold xF;rw[xaV]
 ·rw[if_neg c,if_neg (show ¬val r (q,p).1*val r (q,p).2<0 from by
   have e:val r q=0:=by omega
   show ¬val r q*val r p<0
   rw[e];simp)]
theorem rf (hP:∀v∈p1::P,0<val r v)(hQ:∀v∈q1::Q,val r v≤0) :
  cJ r ((p1::P)++(q1::Q))=bef r p1 (xB q1 Q)++(bef r (xB p1 P) q1++q1::Q):=by
 unfold cJ
 rw[hU,List.flatMap_append]
 have h1:=hP p1 xkL
 have h2:=hQ q1 xkL
 have h3:=hQ _ (yz q1 Q)
 have h4:=hP _ (yz p1 P)
 have e1:(chain (xB q1 Q) (p1::P)).flatMap (seg r)=bef r p1 (xB q1 Q):=by
  show seg r (xB q1 Q,p1)++(chain p1 P).flatMap (seg r)=_
  rw[dA h1 fun v hv=>hP v (xkK _ hv),xj5,xfg h1 h3]
 have e2:(chain (xB p1 P) (q1::Q)).flatMap (seg r)=bef r (xB p1 P) q1++q1::Q:=by
  show seg r (xB p1 P,q1)++(chain q1 Q).flatMap (seg r)=_
  rw[dY h2 fun v hv=>hQ v (xkK _ hv),xg2 h4 h2,xj4];rfl
 rw[e1,e2]
structure Good (Ls l:List R3):Prop where
 ccw:Ccw l
 bot:∀v∈l,0<v.2.2
 prim:∀v∈l,uO v=1
 kept:∀v∈l,∀s∈Ls,val s v≤0
 edge:∀u v,(u,v)∈cyc l→u≠v→∃s∈Ls,val s u=0∧val s v=0
 two:∀v∈l,∃s∈Ls,∃t∈Ls,val s v=0∧val t v=0∧turn s t≠0
 all:∀p:R3,0<p.2.2→(∀s∈Ls,val s p≤0)→InC l p
theorem Good.rot (h:Good Ls (a++b)):Good Ls (b++a) where
 ccw:=h.ccw.rot
 bot:=fun v hv=>h.bot v (by simpa [or_comm] using hv)
 prim:=fun v hv=>h.prim v (by simpa [or_comm] using hv)
 kept:=fun v hv=>h.kept v (by simpa [or_comm] using hv)
 edge:=fun u v e=>h.edge u v (cg e)
 two:=fun v hv=>h.two v (by simpa [or_comm] using hv)
 all:=fun p h0 h1=>by
  obtain⟨m,hm,c⟩:=h.all p h0 h1
  exact⟨m,hm,c.mono fun v hv=>.mem (by simpa [or_comm] using hv)⟩
theorem xc9:∀ {l:List R3},List.Sublist [a,b] l→3≤l.length→∃c,List.Sublist [c,a,b] l∨List.Sublist [a,c,b] l∨List.Sublist [a,b,c] l
 | [],_,h=>absurd h (by simp)
 | x::l,s,h=>by
  cases s with
  | cons _ s =>
   exact⟨x,.inl (s.cons_cons x)⟩
  | cons_cons _ s =>
   have hl:2≤l.length:=by simpa using h
   have hb:b∈l:=xk1.mp s
   obtain⟨s1,s2,e⟩:=List.append_of_mem hb
   cases s1 with
   | cons c s1 =>
    refine⟨c,.inr (.inl ?_)⟩
    rw[e]
    have:List.Sublist [c,b] (c::s1++b::s2):=(xk1.mpr xkL).append (xk1.mpr xkL)
    exact this.cons_cons a
   | nil =>
    cases s2 with
    | nil=>rw[e] at hl;simp at hl
    | cons c s2 =>
     refine⟨c,.inr (.inr ?_)⟩
     rw[e]
     simp
theorem fc (h:∀u v w:R3,List.Sublist [u,v,w] l→0<det u v w)(h3:3≤l.length):l.Nodup:=by
 refine List.pairwise_iff_forall_sublist.mpr fun {a b} s e=>?_
 subst e
 obtain⟨c,s | s | s⟩:=xc9 s h3
 ·have:=h _ _ _ s;rw[vW] at this;omega
 ·have:=h _ _ _ s;rw[kC] at this;omega
 ·have:=h _ _ _ s;rw[kA] at this;omega
end Pol
namespace Pol
theorem bO (h:P≠[]):List.Sublist [p,xB p P] (p::P):=by
 cases P with
 | nil=>exact absurd rfl h
 | cons y ys=>exact(xk1.mpr (show xB p (y::ys)∈y::ys from yz y ys)).cons_cons p
structure Bw (u v x:R3)(a b g:Int):Prop where
 pa:0≤a
 pb:0<b
 pg:0<g
 e:mul g x=add (mul a u) (mul b v)
theorem Bt.w (h:Bt u v x a b g):Bw u v x a b g:=⟨xjB h.pa,h.pb,h.pg,h.e⟩
theorem Bw.self (u v:R3):Bw u v v 0 1 1:=⟨by omega,by omega,by omega,by apply ext3<;>simp[mul,add]⟩
theorem Bw.det (h:Bw u v x a b g)(p q:R3):g*Pol.det p q x=a*Pol.det p q u+b*Pol.det p q v:=by
 have:=xlq (Pol.det p q) h.e
 rwa [qh,rV,qh,qh] at this
section
variable {Ls P Q:List R3} {r p1 q1:R3}
structure xeg (Ls:List R3)(r p1 q1:R3)(P Q:List R3):Prop where
 good:Good Ls ((p1::P)++(q1::Q))
 hP:∀v∈p1::P,0<val r v
 hQ:∀v∈q1::Q,val r v≤0
 three:P≠[]∨Q≠[]
 dir:∀s∈Ls,s.1≠0∨s.2.1≠0
namespace xeg
variable (S:xeg Ls r p1 q1 P Q)
include S
theorem q1le:val r q1≤0:=S.hQ q1 xkL
theorem qmle:val r (xB q1 Q)≤0:=S.hQ _ (yz q1 Q)
theorem p1gt:0<val r p1:=S.hP p1 xkL
theorem pkgt:0<val r (xB p1 P):=S.hP _ (yz p1 P)
theorem botQ (h:v∈q1::Q):0<v.2.2:=S.good.bot v (xkI _ h)
theorem botP (h:v∈p1::P):0<v.2.2:=S.good.bot v (xkH _ h)
theorem pqq (hp:p∈p1::P)(s:List.Sublist [x,y] (q1::Q)):0<det p x y:=S.good.ccw.tri p x y ((xk1.mpr hp).append s)
theorem ppq (hp:List.Sublist [p,p'] (p1::P))(hx:x∈q1::Q):0<det p p' x:=S.good.ccw.tri p p' x (hp.append (xk1.mpr hx))
theorem qqq (s:List.Sublist [x,y,z] (q1::Q)):0<det x y z:=S.good.ccw.tri x y z (s.trans (xk4 _ _))
theorem q1xy (s:List.Sublist [x,y] (q1::Q)):0≤det q1 x y:=by
 cases s with
 | cons _ s=>exact xjB (S.qqq (s.cons_cons q1))
 | cons_cons _ s=>rw[kA];exact xjE _
theorem xyqm (s:List.Sublist [x,y] (q1::Q)):0≤det x y (xB q1 Q):=by
 obtain⟨ys,e⟩:=sQ q1 Q
 have s':=s
 rw[e] at s'
 obtain⟨l1,l2,e2,s1,s2⟩:=xk3.mp s'
 cases l2 with
 | nil =>
  rw[xj5] at e2
  subst e2
  have:=S.qqq (x:=x) (y:=y) (z:=xB q1 Q) (by rw[e];exact s1.append (xjZ [xB q1 Q]))
  omega
 | cons b l2 =>
  have hb:b=xB q1 Q∧l2=[]:=by
   cases s2 with
   | cons _ s2=>cases s2
   | cons_cons _ s2=>cases s2;exact⟨rfl,rfl⟩
  obtain⟨hb,rfl⟩:=hb
  have:y=b:=by
   cases l1 with
   | nil=>cases e2
   | cons c l1 =>
    cases l1 with
    | nil=>injection e2 with _ e2;injection e2
    | cons d l1 =>
     injection e2 with _ e2
     injection e2 with _ e2
     simp at e2
  rw[this,hb,vW];exact xjE _
theorem nd:((p1::P)++(q1::Q)).Nodup:=S.good.ccw.nd
theorem p1pkx (hx:x∈q1::Q):0≤det p1 (xB p1 P) x∧(P≠[]→0<det p1 (xB p1 P) x):=by
 by_cases h:P=[]
 ·subst h
  exact⟨by show 0≤det p1 p1 x;rw[kA];exact xjE _,fun z=>absurd rfl z⟩
 ·have:=S.ppq (bO h) hx
  exact⟨by omega,fun _=>this⟩
theorem pq1x (hp:p∈p1::P)(hx:x∈q1::Q):0≤det p q1 x∧(x≠q1→0<det p q1 x):=by
 rcases xkJ.mp hx with rfl | hx
 ·exact⟨by rw[vW];exact xjE _,fun z=>absurd rfl z⟩
 ·have:=S.pqq hp ((xk1.mpr hx).cons_cons q1)
  exact⟨by omega,fun _=>this⟩
theorem pxqm (hp:p∈p1::P)(hx:x∈q1::Q):0≤det p x (xB q1 Q)∧(x≠xB q1 Q→0<det p x (xB q1 Q)):=by
 obtain⟨ys,e⟩:=sQ q1 Q
 rw[e] at hx
 rcases xkG.mp hx with hx | hx
 ·have:=S.pqq (x:=x) (y:=xB q1 Q) hp (by rw[e];exact(xk1.mpr hx).append (xjZ [xB q1 Q]))
  exact⟨by omega,fun _=>this⟩
 ·have:x=xB q1 Q:=by simpa using hx
  rw[this]
  exact⟨by rw[vW];exact xjE _,fun z=>absurd rfl z⟩
theorem q1xqm (hx:x∈q1::Q):0≤det q1 x (xB q1 Q):=by
 rcases xkJ.mp hx with rfl | hx
 ·rw[kA];exact xjE _
 ·exact S.xyqm ((xk1.mpr hx).cons_cons q1)
theorem q1ne (h:Q≠[]):q1≠xB q1 Q:=by
 have s:=bO (p:=q1) h
 have nd:=(xkW.mp S.nd).2.1
 exact List.pairwise_iff_forall_sublist.mp nd s
def w1 (r p1 q1:R3)(P:List R3):R3:=if val r q1<0 then xF r (xB p1 P) q1 else q1
def u1 (r p1 q1:R3)(Q:List R3):R3:=if val r (xB q1 Q)<0 then xF r p1 (xB q1 Q) else xB q1 Q
theorem X1 (h:val r q1<0):Bt (xB p1 P) q1 (xF r (xB p1 P) q1) (abs (val r q1)) (abs (val r (xB p1 P))) (uO (cw r (xB p1 P) q1))∧val r (xF r (xB p1 P) q1)=0∧0<(xF r (xB p1 P) q1).2.2∧uO (xF r (xB p1 P) q1)=1 :=
 kF (S.botP (yz p1 P)) (S.botQ xkL) (xjQ S.pkgt h)
theorem X2 (h:val r (xB q1 Q)<0):Bt p1 (xB q1 Q) (xF r p1 (xB q1 Q)) (abs (val r (xB q1 Q))) (abs (val r p1)) (uO (cw r p1 (xB q1 Q)))∧val r (xF r p1 (xB q1 Q))=0∧0<(xF r p1 (xB q1 Q)).2.2∧uO (xF r p1 (xB q1 Q))=1 :=
 kF (S.botP xkL) (S.botQ (yz q1 Q)) (xjQ S.p1gt h)
theorem w1b:∃a b g,Bw (xB p1 P) q1 (w1 r p1 q1 P) a b g∧(val r q1<0→0<a)∧val r (w1 r p1 q1 P)=0:=by
 unfold w1
 by_cases h:val r q1<0
 ·rw[if_pos h]
  obtain⟨b,z,_⟩:=S.X1 h
  exact⟨_,_,_,b.w,fun _=>b.pa,z⟩
 ·rw[if_neg h]
  exact⟨_,_,_,Bw.self _ _,fun z=>absurd z h,by have:=S.q1le;omega⟩
theorem u1b:∃a b g,Bw p1 (xB q1 Q) (u1 r p1 q1 Q) a b g∧(val r (xB q1 Q)<0→0<a)∧val r (u1 r p1 q1 Q)=0:=by
 unfold u1
 by_cases h:val r (xB q1 Q)<0
 ·rw[if_pos h]
  obtain⟨b,z,_⟩:=S.X2 h
  exact⟨_,_,_,b.w,fun _=>b.pa,z⟩
 ·rw[if_neg h]
  exact⟨_,_,_,Bw.self _ _,fun z=>absurd z h,by have:=S.qmle;omega⟩
theorem close (hc:val r q1<0∨Q≠[])(hp:val r p≤0):0≤det (u1 r p1 q1 Q) (w1 r p1 q1 P) p:=by
 obtain⟨a,b,g,bw,ha,hw⟩:=S.w1b
 obtain⟨c,d,g',bu,hcc,hu⟩:=S.u1b
 have e1:=bu.det p1 (w1 r p1 q1 P)
 rw[kC,Int.mul_zero,xjY] at e1
 have e2:=bw.det (xB q1 Q) p1
 have d1:det (xB q1 Q) p1 (xB p1 P)=det p1 (xB p1 P) (xB q1 Q):=wY _ _ _
 have d2:det (xB q1 Q) p1 q1=det p1 q1 (xB q1 Q):=wY _ _ _
 rw[d1,d2] at e2
 obtain⟨f1,f2⟩:=S.p1pkx (yz q1 Q)
 obtain⟨f3,f4⟩:=S.pq1x (p:=p1) xkL (yz q1 Q)
 have k1:0<det (xB q1 Q) p1 (w1 r p1 q1 P):=by
  refine wQ bw.pg ?_
  rw[e2]
  have n1:=pz bw.pa f1
  have n2:=pz (xjB bw.pb) f3
  by_cases hq:Q=[]
  ·have hp':P≠[]:=S.three.resolve_right (fun z=>z hq)
   have h0:val r q1<0:=hc.resolve_right (fun z=>z hq)
   have:=pp (ha h0) (f2 hp')
   omega
  ·have:=pp bw.pb (f4 (Ne.symm (S.q1ne hq)))
   omega
 have d3:det p1 (w1 r p1 q1 P) (xB q1 Q)=det (xB q1 Q) p1 (w1 r p1 q1 P):=vg _ _ _
 rw[d3] at e1
 have k2:0<det p1 (w1 r p1 q1 P) (u1 r p1 q1 Q):=by
  refine wQ bu.pg ?_
  rw[e1];exact pp bu.pb k1
 have e3:=xcV r (u1 r p1 q1 Q) (w1 r p1 q1 P) p1 p hu hw
 have d4:det (u1 r p1 q1 Q) (w1 r p1 q1 P) p1 = - det p1 (w1 r p1 q1 P) (u1 r p1 q1 Q):=by
  rw[vg,mC]
 rw[d4] at e3
 refine zI S.p1gt ?_
 rw[←e3]
 exact nn hp (by omega)
def left (r p1 q1:R3)(P Q:List R3):List R3:=bef r (xB p1 P) q1++(q1::Q)++bef r p1 (xB q1 Q)
theorem mem_left (h:v∈left r p1 q1 P Q):(v∈q1::Q)∨(val r q1<0∧v=xF r (xB p1 P) q1)∨(val r (xB q1 Q)<0∧v=xF r p1 (xB q1 Q)):=by
 unfold left bef at h
 rcases xkG.mp h with h | h
 ·rcases xkG.mp h with h | h
  ·split at h
   ·exact .inr (.inl ⟨by assumption,by simpa using h⟩)
   ·simp at h
  ·exact .inl h
 ·split at h
  ·exact .inr (.inr ⟨by assumption,by simpa using h⟩)
  ·simp at h
theorem sub_bef (h:List.Sublist l (bef r p q)):l=[]∨(val r q<0∧l=[xF r p q]):=by
 unfold bef at h
 split at h
 ·cases h with
  | cons _ h=>cases h;exact .inl rfl
  | cons_cons _ h=>cases h;exact .inr ⟨by assumption,rfl⟩
 ·cases h;exact .inl rfl
theorem tri (s:List.Sublist [u,v,w] (left r p1 q1 P Q)):0<det u v w:=by
 unfold left at s
 rw[xj4] at s
 obtain⟨l1,l2,e,s1,s2⟩:=xk3.mp s
 obtain⟨l3,l4,e2,s3,s4⟩:=xk3.mp s2
 have b1:=S.sub_bef s1
 have b4:=S.sub_bef s4
 subst e2
 rcases b1 with rfl | ⟨h1,rfl⟩
 ·rcases b4 with rfl | ⟨h4,rfl⟩
  ·have:[u,v,w]=l3:=by simpa using e
   subst this
   exact S.qqq s3
  ·-- q q X2
   obtain⟨bt,_⟩:=S.X2 h4
   have:l3=[u,v]∧w=xF r p1 (xB q1 Q):=by
    rcases xeq (show[u,v,w]=l3++[xF r p1 (xB q1 Q)] from e) with ⟨_,z⟩ | ⟨_,z⟩ | ⟨z1,z⟩ | ⟨_,z⟩
    ·cases z
    ·cases z
    ·cases z;exact⟨z1,rfl⟩
    ·cases z
   obtain⟨rfl,rfl⟩:=this
   have e3:=bt.det u v
   have k1:0<det u v p1:=by rw[vg];exact S.pqq xkL s3
   have k2:=S.xyqm s3
   have:=pp bt.pa k1
   have:=pz (xjB bt.pb) k2
   exact wQ bt.pg (by omega)
 ·obtain⟨bt,_⟩:=S.X1 h1
  rcases b4 with rfl | ⟨h4,rfl⟩
  ·have:u=xF r (xB p1 P) q1∧l3=[v,w]:=by
    injection e with e1 e2
    exact⟨e1,by simpa using e2.symm⟩
   obtain⟨rfl,rfl⟩:=this
   have e3:=bt.det v w
   have k1:0<det v w (xB p1 P):=by rw[vg];exact S.pqq (yz p1 P) s3
   have k2:0≤det v w q1:=by rw[vg];exact S.q1xy s3
   have:=pp bt.pa k1
   have:=pz (xjB bt.pb) k2
   rw[wY]
   exact wQ bt.pg (by omega)
  ·obtain⟨bu,_⟩:=S.X2 h4
   have:u=xF r (xB p1 P) q1∧l3=[v]∧w=xF r p1 (xB q1 Q):=by
    injection e with e1 e
    have e:[v,w]=l3++[xF r p1 (xB q1 Q)]:=e
    cases l3 with
    | nil=>cases e
    | cons a l3 =>
     injection e with e2 e
     cases l3 with
     | nil=>injection e with e3 _;exact⟨e1,by rw[e2],e3⟩
     | cons b l3=>injection e with _ e;simp at e
   obtain⟨rfl,rfl,rfl⟩:=this
   have hv:v∈q1::Q:=xk1.mp s3
   have e3:=bu.det (xF r (xB p1 P) q1) v
   have e4:=bt.det v p1
   have e5:=bt.det v (xB q1 Q)
   have r1:det v p1 (xB p1 P)=det p1 (xB p1 P) v:=wY _ _ _
   have r2:det v p1 q1=det p1 q1 v:=wY _ _ _
   have r3:det v (xB q1 Q) (xB p1 P)=det (xB p1 P) v (xB q1 Q):=vg _ _ _
   have r4:det v (xB q1 Q) q1=det q1 v (xB q1 Q):=vg _ _ _
   rw[r1,r2] at e4
   rw[r3,r4] at e5
   obtain⟨f1,f2⟩:=S.p1pkx hv
   obtain⟨f3,f4⟩:=S.pq1x (p:=p1) xkL hv
   obtain⟨f5,f6⟩:=S.pxqm (p:=xB p1 P) (yz p1 P) hv
   have f7:=S.q1xqm hv
   have n1:=pz (xjB bt.pa) f1
   have n2:=pz (xjB bt.pb) f3
   have n3:=pz (xjB bt.pa) f5
   have n4:=pz (xjB bt.pb) f7
   have g1:0≤det v p1 (xF r (xB p1 P) q1):=zI bt.pg (by omega)
   have g2:0≤det v (xB q1 Q) (xF r (xB p1 P) q1):=zI bt.pg (by omega)
   have some:0<det v p1 (xF r (xB p1 P) q1)∨0<det v (xB q1 Q) (xF r (xB p1 P) q1):=by
    by_cases hq:Q=[]
    ·have hp':P≠[]:=S.three.resolve_right (fun z=>z hq)
     left
     have:=pp bt.pa (f2 hp')
     exact wQ bt.pg (by omega)
    ·by_cases hv1:v=q1
     ·right
      have:=pp bt.pa (f6 (by rw[hv1];exact S.q1ne hq))
      exact wQ bt.pg (by omega)
     ·left
      have:=pp bt.pb (f4 hv1)
      exact wQ bt.pg (by omega)
   have m1:det (xF r (xB p1 P) q1) v p1=det v p1 (xF r (xB p1 P) q1):=wY _ _ _
   have m2:det (xF r (xB p1 P) q1) v (xB q1 Q)=det v (xB q1 Q) (xF r (xB p1 P) q1):=wY _ _ _
   rw[m1,m2] at e3
   refine wQ bu.pg ?_
   rw[e3]
   have t1:=pz (xjB bu.pa) g1
   have t2:=pz (xjB bu.pb) g2
   rcases some with z | z
   ·have:=pp bu.pa z;omega
   ·have:=pp bu.pb z;omega
end xeg
end
end Pol
namespace Pol
section
variable {Ls P Q:List R3} {r p1 q1:R3}
namespace xeg
variable (S:xeg Ls r p1 q1 P Q)
include S
theorem pairs (h:(u,v)∈cyc (left r p1 q1 P Q)):(u=u1 r p1 q1 Q∧v=w1 r p1 q1 P)∨(val r q1<0∧u=xF r (xB p1 P) q1∧v=q1)∨(val r (xB q1 Q)<0∧u=xB q1 Q∧v=xF r p1 (xB q1 Q))∨(u,v)∈chain q1 Q:=by
 unfold left bef at h
 unfold u1 w1
 by_cases h1:val r q1<0
 ·by_cases h2:val r (xB q1 Q)<0
  ·simp only[if_pos h1,if_pos h2,xj6,xkV] at h ⊢
   have e:cyc (xF r (xB p1 P) q1::q1::(Q++[xF r p1 (xB q1 Q)]))=(xF r p1 (xB q1 Q),xF r (xB p1 P) q1)::(xF r (xB p1 P) q1,q1)::(chain q1 Q++[(xB q1 Q,xF r p1 (xB q1 Q))]):=by
    show(xB q1 (Q++[_]),_)::(_,q1)::chain q1 (Q++[_])=_
    rw[aE,j9];rfl
   rw[e] at h
   rcases xkJ.mp h with h | h
   ·injection h with a b;exact .inl ⟨a,b⟩
   ·rcases xkJ.mp h with h | h
    ·injection h with a b;exact .inr (.inl ⟨h1,a,b⟩)
    ·rcases xkG.mp h with h | h
     ·exact .inr (.inr (.inr h))
     ·have h:=xkU.mp h
      injection h with a b;exact .inr (.inr (.inl ⟨h2,a,b⟩))
  ·simp only[if_pos h1,if_neg h2,xj6,xkV,xj5] at h ⊢
   have e:cyc (xF r (xB p1 P) q1::q1::Q)=(xB q1 Q,xF r (xB p1 P) q1)::(xF r (xB p1 P) q1,q1)::chain q1 Q:=rfl
   rw[e] at h
   rcases xkJ.mp h with h | h
   ·injection h with a b;exact .inl ⟨a,b⟩
   ·rcases xkJ.mp h with h | h
    ·injection h with a b;exact .inr (.inl ⟨h1,a,b⟩)
    ·exact .inr (.inr (.inr h))
 ·by_cases h2:val r (xB q1 Q)<0
  ·simp only[if_neg h1,if_pos h2,xj6,xkV] at h ⊢
   have e:cyc (q1::(Q++[xF r p1 (xB q1 Q)]))=(xF r p1 (xB q1 Q),q1)::(chain q1 Q++[(xB q1 Q,xF r p1 (xB q1 Q))]):=by
    show(xB q1 (Q++[_]),_)::chain q1 (Q++[_])=_
    rw[aE,j9];rfl
   rw[e] at h
   rcases xkJ.mp h with h | h
   ·injection h with a b;exact .inl ⟨a,b⟩
   ·rcases xkG.mp h with h | h
    ·exact .inr (.inr (.inr h))
    ·have h:=xkU.mp h
     injection h with a b;exact .inr (.inr (.inl ⟨h2,a,b⟩))
  ·simp only[if_neg h1,if_neg h2,xj6,xkV,xj5] at h ⊢
   have e:cyc (q1::Q)=(xB q1 Q,q1)::chain q1 Q:=rfl
   rw[e] at h
   rcases xkJ.mp h with h | h
   ·injection h with a b;exact .inl ⟨a,b⟩
   ·exact .inr (.inr (.inr h))
theorem old1:(xB p1 P,q1)∈cyc ((p1::P)++(q1::Q)):=by
 rw[hU];exact xkI _ xkL
theorem old2:(xB q1 Q,p1)∈cyc ((p1::P)++(q1::Q)):=by
 rw[hU];exact xkH _ xkL
theorem old3 (h:(u,v)∈chain q1 Q):(u,v)∈cyc ((p1::P)++(q1::Q)):=by
 rw[hU];exact xkI _ (xkK _ h)
theorem pk_ne:xB p1 P≠q1:=fun e=>by have:=S.pkgt;have:=S.q1le;rw[e] at *;omega
theorem p1_ne:xB q1 Q≠p1:=fun e=>by have:=S.p1gt;have:=S.qmle;rw[e] at *;omega
theorem len_left:(val r q1<0∨val r (xB q1 Q)<0∨2≤Q.length)→3≤(left r p1 q1 P Q).length:=by
 intro h
 unfold left bef
 by_cases hq:Q=[]
 ·subst hq
  have h':val r q1<0:=by
   rcases h with h | h | h
   ·exact h
   ·exact h
   ·simp at h
  rw[if_pos h',if_pos (show val r (xB q1 [])<0 from h')];simp
 ·have l1:1≤Q.length:=by
   cases Q with
   | nil=>exact absurd rfl hq
   | cons _ _=>simp
  rcases h with h | h | h
  ·rw[if_pos h];simp;omega
  ·rw[if_pos h];simp;omega
  ·simp;omega
theorem small (h:¬(val r q1<0∨val r (xB q1 Q)<0∨2≤Q.length)):left r p1 q1 P Q=q1::Q∧∀v∈q1::Q,val r v=0:=by
 have h1:¬val r q1<0:=fun z=>h (.inl z)
 have h2:¬val r (xB q1 Q)<0:=fun z=>h (.inr (.inl z))
 have h3:¬2≤Q.length:=fun z=>h (.inr (.inr z))
 refine⟨by unfold left bef;rw[if_neg h1,if_neg h2];simp,fun v hv=>?_⟩
 have a:=S.q1le
 have b:=S.qmle
 rcases xkJ.mp hv with rfl | hv
 ·omega
 ·match Q,hv,h3,b,h2 with
  | [x],hv,_,b,h2 =>
   have:v=x:=by simpa using hv
   subst this
   have b:val r v≤0:=b
   have h2:¬val r v<0:=h2
   omega
  | _::_::_,_,h3,_,_=>exact absurd (by simp) h3
theorem good_left:Good (Ls++[r]) (left r p1 q1 P Q):=by
 have keptOld:∀s∈Ls,∀v∈(p1::P)++(q1::Q),val s v≤0:=fun s hs v hv=>S.good.kept v hv s hs
 have mP:∀ {v},v∈p1::P→v∈(p1::P)++(q1::Q):=fun h=>xkH _ h
 have mQ:∀ {v},v∈q1::Q→v∈(p1::P)++(q1::Q):=fun h=>xkI _ h
 refine⟨⟨fun u v w s=>S.tri s,?_⟩,fun v hv=>?_,fun v hv=>?_,fun v hv s hs=>?_,fun u v he hne=>?_,fun v hv=>?_,fun p h0 hp=>?_⟩
 ·by_cases c:val r q1<0∨val r (xB q1 Q)<0∨2≤Q.length
  ·exact fc (fun u v w s=>S.tri s) (S.len_left c)
  ·rw[(S.small c).1];exact(xkW.mp S.nd).2.1
 ·rcases S.mem_left hv with hv | ⟨h,rfl⟩ | ⟨h,rfl⟩
  ·exact S.botQ hv
  ·exact(S.X1 h).2.2.1
  ·exact(S.X2 h).2.2.1
 ·rcases S.mem_left hv with hv | ⟨h,rfl⟩ | ⟨h,rfl⟩
  ·exact S.good.prim v (mQ hv)
  ·exact(S.X1 h).2.2.2
  ·exact(S.X2 h).2.2.2
 ·rcases xkG.mp hs with hs | hs
  ·rcases S.mem_left hv with hv | ⟨h,rfl⟩ | ⟨h,rfl⟩
   ·exact keptOld s hs v (mQ hv)
   ·exact(S.X1 h).1.kept (keptOld s hs _ (mP (yz p1 P))) (keptOld s hs _ (mQ xkL))
   ·exact(S.X2 h).1.kept (keptOld s hs _ (mP xkL)) (keptOld s hs _ (mQ (yz q1 Q)))
  ·have:s=r:=by simpa using hs
   subst this
   rcases S.mem_left hv with hv | ⟨h,rfl⟩ | ⟨h,rfl⟩
   ·exact S.hQ v hv
   ·rw[(S.X1 h).2.1];exact xjE _
   ·rw[(S.X2 h).2.1];exact xjE _
 ·rcases S.pairs he with ⟨rfl,rfl⟩ | ⟨h,rfl,rfl⟩ | ⟨h,rfl,rfl⟩ | h
  ·obtain⟨_,_,_,_,_,e1⟩:=S.w1b
   obtain⟨_,_,_,_,_,e2⟩:=S.u1b
   exact⟨r,by simp,e2,e1⟩
  ·obtain⟨s,hs,a,b⟩:=S.good.edge _ _ S.old1 S.pk_ne
   exact⟨s,xkH _ hs,(S.X1 h).1.tight a b,b⟩
  ·obtain⟨s,hs,a,b⟩:=S.good.edge _ _ S.old2 S.p1_ne
   exact⟨s,xkH _ hs,a,(S.X2 h).1.tight b a⟩
  ·obtain⟨s,hs,a,b⟩:=S.good.edge _ _ (S.old3 h) hne
   exact⟨s,xkH _ hs,a,b⟩
 ·rcases S.mem_left hv with hv | ⟨h,rfl⟩ | ⟨h,rfl⟩
  ·obtain⟨s,hs,t,ht,a,b,c⟩:=S.good.two v (mQ hv)
   exact⟨s,xkH _ hs,t,xkH _ ht,a,b,c⟩
  ·obtain⟨s,hs,a,b⟩:=S.good.edge _ _ S.old1 S.pk_ne
   exact⟨s,xkH _ hs,r,by simp,(S.X1 h).1.tight a b,(S.X1 h).2.1,unlike (S.dir s hs) (S.botP (yz p1 P)) (S.botQ xkL) a b (xjQ S.pkgt h)⟩
  ·obtain⟨s,hs,a,b⟩:=S.good.edge _ _ S.old2 S.p1_ne
   exact⟨s,xkH _ hs,r,by simp,(S.X2 h).1.tight b a,(S.X2 h).2.1,unlike (S.dir s hs) (S.botP xkL) (S.botQ (yz q1 Q)) b a (xjQ S.p1gt h)⟩
 ·have hpL:∀s∈Ls,val s p≤0:=fun s hs=>hp s (xkH _ hs)
  have hpr:val r p≤0:=hp r (by simp)
  obtain⟨m,hm,cn⟩:=S.good.all p h0 hpL
  by_cases c:val r q1<0∨val r (xB q1 Q)<0∨2≤Q.length
  ·have he:∀u v,(u,v)∈cyc ((p1::P)++(q1::Q))→0≤det u v p:=fun u v h=>by
    have:=cn.det u v fun w hw=>S.good.ccw.edge h hw
    rw[qh] at this
    exact zI hm this
   refine Ccw.incone ⟨fun u v w s=>S.tri s,fc (fun u v w s=>S.tri s) (S.len_left c)⟩ (S.len_left c) fun u v hm'=>?_
   rcases S.pairs hm' with ⟨e1,e2⟩ | ⟨h,e1,e2⟩ | ⟨h,e1,e2⟩ | h
   ·rw[e1,e2]
    refine S.close ?_ hpr
    rcases c with c | c | c
    ·exact .inl c
    ·by_cases hq:Q=[]
     ·subst hq;exact .inl c
     ·exact .inr hq
    ·right;intro z;subst z;simp at c
   ·rw[e1,e2]
    have bt:=(S.X1 h).1
    have e:=bt.det q1 p
    have r1:det q1 p (xB p1 P)=det (xB p1 P) q1 p:=vg _ _ _
    rw[r1,kC,Int.mul_zero,Int.add_zero] at e
    have k:=pz (xjB bt.pa) (he _ _ S.old1)
    rw[wY]
    exact zI bt.pg (by omega)
   ·rw[e1,e2]
    have bt:=(S.X2 h).1
    have e:=bt.det p (xB q1 Q)
    have r1:det p (xB q1 Q) p1=det (xB q1 Q) p1 p:=wY _ _ _
    rw[r1,vW,Int.mul_zero,Int.add_zero] at e
    have k:=pz (xjB bt.pa) (he _ _ S.old2)
    rw[vg]
    exact zI bt.pg (by omega)
   ·exact he u v (S.old3 h)
  ·obtain⟨e,z⟩:=S.small c
   refine⟨m,hm,?_⟩
   have ge:∀v∈(p1::P)++(q1::Q),0≤val r v:=fun v hv=>by
    rcases xkG.mp hv with hv | hv
    ·have:=S.hP v hv;omega
    ·have:=z v hv;omega
   have:=cn.zeros r ge (by rw[val_mul];exact pn (xjB hm) hpr)
   rw[e]
   refine this.mono fun v hv=>?_
   obtain⟨hv,hv0⟩:=xkM.mp hv
   have hv0:val r v=0:=by simpa using hv0
   rcases xkG.mp hv with hv | hv
   ·have:=S.hP v hv;omega
   ·exact .mem hv
end xeg
end
end Pol
namespace Pol
def yt (r:R3)(left:List R3)(p:R3×R3):List R3 :=
 let l1:=if val r p.1*val r p.2<0 then(if xF r p.1 p.2∈left then left else left++[xF r p.1 p.2]) else left
 if val r p.2≤0 then l1++[p.2] else l1
def yQ (l:List R3)(r:R3):List R3:=(cyc l).foldl (yt r) []
theorem xc4 (h:(acc++seg r p).Nodup):yt r acc p=acc++seg r p:=by
 unfold yt seg at *
 by_cases c:val r p.1*val r p.2<0
 ·rw[if_pos c] at h ⊢
  have hn:xF r p.1 p.2∉acc:=fun z=>by
   have:=(xkW.mp h).2.2 _ z _ (xkH _ (xkU.mpr rfl))
   exact this rfl
  simp only[if_neg hn]
  split<;>simp
 ·rw[if_neg c] at h ⊢
  simp only
  split<;>simp
theorem oa:∀ {ps:List (R3×R3)} {acc:List R3},(acc++ps.flatMap (seg r)).Nodup→ps.foldl (yt r) acc=acc++ps.flatMap (seg r)
 | [],acc,_=>by simp
 | p::ps,acc,h=>by
  have h':(acc++(seg r p++ps.flatMap (seg r))).Nodup:=h
  rw[←xj4] at h'
  rw[xke,xc4 (xkW.mp h').1,oa h',xj4];rfl
theorem bI (h:(cJ r l).Nodup):yQ l r=cJ r l:=by
 unfold yQ
 rw[oa (by simpa [cJ] using h)];rfl
theorem qS (h:∀v∈l,val r v≤0):cJ r l=l:=by
 cases l with
 | nil=>rfl
 | cons x xs=>exact dY (h _ (yz x xs)) h
theorem qR (h:∀v∈l,0<val r v):cJ r l=[]:=by
 cases l with
 | nil=>rfl
 | cons x xs=>exact dA (h _ (yz x xs)) h
theorem jQ (g:Good Ls l)(h:∀v∈l,val r v≤0):Good (Ls++[r]) l where
 ccw:=g.ccw
 bot:=g.bot
 prim:=g.prim
 kept:=fun v hv s hs=>by
  rcases xkG.mp hs with hs | hs
  ·exact g.kept v hv s hs
  ·have:s=r:=by simpa using hs
   subst this
   exact h v hv
 edge:=fun u v he hn=>by
  obtain⟨s,hs,a⟩:=g.edge u v he hn
  exact⟨s,xkH _ hs,a⟩
 two:=fun v hv=>by
  obtain⟨s,hs,t,ht,a⟩:=g.two v hv
  exact⟨s,xkH _ hs,t,xkH _ ht,a⟩
 all:=fun p h0 hp=>g.all p h0 fun s hs=>hp s (xkH _ hs)
theorem vH (g:Good Ls l)(h:∀v∈l,0≤val r v)(hs:List.Sublist l' l)(hl:l'.length≤1)(h0:∀v∈l',val r v=0)(h1:∀v∈l,val r v=0→v∈l'):Good (Ls++[r]) l' where
 ccw:=⟨fun u v w s=>by
  have:=s.length_le
  simp at this
  omega,g.ccw.nd.sublist hs⟩
 bot:=fun v hv=>g.bot v (hs.subset hv)
 prim:=fun v hv=>g.prim v (hs.subset hv)
 kept:=fun v hv s hs'=>by
  rcases xkG.mp hs' with h' | h'
  ·exact g.kept v (hs.subset hv) s h'
  ·have:s=r:=by simpa using h'
   subst this
   rw[h0 v hv];exact xjE _
 edge:=fun u v he hn=>by
  exfalso
  match l',hl,he with
  | [x],_,he =>
   have:(u,v)=(x,x):=by simpa [cyc,chain,xB] using he
   injection this with a b
   exact hn (by rw[a,b])
  | [],_,he=>simp[cyc] at he
  | _::_::_,hl,_=>simp at hl
 two:=fun v hv=>by
  obtain⟨s,hs',t,ht,a⟩:=g.two v (hs.subset hv)
  exact⟨s,xkH _ hs',t,xkH _ ht,a⟩
 all:=fun p hz hp=>by
  obtain⟨m,hm,c⟩:=g.all p hz fun s hs=>hp s (xkH _ hs)
  refine⟨m,hm,(c.zeros r h ?_).mono fun v hv=>?_⟩
  ·rw[val_mul];exact pn (xjB hm) (hp r (by simp))
  ·obtain⟨a,b⟩:=xkM.mp hv
   exact .mem (h1 v a (by simpa using b))
theorem g_ (g:Good Ls [u,v])(dir:∀s∈Ls,s.1≠0∨s.2.1≠0)(hu:0<val r u)(hv:val r v<0)(hx:x=xF r u v):Good (Ls++[r]) [x,v]:=by
 subst hx
 have bu:=g.bot u (by simp)
 have bv:=g.bot v (by simp)
 obtain⟨bt,x0,xb,xp⟩:=kF (r:=r) bu bv (xjQ hu hv)
 have ne:u≠v:=fun e=>by rw[e] at hu;omega
 obtain⟨s,hs,su,sv⟩:=g.edge u v (by simp[cyc,chain,xB]) ne
 have nx:xF r u v≠v:=fun e=>by rw[e] at x0;omega
 have sx:=bt.tight su sv
 refine⟨⟨fun a b c h=>by have:=h.length_le;simp at this,by simp[nx]⟩,fun w hw=>?_,fun w hw=>?_,fun w hw t ht=>?_,fun a b he hn=>?_,fun w hw=>?_,fun p hz hp=>?_⟩
 ·simp only[xkJ,xkY,xly] at hw
  rcases hw with rfl | rfl
  ·exact xb
  ·exact bv
 ·simp only[xkJ,xkY,xly] at hw
  rcases hw with rfl | rfl
  ·exact xp
  ·exact g.prim w (by simp)
 ·simp only[xkJ,xkY,xly] at hw
  rcases xkG.mp ht with ht | ht
  ·rcases hw with rfl | rfl
   ·exact bt.kept (g.kept u (by simp) t ht) (g.kept v (by simp) t ht)
   ·exact g.kept w (by simp) t ht
  ·have:t=r:=by simpa using ht
   subst this
   rcases hw with rfl | rfl
   ·rw[x0];exact xjE _
   ·exact xjB hv
 ·have he:(a,b)=(v,xF r u v)∨(a,b)=(xF r u v,v):=by simpa [cyc,chain,xB] using he
  rcases he with e | e<;>injection e with e1 e2<;>subst e1 e2
  ·exact⟨s,xkH _ hs,sv,sx⟩
  ·exact⟨s,xkH _ hs,sx,sv⟩
 ·simp only[xkJ,xkY,xly] at hw
  rcases hw with rfl | rfl
  ·exact⟨s,xkH _ hs,r,by simp,sx,x0,unlike (dir s hs) bu bv su sv (xjQ hu hv)⟩
  ·obtain⟨s,hs',t,ht,a⟩:=g.two w (by simp)
   exact⟨s,xkH _ hs',t,xkH _ ht,a⟩
 ·obtain⟨m,hm,c⟩:=g.all p hz fun s hs=>hp s (xkH _ hs)
  obtain⟨a,b,a0,b0,e⟩:=c.pair
  have hr:val r (mul m p)≤0:=by rw[val_mul];exact pn (xjB hm) (hp r (by simp))
  rw[e,val_add,val_mul,val_mul] at hr
  have av:abs (val r v) = - val r v:=by unfold abs;rw[if_pos hv]
  have au:abs (val r u)=val r u:=by unfold abs;rw[if_neg (by omega)]
  refine⟨(- val r v)*m,pp (by omega) hm,?_⟩
  have e2:mul ((- val r v)*m) p=add (mul (a*(uO (cw r u v):Int)) (xF r u v)) (mul (b*(- val r v)-a*val r u) v):=by
   have e3:mul ((- val r v)*m) p=mul (- val r v) (mul m p):=by apply ext3<;>simp only[mul]<;>grind
   have e4:mul (a*(uO (cw r u v):Int)) (xF r u v)=mul a (mul (uO (cw r u v)) (xF r u v)):=by apply ext3<;>simp only[mul]<;>grind
   rw[e3,e,e4,bt.e,av,au]
   apply ext3<;>simp only[mul,add]<;>grind
  rw[e2]
  have k:0≤b*(- val r v)-a*val r u:=by
   have:b*(- val r v)-a*val r u = - (a*val r u+b*val r v):=by grind
   omega
  exact((Cn.mem (by simp)).smul (pz a0 (xjB bt.pg))).add ((Cn.mem (by simp)).smul k)
theorem Good.sw (g:Good Ls [u,v]):Good Ls [v,u]:=Good.rot (a:=[u]) (b:=[v]) g
theorem lx (g:Good Ls l)(dir:∀s∈Ls,s.1≠0∨s.2.1≠0):Good (Ls++[r]) (yQ l r):=by
 match l,g with
 | [],g =>
  show Good (Ls++[r]) []
  exact jQ g fun v hv=>by simp at hv
 | [v],g =>
  by_cases h:val r v≤0
  ·have hk:∀w∈[v],val r w≤0:=fun w hw=>by rw[xkU.mp hw];exact h
   rw[bI (by rw[qS hk];simp),qS hk]
   exact jQ g hk
  ·have hk:∀w∈[v],0<val r w:=fun w hw=>by rw[xkU.mp hw];omega
   rw[bI (by rw[qR hk];simp),qR hk]
   exact vH g (fun w hw=>xjB (hk w hw)) (List.nil_sublist _) (by simp) (fun w hw=>by simp at hw) fun w hw h0=>by have:=hk w hw;omega
 | [u,v],g =>
  have ne:u≠v:=by
   have:=g.ccw.nd
   simp at this
   exact this
  have cy:cyc [u,v]=[(v,u),(u,v)]:=rfl
  unfold yQ
  rw[cy]
  simp only[xke,List.foldl_nil]
  by_cases c:val r u*val r v<0
  ·have c':val r v*val r u<0:=by rw[xjI];exact c
   have ex:xF r v u=xF r u v:=by unfold xF;rw[xaV]
   have hu0:val r u≠0:=fun z=>by rw[z] at c;simp at c
   have hv0:val r v≠0:=fun z=>by rw[z] at c;simp at c
   by_cases hu:val r u≤0
   ·have hv:0<val r v:=by
     rcases xjG 0 (val r v) with z | z
     ·exact z
     ·have:=nn hu z;omega
    have e1:yt r [] (v,u)=[xF r v u,u]:=by
     unfold yt
     simp only[if_pos c',if_pos hu]
     simp
    have e2:yt r [xF r v u,u] (u,v)=[xF r v u,u]:=by
     unfold yt
     simp only[if_pos c,if_neg (show ¬val r v≤0 by omega)]
     rw[if_pos (by rw[←ex];simp)]
    rw[e1,e2]
    exact g_ g.sw dir hv (by omega) rfl
   ·have hv:val r v<0:=by
     rcases xjG (val r v) 0 with z | z
     ·exact z
     ·have:=pz (by omega:0≤val r u) z;omega
    have e1:yt r [] (v,u)=[xF r v u]:=by
     unfold yt
     simp only[if_pos c',if_neg hu]
     simp
    have e2:yt r [xF r v u] (u,v)=[xF r v u,v]:=by
     unfold yt
     simp only[if_pos c,if_pos (show val r v≤0 by omega)]
     rw[if_pos (by rw[←ex];simp)];rfl
    rw[e1,e2]
    exact g_ g dir (by omega) hv ex
  ·have c':¬val r v*val r u<0:=by rw[xjI];exact c
   have e1:yt r [] (v,u)=if val r u≤0 then[u] else[]:=by
    unfold yt
    simp only[if_neg c']
    split<;>simp
   have e2:∀l,yt r l (u,v)=if val r v≤0 then l++[v] else l:=fun l=>by
    unfold yt
    simp only[if_neg c]
   rw[e1,e2]
   by_cases hu:val r u≤0
   ·rw[if_pos hu]
    by_cases hv:val r v≤0
    ·rw[if_pos hv]
     show Good (Ls++[r]) [u,v]
     exact jQ g fun w hw=>by
      simp only[xkJ,xkY,xly] at hw
      rcases hw with rfl | rfl<;>assumption
    ·rw[if_neg hv]
     have hu0:val r u=0:=by
      rcases xjG (val r u) 0 with z | z
      ·have:=xjP z (show 0<val r v by omega);omega
      ·omega
     exact vH g (fun w hw=>by
      simp only[xkJ,xkY,xly] at hw
      rcases hw with rfl | rfl<;>omega) (by simp) (by simp) (fun w hw=>by rw[xkU.mp hw];exact hu0) fun w hw h0=>by
       simp only[xkJ,xkY,xly] at hw
       rcases hw with rfl | rfl
       ·simp
       ·omega
   ·rw[if_neg hu]
    by_cases hv:val r v≤0
    ·rw[if_pos hv]
     have hv0:val r v=0:=by
      rcases xjG (val r v) 0 with z | z
      ·have:=xjQ (show 0<val r u by omega) z;omega
      ·omega
     exact vH g (fun w hw=>by
      simp only[xkJ,xkY,xly] at hw
      rcases hw with rfl | rfl<;>omega) (by simp) (by simp) (fun w hw=>by
       have:w=v:=by simpa using hw
       rw[this];exact hv0) fun w hw h0=>by
       simp only[xkJ,xkY,xly] at hw
       rcases hw with rfl | rfl
       ·omega
       ·simp
    ·rw[if_neg hv]
     exact vH g (fun w hw=>by
      simp only[xkJ,xkY,xly] at hw
      rcases hw with rfl | rfl<;>omega) (by simp) (by simp) (fun w hw=>by simp at hw) fun w hw h0=>by
       simp only[xkJ,xkY,xly] at hw
       rcases hw with rfl | rfl<;>omega
 | x::y::z::t,g =>
  obtain⟨a,b,P,Q,e1,e2,hP,hQ⟩:=g.ccw.parts r
  have e0:x::y::z::t=a++b:=e1
  rw[e0] at g ⊢
  have gr:Good Ls (b++a):=g.rot
  have mem:∀v,v∈a++b→v∈P++Q:=fun v hv=>by rw[←e2];simpa [or_comm] using hv
  have hlen:(P++Q).length=t.length+3:=by
   rw[←e2,xkq,Nat.add_comm,←xkq,←e0];simp
  cases P with
  | nil =>
   have hk:∀v∈a++b,val r v≤0:=fun v hv=>hQ v (by simpa using mem v hv)
   rw[bI (by rw[qS hk];exact g.ccw.nd),qS hk]
   exact jQ g hk
  | cons p1 P =>
   cases Q with
   | nil =>
    have hk:∀v∈a++b,0<val r v:=fun v hv=>hP v (by simpa using mem v hv)
    rw[bI (by rw[qR hk];simp),qR hk]
    exact vH g (fun w hw=>xjB (hk w hw)) (List.nil_sublist _) (by simp) (fun w hw=>by simp at hw) fun w hw h0=>by have:=hk w hw;omega
   | cons q1 Q =>
    have S:xeg Ls r p1 q1 P Q:=⟨by rw[←e2];exact gr,hP,hQ,by
     rcases Classical.em (P=[]) with h | h
     ·right
      intro h'
      subst h h'
      simp at hlen
     ·exact .inl h,dir⟩
    have gl:=S.good_left
    unfold xeg.left at gl
    have g2:=Good.rot (a:=bef r (xB p1 P) q1++q1::Q) (b:=bef r p1 (xB q1 Q)) gl
    rw[←rf hP hQ,←e2] at g2
    obtain⟨c,d,f1,f2⟩:=oZ r a b
    rw[f2] at g2
    have g3:=g2.rot
    rw[←f1] at g3
    rw[bI g3.ccw.nd]
    exact g3
end Pol
namespace Pol
def FAR:Int:=60001
def box:List R3:=[(-FAR,-FAR,1),(FAR,-FAR,1),(FAR,FAR,1),(-FAR,FAR,1)]
def xbS:List R3:=[(-1,0,FAR),(1,0,FAR),(0,-1,FAR),(0,1,FAR)]
theorem xjg {a b c d u v w:R3}(s:List.Sublist [u,v,w] [a,b,c,d]):(u=a∧v=b∧w=c)∨(u=a∧v=b∧w=d)∨(u=a∧v=c∧w=d)∨(u=b∧v=c∧w=d):=by
 have full:∀ {x y z u v w:R3},List.Sublist [u,v,w] [x,y,z]→u=x∧v=y∧w=z:=fun {x y z u v w} s=>by
  have:=s.eq_of_length (by simp)
  injection this with h1 h2
  injection h2 with h2 h3
  injection h3 with h3 _
  exact⟨h1,h2,h3⟩
 cases s with
 | cons _ s=>exact .inr (.inr (.inr (full s)))
 | cons_cons _ s =>
  have two:∀ {x y z v w:R3},List.Sublist [v,w] [x,y,z]→(v=x∧w=y)∨(v=x∧w=z)∨(v=y∧w=z):=fun {x y z v w} s=>by
   cases s with
   | cons _ s =>
    have:=s.eq_of_length (by simp)
    injection this with h1 h2
    injection h2 with h2 _
    exact .inr (.inr ⟨h1,h2⟩)
   | cons_cons _ s =>
    have:w∈[y,z]:=xk1.mp s
    simp only[xkJ,xkY,xly] at this
    rcases this with rfl | rfl
    ·exact .inl ⟨rfl,rfl⟩
    ·exact .inr (.inl ⟨rfl,rfl⟩)
  rcases two s with ⟨h1,h2⟩ | ⟨h1,h2⟩ | ⟨h1,h2⟩
  ·exact .inl ⟨rfl,h1,h2⟩
  ·exact .inr (.inl ⟨rfl,h1,h2⟩)
  ·exact .inr (.inr (.inl ⟨rfl,h1,h2⟩))
theorem xbd:Ccw box:=by
 refine⟨fun u v w s=>?_,by decide⟩
 rcases xjg s with ⟨rfl,rfl,rfl⟩ | ⟨rfl,rfl,rfl⟩ | ⟨rfl,rfl,rfl⟩ | ⟨rfl,rfl,rfl⟩<;>decide
theorem lj:Good xbS box:=by
 refine⟨xbd,by decide,by decide,by decide,fun u v h _=>?_,by decide,fun p hz hp=>?_⟩
 ·have h:(u,v)∈[((-FAR,FAR,1),(-FAR,-FAR,1)),((-FAR,-FAR,1),(FAR,-FAR,1)),((FAR,-FAR,1),(FAR,FAR,1)),((FAR,FAR,1),(-FAR,FAR,1))]:=h
  simp only[xkJ,xkY,xly] at h
  rcases h with h | h | h | h<;>injection h with h1 h2<;>subst h1 h2
  ·exact⟨(-1,0,FAR),by decide,by decide,by decide⟩
  ·exact⟨(0,-1,FAR),by decide,by decide,by decide⟩
  ·exact⟨(1,0,FAR),by decide,by decide,by decide⟩
  ·exact⟨(0,1,FAR),by decide,by decide,by decide⟩
 ·have h1:=hp (-1,0,FAR) (by decide)
  have h2:=hp (1,0,FAR) (by decide)
  have h3:=hp (0,-1,FAR) (by decide)
  have h4:=hp (0,1,FAR) (by decide)
  simp only[val,FAR] at h1 h2 h3 h4
  refine xbd.incone (by decide) fun u v h=>?_
  have h:(u,v)∈[((-FAR,FAR,1),(-FAR,-FAR,1)),((-FAR,-FAR,1),(FAR,-FAR,1)),((FAR,-FAR,1),(FAR,FAR,1)),((FAR,FAR,1),(-FAR,FAR,1))]:=h
  simp only[xkJ,xkY,xly] at h
  rcases h with h | h | h | h<;>injection h with h5 h6<;>subst h5 h6<;>simp only[det,FAR]<;>omega
def pieces (rows:List R3):List R3:=rows.foldl yQ box
theorem ni:∀(rows Ls l:List R3),Good Ls l→(∀s∈Ls,s.1≠0∨s.2.1≠0)→(∀s∈rows,s.1≠0∨s.2.1≠0)→Good (Ls++rows) (rows.foldl yQ l)
 | [],Ls,l,g,_,_=>by simpa using g
 | r::rows,Ls,l,g,d1,d2=>by
  rw[xke]
  have:=ni rows (Ls++[r]) (yQ l r) (lx g d1) (fun s hs=>by
   rcases xkG.mp hs with h | h
   ·exact d1 s h
   ·rw[xkU.mp h];exact d2 r xkL) (fun s hs=>d2 s (xkK _ hs))
  rwa [xj4] at this
theorem ua (d:∀s∈rows,s.1≠0∨s.2.1≠0):Good (xbS++rows) (pieces rows):=ni rows xbS box lj (by decide) d
def GR (rows:List R3):Prop:=∀u v:Int,(u≠0∨v≠0)→∃r∈rows,0<r.1*u+r.2.1*v
def bZ (r:R3):Prop:=((-30≤r.1∧r.1≤30)∧(-30≤r.2.1∧r.2.1≤30))∧(-1000≤r.2.2∧r.2.2≤1000)
structure IsC (rows:List R3)(p:R3):Prop where
 kept:∀r∈rows,val r p≤0
 two:∃s∈rows,∃t∈rows,val s p=0∧val t p=0∧turn s t≠0
def tN (p q:R3):Prop:=p.1*q.2.2=q.1*p.2.2∧p.2.1*q.2.2=q.2.1*p.2.2
theorem xgb (hn:turn s t≠0)(p1:val s p=0)(p2:val t p=0)(q1:val s q=0)(q2:val t q=0):tN p q:=by
 have e1:turn s t*(p.1*q.2.2-q.1*p.2.2)=(t.2.1*val s p-s.2.1*val t p)*q.2.2-(t.2.1*val s q-s.2.1*val t q)*p.2.2:=by simp only[turn,val];grind
 have e2:turn s t*(p.2.1*q.2.2-q.2.1*p.2.2)=(s.1*val t p-t.1*val s p)*q.2.2-(s.1*val t q-t.1*val s q)*p.2.2:=by simp only[turn,val];grind
 rw[p1,p2,q1,q2] at e1 e2
 have e1:turn s t*(p.1*q.2.2-q.1*p.2.2)=0:=by rw[e1];grind
 have e2:turn s t*(p.2.1*q.2.2-q.2.1*p.2.2)=0:=by rw[e2];grind
 have:=(xjL.mp e1).resolve_left hn
 have:=(xjL.mp e2).resolve_left hn
 exact⟨by omega,by omega⟩
section
variable {rows more:List R3}
structure xfl (rows more:List R3):Prop where
 box:∀ {p:R3},0<p.2.2→(∀r∈more,val r p≤0)→∀s∈xbS,val s p<0
 fr:∀r∈rows,bZ r
 sub:∀r∈rows,r∈more
 dir:∀r∈more,r.1≠0∨r.2.1≠0
theorem xfl.corner (F:xfl rows more)(hv:v∈pieces more):0<v.2.2∧uO v=1∧IsC more v:=by
 have g:=ua F.dir
 have hz:=g.bot v hv
 have hk:∀r∈more,val r v≤0:=fun r hr=>g.kept v hv r (xkI _ hr)
 have nb:=F.box hz hk
 obtain⟨s,hs,t,ht,a,b,c⟩:=g.two v hv
 have in':∀x∈xbS++more,val x v=0→x∈more:=fun x hx h0=>by
  rcases xkG.mp hx with h | h
  ·have:=nb x h;omega
  ·exact h
 exact⟨hz,g.prim v hv,hk,s,in' s hs a,t,in' t ht b,a,b,c⟩
theorem xfl.incone (F:xfl rows more)(hz:0<p.2.2)(hp:∀r∈more,val r p≤0):InC (pieces more) p:=by
 have g:=ua F.dir
 refine g.all p hz fun s hs=>?_
 rcases xkG.mp hs with h | h
 ·exact xjB (F.box hz hp s h)
 ·exact hp s h
theorem val_neg (r p:R3):val (- r.1,- r.2.1,- r.2.2) p = - val r p:=by simp only[val];grind
theorem xfl.found (F:xfl rows more)(hz:0<p.2.2)(hp:IsC more p):∃v∈pieces more,tN v p:=by
 obtain⟨m,hm,c⟩:=F.incone hz hp.kept
 obtain⟨s,hs,t,ht,a,b,hn⟩:=hp.two
 have g:=ua F.dir
 have kept:∀v∈pieces more,∀r∈more,val r v≤0:=fun v hv r hr=>g.kept v hv r (xkI _ hr)
 have c1:=c.zeros (- s.1,- s.2.1,- s.2.2) (fun v hv=>by rw[val_neg];have:=kept v hv s hs;omega) (by rw[val_neg,val_mul,a];simp)
 have c2:=c1.zeros (- t.1,- t.2.1,- t.2.2) (fun v hv=>by rw[val_neg];have:=kept v (xkM.mp hv).1 t ht;omega) (by rw[val_neg,val_mul,b];simp)
 cases e:((pieces more).filter fun v=>val (- s.1,- s.2.1,- s.2.2) v=0).filter (fun v=>val (- t.1,- t.2.1,- t.2.2) v=0) with
 | nil =>
  rw[e] at c2
  exfalso
  rcases c2.bot (fun v hv=>by simp at hv) with h | h
  ·have:m*p.2.2=0:=xlq (·.2.2) h
   have:=pp hm hz
   omega
  ·have:∀q:R3,Cn [] q→q=(0,0,0):=fun q hq=>by
    induction hq with
    | zero=>rfl
    | mem h=>simp at h
    | add _ _ h1 h2=>rw[h1,h2];rfl
   rw[this _ c2] at h
   simp at h
 | cons v r =>
  have hv:v∈((pieces more).filter fun v=>val (- s.1,- s.2.1,- s.2.2) v=0).filter (fun v=>val (- t.1,- t.2.1,- t.2.2) v=0):=by rw[e];exact xkL
  obtain⟨h1,h2⟩:=xkM.mp hv
  obtain⟨h3,h4⟩:=xkM.mp h1
  have h2:val (- t.1,- t.2.1,- t.2.2) v=0:=by simpa using h2
  have h4:val (- s.1,- s.2.1,- s.2.2) v=0:=by simpa using h4
  rw[val_neg] at h2 h4
  exact⟨v,h3,xgb hn (by omega) (by omega) a b⟩
end
end Pol
namespace Pol
def dot (r s:R3):Int:=r.1*s.1+r.2.1*s.2.1
def xcd (sg:Int)(last:Option R3)(x:R3):Bool:=match last with | none=>true | some l=>decide (0<sg*turn l x)
def wU (r:R3)(sg:Int)(last:Option R3)(x:R3):Option R3 :=
 if 0<sg*turn r x∧xcd sg last x=true then some x else last
def far (r:R3)(sg:Int)(rs:List R3):Option R3:=rs.foldl (wU r sg) none
def back (r:R3)(rs:List R3):Bool:=rs.any fun x=>decide (turn r x=0)&&decide (dot r x<0)
def vo:List R3→Bool
 | []=>false
 | r::rs=>match far r 1 (r::rs),far r (-1) (r::rs) with
  | some l,some k=>decide (0<turn l k) || back r (r::rs)
  | _,_=>false
theorem xg0 {a b:Int}(h:0<a)(k:a*b≤0):b≤0:=by
 rcases xjG 0 b with z | z
 ·have:=pp h z;omega
 ·exact z
theorem plk (r l k z:R3):turn r l*turn k z-turn r k*turn l z+turn r z*turn l k=0:=by
 obtain⟨a,b,_⟩:=r;obtain⟨c,d,_⟩:=l;obtain⟨e,f,_⟩:=k;obtain⟨g,h,_⟩:=z
 simp only[turn];grind
theorem xi6 (r l:R3):turn l r = - turn r l:=by
 obtain⟨a,b,_⟩:=r;obtain⟨c,d,_⟩:=l
 simp only[turn];grind
theorem proj (r x z:R3):dot r r*turn x z=dot r x*turn r z-turn r x*dot r z:=by
 obtain⟨a,b,_⟩:=r;obtain⟨c,d,_⟩:=x;obtain⟨g,h,_⟩:=z
 simp only[turn,dot];grind
theorem sq {a:Int}(h:a≠0):0<a*a:=by
 rcases xjG 0 a with z | z
 ·exact pp z z
 ·have:0<(-a)*(-a):=pp (by omega) (by omega)
  rwa [Int.neg_mul_neg] at this
theorem sq0 (a:Int):0≤a*a:=by
 rcases xjG 0 a with z | z
 ·exact pz (by omega) (by omega)
 ·exact nn z z
theorem xgt {r:R3}(h:r.1≠0∨r.2.1≠0):0<dot r r:=by
 unfold dot
 have h1:=sq0 r.1
 have h2:=sq0 r.2.1
 rcases h with h | h
 ·have:=sq h;omega
 ·have:=sq h;omega
structure lH (r:R3)(s:Int)(rs:List R3)(l:R3):Prop where
 mem:l∈rs
 left:0<s*turn r l
 all:∀x∈rs,0<s*turn r x→s*turn l x≤0
theorem xi8 (s:Int)(r l k z:R3):(s*turn r l)*(s*turn k z)=(s*turn r k)*(s*turn l z)-(s*turn r z)*(s*turn l k):=by
 have:=plk r l k z
 grind
def xiW (r:R3)(s:Int)(done:List R3):Option R3→Prop
 | none=>∀x∈done,s*turn r x≤0
 | some l=>lH r s done l
theorem xbb {r:R3}{s:Int}:∀(rs done:List R3) (o:Option R3),xiW r s done o→xiW r s (done++rs) (rs.foldl (wU r s) o)
 | [],done,o,h=>by simpa using h
 | y::rs,done,o,h=>by
  rw[xke]
  have ih:=xbb (r:=r) (s:=s) rs (done++[y]) (wU r s o y) (by
   unfold wU
   by_cases c:0<s*turn r y∧xcd s o y=true
   ·rw[if_pos c]
    obtain⟨c1,c2⟩:=c
    refine⟨by simp,c1,fun x hx hp=>?_⟩
    rcases xkG.mp hx with hx | hx
    ·cases o with
     | none=>exact absurd (show s*turn r x≤0 from h x hx) (by omega)
     | some l =>
      have h:lH r s done l:=h
      have c2:0<s*turn l y:=xlx c2
      have hl:s*turn l x≤0:=h.all x hx hp
      have e:=xi8 s r l y x
      have p1:=pn (xjB c1) hl
      have p2:=pp hp c2
      exact xg0 h.left (by rw[e];omega)
    ·have:x=y:=by simpa using hx
     subst this
     have:turn x x=0:=by unfold turn;grind
     rw[this];simp
   ·rw[if_neg c]
    cases o with
    | none =>
     intro x hx
     rcases xkG.mp hx with hx | hx
     ·exact h x hx
     ·have:x=y:=by simpa using hx
      subst this
      have c':¬0<s*turn r x:=fun z=>c ⟨z,rfl⟩
      omega
    | some l =>
     have h:lH r s done l:=h
     refine⟨xkH _ h.mem,h.left,fun x hx hp=>?_⟩
     rcases xkG.mp hx with hx | hx
     ·exact h.all x hx hp
     ·have:x=y:=by simpa using hx
      subst this
      have c':¬0<s*turn l x:=fun z=>c ⟨hp,xlt z⟩
      omega)
  rwa [xj4] at ih
theorem oV (h:far r s rs=none):∀x∈rs,s*turn r x≤0:=by
 have:=xbb (r:=r) (s:=s) rs [] none (fun x hx=>by simp at hx)
 unfold far at h
 rw[h] at this
 intro x hx
 exact this x (by simpa using hx)
theorem fU (h:far r s rs=some l):lH r s rs l:=by
 have:=xbb (r:=r) (s:=s) rs [] none (fun x hx=>by simp at hx)
 unfold far at h
 rw[h,xkV] at this
 exact this
theorem xcW (r0:∀x∈rs,x.1≠0∨x.2.1≠0)(hr:r∈rs)(hl:lH r 1 rs l)(hk:lH r (-1) rs k)(h:¬0<turn l k)(hb:back r rs=false):∀x∈rs,turn l x≤0:=by
 intro x hx
 have l1:0<turn r l:=by have:=hl.left;omega
 have k1:turn r k<0:=by have:=hk.left;omega
 rcases xjH (turn r x) 0 with c | c | c
 ·have kx:0≤turn k x:=by have:=hk.all x hx (by omega);omega
  have e:=plk r l k x
  have p1:=pz (xjB l1) kx
  have p2:=nn (xjB c) (by omega:turn l k≤0)
  have p3:0≤turn r k*turn l x:=by omega
  rcases xjG 0 (turn l x) with z | z
  ·have p4:turn r k*turn l x<0:=xjP k1 z
   omega
  ·exact z
 ·have q:=proj r x l
  rw[c] at q
  simp only[Int.zero_mul,Int.sub_zero] at q
  have d0:0≤dot r x:=by
   rcases xjG (dot r x) 0 with z | z
   ·exfalso
    have:back r rs=true:=by
     unfold back
     rw[xj3]
     exact⟨x,hx,by rw[xlt c,xlt z];rfl⟩
    rw[this] at hb;cases hb
   ·exact z
  have q1:=pz d0 (xjB l1)
  have q2:=xgt (r0 r hr)
  have a:=xi6 x l
  rw[a]
  have:0≤turn x l:=by
   rcases xjG (turn x l) 0 with z | z
   ·have:=xjQ q2 z
    omega
   ·exact z
  omega
 ·have:=hl.all x hx (by omega)
  omega
def RA (rs:List R3):Prop:=∀z∈rs,∀s:Int,(s=1∨s = -1)→∃x∈rs,0<s*turn z x
theorem xhR (r0:∀x∈rs,x.1≠0∨x.2.1≠0)(h:GR rs):RA rs:=fun z hz s hs=>by
 have key:∀x:R3,x.1*(s * -z.2.1)+x.2.1*(s*z.1)=s*turn z x:=fun x=>by unfold turn;grind
 obtain⟨x,hx,p⟩:=h (s * -z.2.1) (s*z.1) (by have:=r0 z hz;rcases hs with e | e<;>subst e<;>omega)
 exact⟨x,hx,by rw[key x] at p;exact p⟩
theorem xdx (r0:∀x∈rs,x.1≠0∨x.2.1≠0)(ne:rs≠[])(h:RA rs):vo rs=true:=by
 have no:∀z:R3,z∈rs→∀s:Int,(s=1∨s = -1)→(∀x∈rs,s*turn z x≤0)→False:=fun z hz s hs hx=>by
  obtain⟨x,hxm,p⟩:=h z hz s hs
  have:=hx x hxm
  omega
 cases rs with
 | nil=>exact absurd rfl ne
 | cons r t =>
  have hr:r∈r::t:=xkL
  have e:vo (r::t)=match far r 1 (r::t),far r (-1) (r::t) with
   | some l,some k=>decide (0<turn l k) || back r (r::t)
   | _,_=>false:=rfl
  rw[e]
  cases e1:far r 1 (r::t) with
  | none=>exact(no r hr 1 (.inl rfl) (oV e1)).elim
  | some l =>
   cases e2:far r (-1) (r::t) with
   | none=>exact(no r hr (-1) (.inr rfl) (oV e2)).elim
   | some k =>
    show(decide (0<turn l k) || back r (r::t))=true
    have hl:=fU e1
    have hk:=fU e2
    rcases Classical.em ((decide (0<turn l k) || back r (r::t))=true) with q | q
    ·exact q
    ·exfalso
     simp only[Bool.or_eq_true,xlu,not_or,Bool.not_eq_true] at q
     exact no l hl.mem 1 (.inl rfl) (fun x hx=>by have:=xcW r0 hr hl hk q.1 q.2 x hx;omega)
theorem xhM (h:GR rs):rs≠[]:=fun e=>by
 obtain⟨r,hr,_⟩:=h 1 0 (.inl (by decide))
 rw[e] at hr;simp at hr
end Pol
namespace Pol
theorem o_ (r:R3)(acc:List R3)(p:R3×R3):(yt r acc p).length≤acc.length+(seg r p).length:=by
 unfold yt seg
 by_cases c:val r p.1*val r p.2<0
 ·by_cases m:xF r p.1 p.2∈acc
  ·simp only[if_pos c,if_pos m]
   split<;>simp<;>omega
  ·simp only[if_pos c,if_neg m]
   split<;>simp<;>omega
 ·simp only[if_neg c]
  split<;>simp
theorem lb (r:R3):∀(ps:List (R3×R3)) (acc:List R3),(ps.foldl (yt r) acc).length≤acc.length+(ps.flatMap (seg r)).length
 | [],acc=>by simp
 | p::ps,acc=>by
  rw[xke,List.flatMap_cons,xkq]
  have:=lb r ps (yt r acc p)
  have:=o_ r acc p
  omega
theorem xbL (r p q:R3):(bef r p q).length≤1:=by unfold bef;split<;>simp
theorem xcG (h:Ccw l)(r:R3):(cJ r l).length≤l.length+2:=by
 obtain⟨a,b,P,Q,e1,e2,hP,hQ⟩:=h.parts r
 obtain⟨c,d,f1,f2⟩:=oZ r a b
 have el:(cJ r l).length=(cJ r (P++Q)).length:=by
  rw[e1,f1,←e2,f2,xkq,xkq];omega
 have ll:l.length=(P++Q).length:=by rw[e1,←e2,xkq,xkq];omega
 rw[el,ll]
 cases P with
 | nil =>
  rw[xkV,qS hQ];omega
 | cons p P =>
  cases Q with
  | nil=>rw[xj5,qR hP];simp
  | cons q Q =>
   rw[rf hP hQ]
   simp only[xkq,xkr]
   have:=xbL r p (xB q Q)
   have:=xbL r (xB p P) q
   omega
theorem xe_ (h:Ccw l)(r:R3):(yQ l r).length≤l.length+2:=by
 have:=lb r (cyc l) []
 have:=xcG h r
 unfold yQ cJ at *
 simp at *
 omega
theorem gX:∀(rows Ls l:List R3),Good Ls l→(∀s∈Ls,s.1≠0∨s.2.1≠0)→(∀s∈rows,s.1≠0∨s.2.1≠0)→(rows.foldl yQ l).length≤l.length+2*rows.length
 | [],Ls,l,_,_,_=>by simp
 | r::rows,Ls,l,g,d,d'=>by
  rw[xke]
  have h1:=xe_ g.ccw r
  have dr:=d' r xkL
  have h2:=gX rows (Ls++[r]) (yQ l r) (lx g d) (fun s hs=>by
   rcases xkG.mp hs with h | h
   ·exact d s h
   ·rw[xkU.mp h];exact dr) (fun s hs=>d' s (xkK _ hs))
  rw[xkr];omega
theorem aB (d:∀s∈rows,s.1≠0∨s.2.1≠0):(pieces rows).length≤4+2*rows.length:=gX rows xbS box lj (by decide) d
theorem m5 (p:R3):∀l:List R3,(chain p l).length=l.length
 | []=>rfl
 | x::l=>by show(chain x l).length+1=_;rw[m5 x l];rfl
theorem xfp:∀l:List R3,(cyc l).length=l.length
 | []=>rfl
 | x::l=>m5 _ _
theorem lh (p:R3):∀(l:List R3) (i:Nat) (v:R3),l[i]? = some v→∃u,(p::l)[i]? = some u∧(chain p l)[i]? = some (u,v)
 | [],i,v,h=>by simp at h
 | x::l,0,v,h=>by simp at h;subst h;exact⟨p,rfl,rfl⟩
 | x::l,i+1,v,h=>by
  have h':l[i]? = some v:=by simpa using h
  obtain⟨u,e1,e2⟩:=lh x l i v h'
  exact⟨u,by simpa using e1,by show(chain x l)[i]? = _;exact e2⟩
theorem xgU (h:l[i]? = some v):∃u,u∈l∧(cyc l)[i]? = some (u,v)∧((i=0∧∃ys,l=ys++[u])∨(0<i∧l[i-1]? = some u)):=by
 cases l with
 | nil=>simp at h
 | cons x l =>
  obtain⟨u,e1,e2⟩:=lh (xB x l) (x::l) i v h
  cases i with
  | zero =>
   have:xB x l=u:=by simpa using e1
   subst this
   obtain⟨ys,e⟩:=sQ x l
   exact⟨_,yz x l,e2,.inl ⟨rfl,ys,e⟩⟩
  | succ i =>
   have e1:(x::l)[i]? = some u:=by simpa using e1
   exact⟨u,xkR e1,e2,.inr ⟨by omega,by simpa using e1⟩⟩
theorem kL {α β:Type}(f:β→α→β)(b:β){l:List α}{i:Nat}{x:α}(h:l[i]? = some x):(l.take (i+1)).foldl f b=f ((l.take i).foldl f b) x:=by
 have hi:=(xkk.mp h).1
 rw[xk8,h,xkd];rfl
end Pol
namespace Pol
def Ah (p q:R3):Prop:=p.1*q.2.2<q.1*p.2.2∨p.1*q.2.2=q.1*p.2.2∧p.2.1*q.2.2<q.2.1*p.2.2
theorem t6 {a x b y c z:Int}(hx:0<x)(hy:0<y)(hz:0<z)(h1:a*y<b*x)(h2:b*z≤c*y):a*z<c*x:=by
 have e1:a*y*z<b*x*z:=xjO h1 hz
 have e2:b*z*x≤c*y*x:=xjN h2 (by omega)
 have:a*z*y<c*x*y:=by
  have e3:a*z*y=a*y*z:=by grind
  have e4:c*x*y=c*y*x:=by grind
  have e5:b*x*z=b*z*x:=by grind
  omega
 exact xjF this (by omega)
theorem xde {a x b y c z:Int}(hx:0<x)(hy:0<y)(hz:0<z)(h1:a*y≤b*x)(h2:b*z<c*y):a*z<c*x:=by
 have e1:a*y*z≤b*x*z:=xjN h1 (by omega)
 have e2:b*z*x<c*y*x:=xjO h2 hx
 have:a*z*y<c*x*y:=by
  have e3:a*z*y=a*y*z:=by grind
  have e4:c*x*y=c*y*x:=by grind
  have e5:b*x*z=b*z*x:=by grind
  omega
 exact xjF this (by omega)
theorem xcK {a x b y c z:Int}(hy:0<y)(h1:a*y=b*x)(h2:b*z=c*y):a*z=c*x:=by
 have:a*z*y=c*x*y:=by grind
 exact xju (by omega) this
theorem Ah.irrefl (p:R3):¬Ah p p:=by rintro(h | h)<;>omega
theorem Ah.trans {p q w:R3}(hp:0<p.2.2)(hq:0<q.2.2)(hw:0<w.2.2)(h1:Ah p q)(h2:Ah q w):Ah p w:=by
 rcases h1 with a | ⟨a,b⟩
 ·rcases h2 with c | ⟨c,d⟩
  ·exact .inl (t6 hp hq hw a (by omega))
  ·exact .inl (t6 hp hq hw a (by omega))
 ·rcases h2 with c | ⟨c,d⟩
  ·exact .inl (xde hp hq hw (by omega) c)
  ·exact .inr ⟨xcK hq a c,t6 hp hq hw b (by omega)⟩
theorem Ah.total (h1:¬Ah p q)(h2:¬Ah q p):tN p q:=by
 unfold Ah at h1 h2
 unfold tN
 omega
def qN (l:List R3):Prop:=∀h t,l=h::t→∀v∈l,¬Ah v h
theorem xcR (h:Ccw l)(ha:l[k]? = some a)(hb:l[k+1]? = some b):(∀w∈l,0≤det a b w)∧∀j c,k+1<j→l[j]? = some c→det a c b<0:=by
 have hk:=(xkk.mp hb).1
 have hk0:k<l.length:=by omega
 have ea:l[k]=a:=by rw[xki hk0] at ha;exact xlp ha
 have eb:l[k+1]=b:=by rw[xki hk] at hb;exact xlp hb
 have sp:l=l.take k++a::b::l.drop (k+2):=by
  rw[←ea,←eb,←xj7 hk,←xj7 hk0,xk5]
 constructor
 ·intro w hw
  refine h.edge ?_ hw
  cases l with
  | nil=>simp at hk
  | cons x t =>
   cases k with
   | zero =>
    have:chain (xB x t) (x::t)=(xB x t,x)::chain x t:=rfl
    show(a,b)∈chain (xB x t) (x::t)
    rw[this]
    refine xkK _ (sY (s:=[]) (t:=(x::t).drop 2) ?_)
    simpa using sp
   | succ k =>
    have e:t=(x::t).tail:=rfl
    show(a,b)∈chain (xB x t) (x::t)
    exact sY (s:=xB x t::(x::t).take (k+1)) (t:=(x::t).drop (k+1+2)) (by
     rw[xj6]
     exact xlq (List.cons _) sp)
 ·intro j c hj hc
  have s:List.Sublist [a,b,c] l:=by
   rw[sp]
   refine xj0 ?_ (xk4 _ _)
   refine List.Sublist.cons₂ _ (List.Sublist.cons₂ _ (xk1.mpr ?_))
   have:(l.drop (k+2))[j-(k+2)]? = some c:=by rw[List.getElem?_drop,←hc];congr 1;omega
   exact xkR this
  have:=h.tri a b c s
  have e:=mC a b c
  omega
theorem aO:∀ {l:List α},l.Nodup→a∈l→(∀x∈l,p x=true↔x=a)→l.filter p=[a]
 | [],_,h,_=>by simp at h
 | x::l,nd,h,hp=>by
  obtain⟨n1,n2⟩:=xkX.mp nd
  by_cases e:x=a
  ·subst e
   rw[xka ((hp x xkL).mpr rfl)]
   congr 1
   rw[xkb]
   intro y hy py
   have:=(hp y (xkK _ hy)).mp py
   subst this
   exact n1 hy
  ·rw[xj_ (fun py=>e ((hp x xkL).mp py))]
   exact aO n2 ((xkJ.mp h).resolve_left fun z=>e z.symm) fun y hy=>hp y (xkK _ hy)
theorem rm:∀ {l k:List α},l.Nodup→k.Nodup→(∀x,x∈l↔x∈k)→l.length=k.length:=fun {l k} h1 h2 h=>((List.perm_ext_iff_of_nodup h1 h2).mpr h).length_eq
def yH (s t:R3):R3:=if turn s t<0 then(-(s.2.2*t.2.1-s.2.1*t.2.2),-(s.1*t.2.2-s.2.2*t.1),-turn s t) else(s.2.2*t.2.1-s.2.1*t.2.2,s.1*t.2.2-s.2.2*t.1,turn s t)
theorem vB (h:turn s t≠0):0<(yH s t).2.2∧val s (yH s t)=0∧val t (yH s t)=0:=by
 unfold yH
 split
 ·refine⟨by simp only;omega,?_,?_⟩<;>simp only[val,turn]<;>grind
 ·refine⟨by simp only;omega,?_,?_⟩<;>simp only[val,turn]<;>grind
theorem nY (h:turn s t≠0)(h1:val s v=0)(h2:val t v=0):tN (yH s t) v:=xgb h (vB h).2.1 (vB h).2.2 h1 h2
end Pol
namespace L2
open PySem PySem.Spec PyProof.Rows
def Bk (k:Nat)(i:Int):Prop:=i.natAbs<2 ^ k
theorem Bk.mono (h:Bk k i)(hk:k≤m):Bk m i:=xlg h (Nat.pow_le_pow_right (by decide) hk)
theorem Bk.mul (h:Bk k i)(h':Bk m j):Bk (k+m) (i*j):=by
 unfold Bk at *
 rw[xjT,Nat.pow_add]
 exact Nat.mul_lt_mul'' h h'
theorem Bk.add {k:Nat}{i j:Int}(h:Bk k i)(h':Bk k j):Bk (k+1) (i+j):=by
 unfold Bk at *
 rw[Nat.pow_succ]
 have:=Int.natAbs_add_le i j
 omega
theorem Bk.neg (h:Bk k i):Bk k (-i):=by unfold Bk at *;rw[Int.natAbs_neg];exact h
theorem Bk.sub (h:Bk k i)(h':Bk k j):Bk (k+1) (i-j):=by rw[Int.sub_eq_add_neg];exact h.add h'.neg
theorem Bk.bd (h:Bk k i)(hk:k≤2000:=by decide):Bd i:=h.mono hk
theorem Bk.abs (h:Bk k i):Bk k (if i<0 then -i else i):=by split;exact h.neg;exact h
theorem Bk.le (h:Bk k i)(hl:j.natAbs≤i.natAbs):Bk k j:=xlf hl h
def B3k (k:Nat)(r:Pol.R3):Prop:=(Bk k r.1∧Bk k r.2.1)∧Bk k r.2.2
theorem B3k.mono (h:B3k k r)(hk:k≤m):B3k m r:=⟨⟨h.1.1.mono hk,h.1.2.mono hk⟩,h.2.mono hk⟩
def B3 (r:Pol.R3):Prop:=(Bd r.1∧Bd r.2.1)∧Bd r.2.2
theorem B3k.b3 (h:B3k k r)(hk:k≤2000:=by decide):B3 r:=h.mono hk
theorem B3k.val (h:B3k k r)(h':B3k m p):Bk (k+m+2) (Pol.val r p) :=
 ((h.1.1.mul h'.1.1).add (h.1.2.mul h'.1.2)).sub ((h.2.mul h'.2).mono (xlc _))
def xfW:Tr→Bool
 | .int _=>true
 | _=>false
def frT (n d:Int):Tr:=.tup [.int n,.int d]
def mZ (t b:Int):Int:=t / (Int.gcd t b:Int)
def rp (t b:Int):Int:=b / (Int.gcd t b:Int)
def trR (r:Pol.R3):Tr:=.tup [.int r.1,.int r.2.1,.int r.2.2]
def yT (v:Pol.R3):Tr:=.tup [frT (mZ v.1 v.2.2) (rp v.1 v.2.2),frT (mZ v.2.1 v.2.2) (rp v.2.1 v.2.2)]
theorem cM (p:Pol.R3):pln (trR p)=true:=rfl
theorem cB (p q:Pol.R3):teq (trR p) (trR q)=decide (p=q):=by
 have e:teq (trR p) (trR q)=(decide (p.1=q.1)&&(decide (p.2.1=q.2.1)&&(decide (p.2.2=q.2.2)&&true))):=rfl
 rw[e]
 by_cases h:p=q
 ·subst h;simp
 ·rw[xls h]
  by_cases h1:p.1=q.1
  ·by_cases h2:p.2.1=q.2.1
   ·by_cases h3:p.2.2=q.2.2
    ·exact absurd (Pol.ext3 h1 h2 h3) h
    ·simp[h3]
   ·simp[h2]
  ·simp[h1]
theorem vC (f:α→Tr)(h:∀x,pln (f x)=true):∀l:List α,PyData.canLayAll0 (u6 (l.map f))=true
 | []=>rfl
 | x::l=>by
  show((g9 (f x)).canLay0&&PyData.canLayAll0 (u6 (l.map f)))=true
  rw[vC f h l,show(g9 (f x)).canLay0=true from h x];rfl
theorem xaI (l:List Pol.R3)(c:Pol.R3):((l.map trR).any fun u=>teq u (trR c))=decide (c∈l):=by
 rw[Bool.eq_iff_iff,xj3,xlu]
 constructor
 ·rintro⟨u,hu,h⟩
  obtain⟨x,hx,rfl⟩:=xkP.mp hu
  rw[cB,xlu] at h
  subst h;exact hx
 ·intro h
  exact⟨trR c,xkQ h,by rw[cB];simp⟩
theorem xdf (hx:0≤x)(hy:0≤y):Int.gcd y (x % y)=Int.gcd x y:=by
 obtain⟨n,rfl⟩:=Int.eq_ofNat_of_zero_le hy
 obtain⟨m,rfl⟩:=Int.eq_ofNat_of_zero_le hx
 show Nat.gcd n (((m % n:Nat):Int)).natAbs=Nat.gcd m n
 rw[Int.natAbs_natCast,Nat.gcd_comm m n,Nat.gcd_rec n m,Nat.gcd_comm]
theorem xbF (hb:b≠0)(h:Bd b):Bd (Int.gcd t b:Int):=by
 unfold Bd
 refine xlf ?_ h
 have:=Int.gcd_le_natAbs_right (a:=t) hb
 omega
def aF:TSp:=fun ts KK=>∃t,ts=[t]∧KK (.bl (xfW t))
def dy:TSp:=fun ts KK=>∃t,ts=[t]∧∃us,(t=.tup us∨t=.lst us)∧us.length<sizeLine∧KK (.bl (us.all xfW))
def xd3:TSp:=fun ts KK=>∃a b:Int,ts=[.int a,.int b]∧KK (.int (Int.gcd a b))
def xfV:TSp:=fun ts KK=>∃t b:Int,ts=[.int t,.int b]∧b≠0∧Bd b∧KK (frT (mZ t b) (rp t b))
def c9:TSp:=fun ts KK=>∃r p:Pol.R3,ts=[trR r,trR p]∧B3 r∧B3 p∧KK (.int (Pol.val r p))
def lq:TSp:=fun ts KK=>∃r u v:Pol.R3,ts=[trR r,trR u,trR v]∧(B3k 100 r∧B3k 800 u∧B3k 800 v)∧(0<u.2.2∧0<v.2.2)∧Pol.val r u*Pol.val r v<0∧KK (trR (Pol.xF r u v))
def ahead (p q:Pol.R3):Bool:=decide (p.1*q.2.2<q.1*p.2.2∨p.1*q.2.2=q.1*p.2.2∧p.2.1*q.2.2<q.2.1*p.2.2)
def xeH:TSp:=fun ts KK=>∃p q:Pol.R3,ts=[trR p,trR q]∧B3 p∧B3 q∧KK (.bl (ahead p q))
def sD:TSp:=fun ts KK=>∃(l:List Pol.R3) (r:Pol.R3),ts=[.lst (l.map trR),trR r]∧B3k 100 r∧(∀v∈l,B3k 800 v∧0<v.2.2)∧l.length≤100000∧KK (.lst ((Pol.yQ l r).map trR))
def yk (l:List Pol.R3)(s i:Nat):Nat:=if ahead (l.getD i (0,0,0)) (l.getD s (0,0,0))=true then i else s
def qb (l:List Pol.R3):Nat:=(List.range l.length).foldl (yk l) 0
def yu (l:List Pol.R3):List Pol.R3:=l.drop (qb l)++l.take (qb l)
def aY:TSp:=fun ts KK=>∃l:List Pol.R3,ts=[.lst (l.map trR)]∧(∀v∈l,B3 v)∧l.length≤100000∧KK (.lst ((yu l).map trR))
structure kb (rows:List Pol.R3):Prop where
 dir:∀r∈rows,r.1≠0∨r.2.1≠0
 sm:∀r∈rows,B3k 100 r
 len:rows.length≤10000
def oK:TSp:=fun ts KK=>∃(t:Tr) (r0 rows:List Pol.R3),ts=[.lst ((Pol.pieces r0).map trR),t]∧(t=.tup (rows.map trR)∨t=.lst (rows.map trR))∧kb (r0++rows)∧KK (.lst ((Pol.pieces (r0++rows)).map trR))
def aR:TSp:=fun ts KK=>∃(t:Tr) (rows:List Pol.R3),ts=[t]∧(t=.tup (rows.map trR)∨t=.lst (rows.map trR))∧kb rows∧KK (.lst ((Pol.pieces rows).map trR))
def m6:TSp:=fun ts KK=>∃l:List Pol.R3,ts=[.lst (l.map trR)]∧(∀v∈l,B3k 800 v∧0<v.2.2)∧l.length≤100000∧KK (.lst ((yu l).map yT))
def q9:TSp:=fun ts KK=>∃(t:Tr) (rows:List Pol.R3),ts=[t]∧(t=.tup (rows.map trR)∨t=.lst (rows.map trR))∧kb rows∧KK (.lst ((yu (Pol.pieces rows)).map yT))
def fx:Tr→Option Pol.R3
 | .tup [.int a,.int b,.int c]=>some (a,b,c)
 | _=>none
def nO (t:Tr):Bool:=match fx t with | some r=>decide (r.1≠0∨r.2.1≠0) | none=>false
def xdW:TSp:=fun ts KK=>∃t,ts=[t]∧KK (.bl (nO t))
def tm:TSp:=fun ts KK=>∃(a b c d:Int) (x y:List Tr),ts=[.tup (.int a::.int b::x),.tup (.int c::.int d::y)]∧((Bd a∧Bd b)∧Bd c∧Bd d)∧KK (.int (a*d-b*c))
def xhP:Option Pol.R3→Tr
 | some r=>trR r
 | none=>.non
def ng:TSp:=fun ts KK=>∃(r:Pol.R3) (rows:List Pol.R3) (s:Int),ts=[trR r,.tup (rows.map trR),.int s]∧(s=1∨s = -1)∧B3k 900 r∧(∀x∈rows,B3k 900 x)∧KK (xhP (Pol.far r s rows))
def xgc:TSp:=fun ts KK=>∃(r:Pol.R3) (rows:List Pol.R3),ts=[trR r,.tup (rows.map trR)]∧B3k 900 r∧(∀x∈rows,B3k 900 x)∧KK (.bl (Pol.back r rows))
def oA:TSp:=fun ts KK=>∃rows:List Pol.R3,ts=[.tup (rows.map trR)]∧(∀x∈rows,B3k 900 x)∧KK (.bl (Pol.vo rows))
instance (r:Pol.R3):Decidable (Pol.bZ r):=by unfold Pol.bZ;infer_instance
def zw (t:Tr):Bool:=match fx t with | some r=>decide ((r.1≠0∨r.2.1≠0)∧Pol.bZ r) | none=>false
def sX:TSp:=fun ts KK=>∃t,ts=[t]∧KK (.bl (zw t))
def nearF (n d:Int):Bool:=decide (-(12*d)≤n∧n≤12*d)
def xb8:TSp:=fun ts KK=>∃fs:List (Int×Int),ts=[.tup (fs.map fun f=>frT f.1 f.2)]∧fs.length≤1000∧(∀f∈fs,Bd f.2)∧KK (.bl (fs.all fun f=>nearF f.1 f.2))
def tH (v:Pol.R3):Bool:=nearF (mZ v.1 v.2.2) (rp v.1 v.2.2)&&nearF (mZ v.2.1 v.2.2) (rp v.2.1 v.2.2)
def rowsOf:List Tr→Option (List Pol.R3)
 | []=>some []
 | t::ts=>match fx t,rowsOf ts with | some r,some rs=>some (r::rs) | _,_=>none
def xu (rows:List Pol.R3):Bool:=decide (3≤rows.length∧rows.length≤8)&&(rows.all fun r=>decide ((r.1≠0∨r.2.1≠0)∧Pol.bZ r))&&Pol.vo rows&&(Pol.pieces rows).all tH
def isField:Tr→Bool
 | .tup us=>match rowsOf us with | some rows=>xu rows | none=>false
 | _=>false
def oq:TSp:=fun ts KK=>∃t,ts=[t]∧KK (.bl (isField t))
end L2
namespace L2
open PySem PySem.Spec PyProof.Rows
theorem mf (ts:List α)(s:Nat):dU ts (some (s:Int)) none=ts.drop s:=by
 unfold dU
 rw[HT.xa6,HT.oX]
 by_cases h:s≤ts.length
 ·rw[Nat.min_eq_left h,xk7 (by rw[xks];omega)]
 ·rw[Nat.min_eq_right (by omega),List.drop_eq_nil_of_le (xlb _),List.drop_eq_nil_of_le (by omega)];simp
theorem oI (ts:List α)(s:Nat):dU ts none (some (s:Int))=ts.take s:=by
 unfold dU
 rw[HT.xa6,HT.oX,xj8,Nat.sub_zero]
 by_cases h:s≤ts.length
 ·rw[Nat.min_eq_left h]
 ·rw[Nat.min_eq_right (by omega),xk7 (xlb _),xk7 (by omega)]
theorem rT {α:Type}{f:α→Tr}{l:List α}{i:Nat}{x:Tr}(h:(qy (l.map f))[i]? = some x):∃v,l[i]? = some v∧x=.tup [.int i,f v]:=by
 have hi:i<l.length:=by
  have:=(xkk.mp h).1
  unfold qy at this
  rw[uN,xkv] at this
  exact this
 have e:(l.map f)[i]? = some (f l[i]):=by rw[xkl,xki hi];rfl
 unfold qy at h
 rw[jV e] at h
 refine⟨l[i],xki hi,?_⟩
 have:=xlp h
 rw[←this];simp
theorem jN (f:α→Tr)(l:List α):(qy (l.map f)).length=l.length:=by unfold qy;rw[uN,xkv]
theorem l6 {l:List Pol.R3}{i:Nat}{v:Pol.R3}(h:l[i]? = some v):∃u,u∈l∧(Pol.cyc l)[i]? = some (u,v)∧atT (l.map trR) ((i:Int)-1)=some (trR u):=by
 obtain⟨u,hu,hc,hw⟩:=Pol.xgU h
 refine⟨u,hu,hc,?_⟩
 rcases hw with ⟨rfl,ys,e⟩ | ⟨h0,e⟩
 ·rw[e,xkC]
  exact fJ (ys.map trR) (trR u)
 ·rw[show((i:Int)-1)=((i-1:Nat):Int) by omega,jf,xkl,e];rfl
theorem xaa (g:Pol.Good Ls l)(hs:∀s∈Ls,B3k k s):∀v∈l,B3k (2*k+1) v:=fun v hv=>by
 obtain⟨s,hs1,t,ht1,e1,e2,hn⟩:=g.two v hv
 have z:=g.bot v hv
 obtain⟨b1,b2,b3⟩:=Pol.gZ (g.prim v hv) z e1 e2 hn
 have S:=hs s hs1
 have T:=hs t ht1
 have m:∀ {x y z w:Int},Bk k x→Bk k y→Bk k z→Bk k w→Bk (2*k+1) (x*y-z*w):=fun h1 h2 h3 h4=>((h1.mul h2).sub (h3.mul h4)).mono (by omega)
 refine⟨⟨(m S.2 T.1.2 T.2 S.1.2).le b2,(m T.2 S.1.1 S.2 T.1.1).le b3⟩,?_⟩
 have:=m S.1.1 T.1.2 S.1.2 T.1.1
 refine this.le ?_
 unfold Pol.turn at b1
 omega
theorem xbq:∀s∈Pol.xbS,B3k 100 s:=fun s hs=>by
 have h:s∈Pol.xbS:=hs
 simp only[Pol.xbS,xkJ,xkY,xly] at h
 unfold B3k Bk
 rcases h with rfl | rfl | rfl | rfl<;>simp only[Pol.FAR]<;>decide
theorem kb.good (h:kb rows)(i:Nat):Pol.Good (Pol.xbS++rows.take i) ((rows.take i).foldl Pol.yQ Pol.box):=Pol.ua (rows:=rows.take i) fun s hs=>h.dir s (xkS hs)
theorem kb.small (h:kb rows)(i:Nat):∀v∈(rows.take i).foldl Pol.yQ Pol.box,B3k 800 v∧0<v.2.2:=fun v hv=>by
 have g:=h.good i
 refine⟨(xaa g (k:=100) (fun s hs=>?_) v hv).mono (by decide),g.bot v hv⟩
 rcases xkG.mp hs with z | z
 ·exact xbq s z
 ·exact h.sm s (xkS z)
theorem kb.plen (h:kb rows)(i:Nat):((rows.take i).foldl Pol.yQ Pol.box).length≤100000:=by
 have:=Pol.aB (rows:=rows.take i) fun s hs=>h.dir s (xkS hs)
 unfold Pol.pieces at this
 have l:(rows.take i).length≤rows.length:=by rw[xkA];omega
 have:=h.len
 omega
theorem uL (h:v∈yu l):v∈l:=by
 unfold yu at h
 rcases xkG.mp h with h | h
 ·exact List.mem_of_mem_drop h
 ·exact xkS h
theorem rR (p:Pol.R3→Bool)(l:List Pol.R3):(yu l).all p=l.all p:=by
 unfold yu
 rw[List.all_append,Bool.and_comm,←List.all_append,xk5]
theorem qr (l:List Pol.R3):(yu l).length=l.length:=by
 unfold yu
 rw[xkq,xks,xkA];omega
theorem xfY (a b c d:Int):HT.lexLt [a,b] [c,d]=decide (a<c∨a=c∧b<d):=by
 simp only[HT.lexLt]
 by_cases h:a<c
 ·simp[h];omega
 ·by_cases h2:a=c
  ·subst h2;simp;omega
  ·simp[h,h2]
theorem xaE {α:Type}{l:List α}{n:Nat}(e:l.length=n)(h:n≤1000000:=by decide):l.length<sizeLine:=sqz (by omega)
theorem xfh (hz:0<z)(h:Bd z):Bd (rp i z):=by
 unfold rp
 have g:(0:Int)<(Int.gcd i z:Int):=by have:=xjA i (show z≠0 by omega);omega
 have h1:=Int.ediv_le_self (Int.gcd i z:Int) (show 0≤z by omega)
 have h2:=Int.ediv_nonneg (show 0≤z by omega) (show 0≤(Int.gcd i z:Int) by omega)
 unfold Bd at *
 omega
theorem kD (h:fx t=some r):t=trR r:=by
 unfold fx at h
 split at h
 ·cases h;rfl
 ·cases h
theorem gf (rows:List Pol.R3):rowsOf (rows.map trR)=some rows:=by
 induction rows with
 | nil=>rfl
 | cons r rows ih =>
  show(match fx (trR r),rowsOf (rows.map trR) with | some r,some rs=>some (r::rs) | _,_=>none)=_
  rw[ih];rfl
theorem qj:∀ {us:List Tr} {rows:List Pol.R3},rowsOf us=some rows→us=rows.map trR
 | [],rows,h=>by cases h;rfl
 | t::us,rows,h=>by
  unfold rowsOf at h
  cases e1:fx t with
  | none=>rw[e1] at h;cases h
  | some r =>
   cases e2:rowsOf us with
   | none=>rw[e1,e2] at h;cases h
   | some rs =>
    rw[e1,e2] at h
    cases h
    rw[kD e1,qj e2];rfl
theorem pZ (h:us.all zw=true):∃rows:List Pol.R3,us=rows.map trR∧∀r∈rows,(r.1≠0∨r.2.1≠0)∧Pol.bZ r:=by
 induction us with
 | nil=>exact⟨[],rfl,fun r hr=>by simp at hr⟩
 | cons t us ih =>
  rw[List.all_cons,xjm] at h
  obtain⟨rows,e,hr⟩:=ih h.2
  have ht:=h.1
  unfold zw at ht
  cases e1:fx t with
  | none=>rw[e1] at ht;cases ht
  | some r =>
   rw[e1] at ht
   have ht:=xlx ht
   refine⟨r::rows,by rw[kD e1,e];rfl,fun x hx=>?_⟩
   rcases xkJ.mp hx with z | z
   ·rw[z];exact ht
   ·exact hr x z
theorem aP (h:Pol.bZ r):B3k 100 r:=by
 obtain⟨⟨⟨a,b⟩,c,d⟩,e,f⟩:=h
 refine⟨⟨?_,?_⟩,?_⟩<;>unfold Bk<;>omega
theorem aq (rows:List Pol.R3):(rows.map trR).all zw=rows.all fun r=>decide ((r.1≠0∨r.2.1≠0)∧Pol.bZ r):=by
 rw[xj2];rfl
theorem xad (h:us.all zw=false):isField (.tup us)=false:=by
 show(match rowsOf us with | some rows=>xu rows | none=>false)=false
 cases e:rowsOf us with
 | none=>rfl
 | some rows =>
  rw[qj e,aq] at h
  show xu rows=false
  unfold xu
  rw[h];simp
end L2
namespace Fra
def gd (a b:Int):Int:=(Int.gcd a b:Int)
def low (n d:Int):Int×Int:=(n / gd n d,d / gd n d)
theorem bz (a b:Int):0≤gd a b:=xjU _
theorem vf (h:a≠0∨b≠0):0<gd a b:=by
 unfold gd
 have:0<Int.gcd a b:=by
  rcases h with h | h
  ·exact Int.gcd_pos_of_ne_zero_left _ h
  ·exact xjA _ h
 omega
theorem dD (a b:Int):gd a b ∣ a:=xjx ..
theorem jJ (a b:Int):gd a b ∣ b:=xjy ..
theorem xe4 (a:Int):gd a 0=if a<0 then -a else a:=by
 unfold gd
 rw[Int.gcd_zero_right]
 split<;>omega
theorem xds (h:∀k:Int,(k ∣ a∧k ∣ b)↔(k ∣ c∧k ∣ d)):gd a b=gd c d:=by
 have e1:gd a b ∣ gd c d:=xjo ((h _).mp ⟨dD a b,jJ a b⟩).1 ((h _).mp ⟨dD a b,jJ a b⟩).2
 have e2:gd c d ∣ gd a b:=xjo ((h _).mpr ⟨dD c d,jJ c d⟩).1 ((h _).mpr ⟨dD c d,jJ c d⟩).2
 exact Int.dvd_antisymm (bz _ _) (bz _ _) e1 e2
theorem xe3 (a b q:Int):gd b (a-b*q)=gd a b:=by
 refine xds fun k=>⟨fun⟨h1,h2⟩=>⟨?_,h1⟩,fun⟨h1,h2⟩=>⟨h2,?_⟩⟩
 ·have:=Int.dvd_add h2 (Int.dvd_mul_of_dvd_left (c:=q) h1)
  rwa [Int.sub_add_cancel] at this
 ·exact Int.dvd_sub h1 (Int.dvd_mul_of_dvd_left h2)
theorem xfo (a b:Int):gd b (a.fmod b)=gd a b:=by
 rw[Int.fmod_def];exact xe3 a b _
theorem xaj {a b:Int}(h:b≠0):(a.fmod b).natAbs<b.natAbs:=by
 by_cases hb:0<b
 ·have h1:=xjw a hb
  have h2:=Int.fmod_lt_of_pos a hb
  omega
 ·have hn:0 < -b:=by omega
  have e:a.fmod b = - ((-a).fmod (-b)):=by rw[Int.neg_fmod_neg];omega
  have h1:=xjw (-a) hn
  have h2:=Int.fmod_lt_of_pos (-a) hn
  omega
theorem xaL (n d:Int):(low n d).1*gd n d=n:=Int.ediv_mul_cancel (dD n d)
theorem cP (n d:Int):(low n d).2*gd n d=d:=Int.ediv_mul_cancel (jJ n d)
theorem uP (n d:Int):(low n d).1*d=n*(low n d).2:=by
 have h1:=xaL n d
 have h2:=cP n d
 grind
theorem wm (h:0<d):0<(low n d).2:=by
 have h2:=cP n d
 have g:=vf (a:=n) (b:=d) (.inr (by omega))
 generalize gd n d=k at *
 generalize (low n d).2=m at *
 by_cases hm:0<m
 ·exact hm
 ·have:m*k≤0:=Int.mul_nonpos_of_nonpos_of_nonneg (by omega) (by omega)
  omega
theorem dZ (h:0<d):Int.gcd (low n d).1 (low n d).2=1:=by
 have g:=vf (a:=n) (b:=d) (.inr (by omega))
 unfold low gd at *
 exact Int.gcd_ediv_gcd_ediv_gcd (by omega)
theorem xcn (h:b ∣ a*d)(g:Int.gcd b a=1):b ∣ d:=by
 have h':b.natAbs ∣ a.natAbs*d.natAbs:=by rw[←xjT];exact Int.natAbs_dvd_natAbs.mpr h
 exact Int.natAbs_dvd_natAbs.mp (Nat.Coprime.dvd_of_dvd_mul_left (show Nat.Coprime b.natAbs a.natAbs from g) h')
theorem rB (h1:Int.gcd a b=1)(h2:Int.gcd c d=1)(hb:0<b)(hd:0<d)(e:a*d=c*b):a=c∧b=d:=by
 have k1:b ∣ d:=by
  have:b ∣ a*d:=⟨c,by rw[e,xjI]⟩
  exact xcn this (by rw[Int.gcd_comm];exact h1)
 have k2:d ∣ b:=by
  have:d ∣ c*b:=⟨a,by rw[←e,xjI]⟩
  exact xcn this (by rw[Int.gcd_comm];exact h2)
 have ebd:b=d:=Int.dvd_antisymm (by omega) (by omega) k1 k2
 subst ebd
 exact⟨xju (by omega) e,rfl⟩
theorem kP (h:0<d)(h':0<d')(e:n*d'=n'*d):low n d=low n' d':=by
 have c1:=dZ (n:=n) h
 have c2:=dZ (n:=n') h'
 have p1:=wm (n:=n) h
 have p2:=wm (n:=n') h'
 have x1:=uP n d
 have x2:=uP n' d'
 have key:(low n d).1*(low n' d').2=(low n' d').1*(low n d).2:=by
  generalize (low n d).1=a at *
  generalize (low n d).2=b at *
  generalize (low n' d').1=c at *
  generalize (low n' d').2=f at *
  have:(a*f)*(d*d')=(c*b)*(d*d'):=by grind
  exact xju (by have:=xjS h h';omega) this
 obtain⟨u,v⟩:=rB c1 c2 p1 p2 key
 exact Prod.ext u v
theorem xfm (hx:0<x1)(hy:0<y1) :
  low ((low (a*x0) x1).1*(low (b*y0) y1).2+(low (b*y0) y1).1*(low (a*x0) x1).2) ((low (a*x0) x1).2*(low (b*y0) y1).2)=low (a*x0*y1+b*y0*x1) (x1*y1):=by
 have p1:=wm (n:=a*x0) hx
 have p2:=wm (n:=b*y0) hy
 have e1:=uP (a*x0) x1
 have e2:=uP (b*y0) y1
 refine kP (xjS p1 p2) (xjS hx hy) ?_
 generalize (low (a*x0) x1).1=p at *
 generalize (low (a*x0) x1).2=q at *
 generalize (low (b*y0) y1).1=r at *
 generalize (low (b*y0) y1).2=t at *
 grind
theorem xcx (h:0<d):(low n d).1=c*(low n d).2↔((low n d).1=c∧(low n d).2=1):=by
 constructor
 ·intro e
  have k:=dZ (n:=n) h
  have p:=wm (n:=n) h
  generalize (low n d).1=a at *
  generalize (low n d).2=b at *
  have:Int.gcd (c*b) b=b.natAbs:=by
   rw[Int.gcd_mul_left_left]
  rw[e,this] at k
  have:b=1:=by omega
  subst this
  exact⟨by omega,rfl⟩
 ·rintro⟨e1,e2⟩
  rw[e1,e2];omega
end Fra
namespace L2
open PySem PySem.Spec PyProof.Rows
abbrev F2:=Int×Int
abbrev P2:=F2×F2
def fT (f:F2):Tr:=frT f.1 f.2
def pT (p:P2):Tr:=.tup [fT p.1,fT p.2]
def lfr (t b:Int):F2:=if b<0 then Fra.low (-t) (-b) else Fra.low t b
theorem uD (h:0<b):lfr t b=Fra.low t b:=by unfold lfr;rw[if_neg (by omega)]
theorem xeK (h:b<0):lfr t b=Fra.low (-t) (-b):=by unfold lfr;rw[if_pos h]
def plc (v:Pol.R3):P2:=(Fra.low v.1 v.2.2,Fra.low v.2.1 v.2.2)
theorem qW (v:Pol.R3):yT v=pT (plc v):=rfl
def n6 (r:Pol.R3)(p:P2):F2:=lfr (r.1*p.1.1*p.2.2+r.2.1*p.2.1*p.1.2) (p.1.2*p.2.2)
def kW (f g:F2):Bool:=decide (f.1*g.2<g.1*f.2)
def fmin (f g:F2):F2:=lfr (f.1*g.2-g.1*f.2) (f.2*g.2)
def aS (f g:F2):F2:=lfr (f.1*g.1) (f.2*g.2)
def sP (f g:F2):F2:=lfr (f.1*g.2+g.1*f.2) (f.2*g.2)
def gY (p q w:P2):Int:=(fmin (aS (fmin q.1 p.1) (fmin w.2 p.2)) (aS (fmin q.2 p.2) (fmin w.1 p.1))).1
def wD (r:Pol.R3)(p:P2):Bool:=decide ((n6 r p).1≤r.2.2*(n6 r p).2)
structure Fk (k:Nat)(f:F2):Prop where
 top:Bk k f.1
 bot:Bk k f.2
 pos:0<f.2
theorem Fk.mono (h:Fk k f)(hk:k≤m):Fk m f:=⟨h.top.mono hk,h.bot.mono hk,h.pos⟩
theorem bU (h:0<b)(ht:Bk k t)(hb:Bk k b):Fk k (Fra.low t b):=by
 have g:=Fra.vf (a:=t) (b:=b) (.inr (by omega))
 refine⟨ht.le ?_,hb.le ?_,Fra.wm h⟩
 ·have e:=Fra.xaL t b
  generalize (Fra.low t b).1=x at *
  generalize Fra.gd t b=y at *
  rw[←e,xjT]
  exact Nat.le_mul_of_pos_right _ (by omega)
 ·have e:=Fra.cP t b
  generalize (Fra.low t b).2=x at *
  generalize Fra.gd t b=y at *
  have:b.natAbs=x.natAbs*y.natAbs:=by rw[←xjT,e]
  rw[this]
  exact Nat.le_mul_of_pos_right _ (by omega)
theorem sA (h:b≠0)(ht:Bk k t)(hb:Bk k b):Fk k (lfr t b):=by
 unfold lfr
 split
 ·exact bU (by omega) ht.neg hb.neg
 ·exact bU (by omega) ht hb
structure Sd (f:F2)(N D:Int):Prop where
 pf:0<f.2
 pd:0<D
 e:f.1*D=N*f.2
theorem nX (h:0<b):Sd (Fra.low t b) t b:=⟨Fra.wm h,h,Fra.uP t b⟩
theorem xbC (h:0<f.2):Sd f f.1 f.2:=⟨h,h,rfl⟩
theorem Sd.lfr (hb:0<b)(hD:0<D)(e:t*D=N*b)(hf:f=L2.lfr t b):Sd f N D:=by
 subst hf
 rw[uD hb]
 refine⟨Fra.wm hb,hD,?_⟩
 have h:=Fra.uP t b
 generalize (Fra.low t b).1=x at *
 generalize (Fra.low t b).2=y at *
 have:(x*D)*b=(N*y)*b:=by grind
 exact xju (by omega) this
theorem Sd.minus (h:Sd f N D)(h':Sd g M E):Sd (fmin f g) (N*E-M*D) (D*E):=by
 refine Sd.lfr (Pol.pp h.pf h'.pf) (Pol.pp h.pd h'.pd) ?_ rfl
 have:=h.e;have:=h'.e
 grind
theorem Sd.times (h:Sd f N D)(h':Sd g M E):Sd (aS f g) (N*M) (D*E):=by
 refine Sd.lfr (Pol.pp h.pf h'.pf) (Pol.pp h.pd h'.pd) ?_ rfl
 have:=h.e;have:=h'.e
 grind
theorem kK {a b k:Int}(hk:0<k):a*k≤b*k↔a≤b:=⟨fun h=>xjD h hk,fun h=>xjN h (by omega)⟩
theorem gF {a b k:Int}(hk:0<k):a*k<b*k↔a<b:=⟨fun h=>xjF h (by omega),fun h=>xjO h hk⟩
theorem aW {a b k:Int}(hk:0<k):a*k=b*k↔a=b:=⟨fun h=>xju (by omega) h,fun h=>by rw[h]⟩
theorem qL {a k:Int}(hk:0<k):a*k<0↔a<0:=by
 have:=gF (a:=a) (b:=0) hk
 rwa [Int.zero_mul] at this
theorem Sd.le {f:F2}{N D:Int}(h:Sd f N D)(c:Int):f.1≤c*f.2↔N≤c*D:=by
 have e:=h.e
 rw[←kK h.pd,e,show c*f.2*D=(c*D)*f.2 by grind,kK h.pf]
theorem Sd.neg {f:F2}{N D:Int}(h:Sd f N D):f.1<0↔N<0:=by
 have e:=h.e
 rw[←qL h.pd,e,qL h.pf]
theorem Sd.lt {f g:F2}{N D M E:Int}(h:Sd f N D)(h':Sd g M E):f.1*g.2<g.1*f.2↔N*E<M*D:=by
 have e:=h.e;have e':=h'.e
 rw[←gF (Pol.pp h.pd h'.pd),show f.1*g.2*(D*E)=(N*E)*(f.2*g.2) by grind,show g.1*f.2*(D*E)=(M*D)*(f.2*g.2) by grind,gF (Pol.pp h.pf h'.pf)]
theorem Sd.eq {f g:F2}{N D M E:Int}(h:Sd f N D)(h':Sd g M E):f.1*g.2=g.1*f.2↔N*E=M*D:=by
 have e:=h.e;have e':=h'.e
 rw[←aW (Pol.pp h.pd h'.pd),show f.1*g.2*(D*E)=(N*E)*(f.2*g.2) by grind,show g.1*f.2*(D*E)=(M*D)*(f.2*g.2) by grind,aW (Pol.pp h.pf h'.pf)]
section
variable {p q v w:Pol.R3}
theorem sdx (h:0<v.2.2):Sd (plc v).1 v.1 v.2.2:=nX h
theorem sdy (h:0<v.2.2):Sd (plc v).2 v.2.1 v.2.2:=nX h
theorem xfF (r:Pol.R3)(h:0<v.2.2):Sd (n6 r (plc v)) (r.1*v.1+r.2.1*v.2.1) v.2.2:=by
 have a:=sdx h;have b:=sdy h
 refine Sd.lfr (Pol.pp a.pf b.pf) h ?_ rfl
 have:=a.e;have:=b.e
 grind
theorem hJ (r:Pol.R3)(h:0<v.2.2):wD r (plc v)=decide (Pol.val r v≤0):=by
 unfold wD
 rw[xlr,(xfF r h).le]
 unfold Pol.val;omega
theorem aI (hp:0<p.2.2)(hq:0<q.2.2)(hw:0<w.2.2):gY (plc p) (plc q) (plc w)<0↔Pol.det p q w<0:=by
 unfold gY
 have s:=(((sdx hq).minus (sdx hp)).times ((sdy hw).minus (sdy hp))).minus (((sdy hq).minus (sdy hp)).times ((sdx hw).minus (sdx hp)))
 rw[s.neg]
 have D:0<q.2.2*p.2.2*(w.2.2*p.2.2):=Pol.pp (Pol.pp hq hp) (Pol.pp hw hp)
 have e:(q.1*p.2.2-p.1*q.2.2)*(w.2.1*p.2.2-p.2.1*w.2.2)*(q.2.2*p.2.2*(w.2.2*p.2.2))-(q.2.1*p.2.2-p.2.1*q.2.2)*(w.1*p.2.2-p.1*w.2.2)*(q.2.2*p.2.2*(w.2.2*p.2.2))
   = Pol.det p q w*(p.2.2*(q.2.2*p.2.2*(w.2.2*p.2.2))):=by unfold Pol.det;grind
 rw[e,qL (Pol.pp hp D)]
theorem xea (hp:0<p.2.2)(hq:0<q.2.2)(h:Pol.tN p q):plc p=plc q:=by
 unfold plc
 rw[Fra.kP hp hq h.1,Fra.kP hp hq h.2]
theorem xdK (hp:0<p.2.2)(hq:0<q.2.2)(h:plc p=plc q):Pol.tN p q:=by
 have a:=(sdx hp).eq (sdx hq)
 have b:=(sdy hp).eq (sdy hq)
 rw[h] at a b
 exact⟨a.mp rfl,b.mp rfl⟩
theorem xa8 (hp:0<p.2.2)(hq:0<q.2.2)(gp:Pol.uO p=1)(gq:Pol.uO q=1)(h:Pol.tN p q):p=q:=by
 have key:∀ {p q:Pol.R3},0<p.2.2→0<q.2.2→Pol.uO p=1→Pol.tN p q→p.2.2 ∣ q.2.2:=fun {p q} hp hq gp h=>by
  have h1:p.2.2 ∣ q.2.2*p.1:=⟨q.1,by have:=h.1;grind⟩
  have h2:p.2.2 ∣ q.2.2*p.2.1:=⟨q.2.1,by have:=h.2;grind⟩
  have h3:p.2.2 ∣ q.2.2*p.2.2:=Int.dvd_mul_left ..
  have g12:p.2.2 ∣ q.2.2*(Int.gcd p.1 p.2.1:Int):=by
   have:=xjo h1 h2
   rw[xjz] at this
   have h4:((q.2.2).natAbs*Int.gcd p.1 p.2.1:Nat)=((q.2.2*(Int.gcd p.1 p.2.1:Int)).natAbs:Nat):=by rw[xjT];rfl
   rw[h4] at this
   exact xjq.mp this
  have g3:=xjo g12 h3
  rw[xjz] at g3
  have hg':Int.gcd (Int.gcd p.1 p.2.1:Int) p.2.2=1:=gp
  rw[hg',Nat.mul_one] at g3
  exact xjq.mp g3
 have ez:p.2.2=q.2.2:=Int.dvd_antisymm (by omega) (by omega) (key hp hq gp h) (key hq hp gq ⟨h.1.symm,h.2.symm⟩)
 have h1:=h.1;have h2:=h.2
 rw[ez] at h1 h2
 exact Pol.ext3 (xju (by omega) h1) (xju (by omega) h2) ez
theorem xaY (h:0<v.2.2)(hb:B3k k v):Fk k (plc v).1∧Fk k (plc v).2:=⟨bU h hb.1.1 hb.2,bU h hb.1.2 hb.2⟩
end
theorem xeu (p:P2):pln (pT p)=true:=rfl
theorem dB (f g:F2):teq (fT f) (fT g)=decide (f=g):=by
 have e:teq (fT f) (fT g)=(decide (f.1=g.1)&&(decide (f.2=g.2)&&true)):=rfl
 rw[e]
 by_cases h1:f.1=g.1
 ·by_cases h2:f.2=g.2
  ·simp[h1,h2,Prod.ext_iff]
  ·simp[h1,h2,Prod.ext_iff]
 ·simp[h1,Prod.ext_iff]
theorem xej (p q:P2):teq (pT p) (pT q)=decide (p=q):=by
 have e:teq (pT p) (pT q)=(teq (fT p.1) (fT q.1)&&(teq (fT p.2) (fT q.2)&&true)):=rfl
 rw[e,dB,dB]
 by_cases h1:p.1=q.1
 ·by_cases h2:p.2=q.2
  ·simp[h1,h2,Prod.ext_iff]
  ·simp[h1,h2,Prod.ext_iff]
 ·simp[h1,Prod.ext_iff]
theorem xcw (l:List P2)(c:P2):((l.map pT).any fun u=>teq u (pT c))=decide (c∈l):=by
 rw[Bool.eq_iff_iff,xj3,xlu]
 constructor
 ·rintro⟨u,hu,h⟩
  obtain⟨x,hx,rfl⟩:=xkP.mp hu
  rw[xej,xlu] at h
  subst h;exact hx
 ·intro h
  exact⟨pT c,xkQ h,by rw[xej];simp⟩
end L2
namespace L2
open PySem PySem.Spec PyProof.Rows
theorem yw {α:Type}{dg:DG}{dc:DT}{de:DE}{τi:TSt}{KK:List Tr→Prop}{f:α→Tr}{l:List α}(p:α→Bool)(g:α→Tr)
  (h1:∀a∈l,∀(N:Tr→Prop) (M:Prop),(p a=true→N (g a))→(p a=false→M)→dg (f a) τi fun τ2=>dc τ2 fun b=>if b=true then de τ2 N else M) (h0:KK ((l.filter p).map g)):xcB dg dc de τi KK (l.map f) []:=by
 refine j1 (fun ys acc=>∃zs us,l=zs++us∧ys=us.map f∧acc=(zs.filter p).map g) (fun acc ⟨zs,us,e,ey,e2⟩=>?_) (fun x ys acc N ⟨zs,us,e,ey,e2⟩ hN=>?_) _ [] ⟨[],l,rfl,rfl,rfl⟩
 ·cases us with
  | nil=>rw[xj5] at e;subst e e2;exact h0
  | cons u us=>cases ey
 ·cases us with
  | nil=>cases ey
  | cons u us =>
   injection ey with ex ey
   subst ex ey e2
   have hu:u∈l:=by rw[e];simp
   refine h1 u hu (fun y=>N ((zs.filter p).map g++[y])) (N ((zs.filter p).map g)) (fun hp=>hN _ ⟨zs++[u],us,by rw[e];simp,rfl,?_⟩) (fun hp=>hN _ ⟨zs++[u],us,by rw[e];simp,rfl,?_⟩)
   ·rw[List.filter_append,xka hp];simp
   ·rw[List.filter_append,xj_ (by rw[hp];exact xjn)];simp
theorem xby {α:Type}{dg:DG}{de:DE}{τi:TSt}{KK:List Tr→Prop}{f:α→Tr}{l:List α}(g:α→Tr)(h1:∀a∈l,∀N:Tr→Prop,N (g a)→dg (f a) τi fun τ2=>de τ2 N)(h0:KK (l.map g)):xcB dg xcE de τi KK (l.map f) []:=by
 refine j1 (fun ys acc=>∃zs us,l=zs++us∧ys=us.map f∧acc=zs.map g) (fun acc ⟨zs,us,e,ey,e2⟩=>?_) (fun x ys acc N ⟨zs,us,e,ey,e2⟩ hN=>?_) _ [] ⟨[],l,rfl,rfl,rfl⟩
 ·cases us with
  | nil=>rw[xj5] at e;subst e e2;exact h0
  | cons u us=>cases ey
 ·cases us with
  | nil=>cases ey
  | cons u us =>
   injection ey with ex ey
   subst ex ey e2
   exact h1 u (by rw[e];simp) (fun y=>N (zs.map g++[y])) (hN _ ⟨zs++[u],us,by rw[e];simp,rfl,by simp⟩)
theorem xeV (xs:List Tr):teq (.lst xs) (.lst [])=xs.isEmpty:=by cases xs<;>rfl
theorem xdF (h:PyData.canLayAll0 (u6 xs)=true):xen (.lst xs) (.lst []):=⟨h,rfl,xld (Nat.min_le_right _ _) (by decide)⟩
theorem tQ {neg:Bool}{xs:List Tr}{KK:Tr→Prop}(h:PyData.canLayAll0 (u6 xs)=true)(k:KK (.bl (if neg then !xs.isEmpty else xs.isEmpty))):xhn neg (.lst xs) (.lst []) KK:=⟨xdF h,by rw[xeV];exact k⟩
theorem xaw (l:List P2):PyData.canLayAll0 (u6 (l.map pT))=true:=vC pT xeu l
theorem filter_empty (p:α→Bool)(l:List α):(l.filter p).isEmpty=l.all fun x=>!p x:=by
 induction l with
 | nil=>rfl
 | cons x l ih =>
  by_cases h:p x=true
  ·rw[xka h,List.all_cons,h];rfl
  ·rw[xj_ h,ih,List.all_cons]
   have:p x=false:=by simpa using h
   rw[this];rfl
def lP:TSp:=fun ts KK=>∃t b:Int,ts=[.int t,.int b]∧b≠0∧Bd b∧KK (fT (lfr t b))
def xbx (s t:Pol.R3):Tr:=if Pol.turn s t=0 then .non else yT (Pol.yH s t)
def rh:TSp:=fun ts KK=>∃s t:Pol.R3,ts=[trR s,trR t]∧B3k 900 s∧B3k 900 t∧KK (xbx s t)
def pj:TSp:=fun ts KK=>∃(r:Pol.R3) (p:P2),ts=[trR r,pT p]∧B3k 200 r∧Fk 600 p.1∧Fk 600 p.2∧KK (fT (n6 r p))
def cU:TSp:=fun ts KK=>∃(r:Pol.R3) (p:P2),ts=[trR r,pT p]∧B3k 200 r∧Fk 600 p.1∧Fk 600 p.2∧KK (.bl (wD r p))
def xew:TSp:=fun ts KK=>∃f g:F2,ts=[fT f,fT g]∧Fk 1000 f∧Fk 1000 g∧KK (.bl (kW f g))
def xaN:TSp:=fun ts KK=>∃f g:F2,ts=[fT f,fT g]∧Fk 900 f∧Fk 900 g∧KK (fT (fmin f g))
def xd1:TSp:=fun ts KK=>∃f g:F2,ts=[fT f,fT g]∧Fk 900 f∧Fk 900 g∧KK (fT (sP f g))
def ck:TSp:=fun ts KK=>∃f g:F2,ts=[fT f,fT g]∧Fk 900 f∧Fk 900 g∧KK (fT (aS f g))
def Pk (k:Nat)(p:P2):Prop:=Fk k p.1∧Fk k p.2
def xbM:TSp:=fun ts KK=>∃p q w:P2,ts=[pT p,pT q,pT w]∧Pk 200 p∧Pk 200 q∧Pk 200 w∧KK (.int (gY p q w))
def sR:TSp:=fun ts KK=>∃(p q:P2) (ws:List P2),ts=[pT p,pT q,.lst (ws.map pT)]∧Pk 200 p∧Pk 200 q∧(∀w∈ws,Pk 200 w)∧ws.length≤1000∧KK (.bl (ws.all fun w=>!decide (gY p q w<0)))
structure xa5 (l:List Pol.R3):Prop where
 ccw:Pol.Ccw l
 pos:∀v∈l,0<v.2.2
 prim:∀v∈l,Pol.uO v=1
 sm:∀v∈l,B3k 190 v
 least:Pol.qN l
 len:l.length≤900
def xdV:TSp:=fun ts KK=>∃ps l:List Pol.R3,ts=[.lst (ps.map yT)]∧(∀v,v∈ps↔v∈l)∧ps.length≤1000∧xa5 l∧KK (.lst (l.map yT))
structure uE (rows:List Pol.R3):Prop where
 fine:Pol.xfl rows rows
 len:rows.length≤8
def uo (rows:List Pol.R3):List Pol.R3:=yu (Pol.pieces rows)
def nM:TSp:=fun ts KK=>∃rows:List Pol.R3,ts=[.tup (rows.map trR)]∧uE rows∧KK (.lst ((uo rows).map yT))
theorem xem (h:b≠0):0<(lfr t b).2:=by
 unfold lfr
 split
 ·exact Fra.wm (by omega)
 ·exact Fra.wm (by omega)
theorem Fk.min (h:Fk k f)(h':Fk k g):Fk (2*k+1) (fmin f g):=by
 unfold fmin
 refine sA (by have:=Pol.pp h.pos h'.pos;omega) ?_ ?_
 ·exact((h.top.mul h'.bot).sub (h'.top.mul h.bot)).mono (by omega)
 ·exact(h.bot.mul h'.bot).mono (by omega)
theorem Fk.tim (h:Fk k f)(h':Fk k g):Fk (2*k) (aS f g):=by
 unfold aS
 refine sA (by have:=Pol.pp h.pos h'.pos;omega) ?_ ?_
 ·exact(h.top.mul h'.top).mono (by omega)
 ·exact(h.bot.mul h'.bot).mono (by omega)
theorem ba (p q:Pol.R3):ahead p q=true↔Pol.Ah p q:=by unfold ahead Pol.Ah;exact xlv
theorem tL (l:List Pol.R3)(hl:l≠[]):∀n,n≤l.length→(List.range n).foldl (yk l) 0<l.length
 | 0,_=>by simp;exact List.length_pos_iff.mpr hl
 | n+1,h=>by
  rw[List.range_succ,xkd]
  have ih:=tL l hl n (by omega)
  generalize (List.range n).foldl (yk l) 0=m at ih ⊢
  show yk l m n<_
  unfold yk
  split<;>omega
theorem oS (l:List Pol.R3)(hp:∀v∈l,0<v.2.2)(hl:l≠[]):∀n,n≤l.length→∀j,j<n→¬Pol.Ah (l.getD j (0,0,0)) (l.getD ((List.range n).foldl (yk l) 0) (0,0,0))
 | 0,_=>fun j hj=>by omega
 | n+1,h=>fun j hj=>by
  rw[List.range_succ,xkd]
  have ih:=oS l hp hl n (by omega)
  have s:=tL l hl n (by omega)
  have g:∀i,i<l.length→0<(l.getD i (0,0,0)).2.2:=fun i hi=>by
   rw[xkf,xki hi];exact hp _ (xkp hi)
  generalize (List.range n).foldl (yk l) 0=m at ih s ⊢
  show ¬Pol.Ah _ (l.getD (yk l m n) (0,0,0))
  by_cases c:ahead (l.getD n (0,0,0)) (l.getD m (0,0,0))=true
  ·have e:yk l m n=n:=by unfold yk;rw[if_pos c]
   rw[e]
   have c:=(ba _ _).mp c
   by_cases hjn:j=n
   ·rw[hjn];exact Pol.Ah.irrefl _
   ·intro z
    exact ih j (by omega) (z.trans (g j (by omega)) (g n (by omega)) (g m s) c)
  ·have e:yk l m n=m:=by unfold yk;rw[if_neg c]
   rw[e]
   by_cases hjn:j=n
   ·rw[hjn];exact fun z=>c ((ba _ _).mpr z)
   ·exact ih j (by omega)
theorem aA (hp:∀v∈l,0<v.2.2):Pol.qN (yu l):=by
 intro h t e v hv
 have hl:l≠[]:=fun z=>by rw[z] at e;unfold yu at e;simp at e
 have s:=tL l hl l.length (xlb _)
 have ok:=oS l hp hl l.length (xlb _)
 have hh:h=l.getD (qb l) (0,0,0):=by
  unfold yu at e
  rw[xj7 (show qb l<l.length from s),xj6] at e
  injection e with e1 e2
  rw[←e1,xkf,xki (show qb l<l.length from s)];rfl
 have hv:=uL hv
 obtain⟨j,hj,rfl⟩:=xkO.mp hv
 have:=ok j hj
 rw[hh]
 rw[xkf,xki hj] at this
 exact this
theorem gQ:v∈yu l↔v∈l:=by
 unfold yu
 rw[xkG,Or.comm,←xkG,xk5]
theorem rJ (h:Pol.Ccw l):Pol.Ccw (yu l):=by
 unfold yu
 apply Pol.Ccw.rot
 rw[xk5];exact h
theorem uE.rows {rows:List Pol.R3}(h:uE rows):kb rows:=⟨h.fine.dir,fun r hr=>aP (h.fine.fr r hr),by have:=h.len;omega⟩
theorem uv (h:Pol.bZ r):B3k 10 r:=by
 obtain⟨⟨⟨a,b⟩,c,d⟩,e,f⟩:=h
 refine⟨⟨?_,?_⟩,?_⟩<;>unfold Bk<;>omega
theorem uE.corner {rows:List Pol.R3}(h:uE rows){v:Pol.R3}(hv:v∈uo rows):(0<v.2.2∧Pol.uO v=1∧Pol.IsC rows v)∧B3k 21 v:=by
 have hv:v∈Pol.pieces rows:=uL hv
 have c:=h.fine.corner hv
 refine⟨c,?_⟩
 obtain⟨hz,g,⟨_,s,hs,t,ht,e1,e2,hn⟩⟩:=c
 obtain⟨b1,b2,b3⟩:=Pol.gZ g hz e1 e2 hn
 have S:=uv (h.fine.fr s hs)
 have T:=uv (h.fine.fr t ht)
 have m:∀ {x y z w:Int},Bk 10 x→Bk 10 y→Bk 10 z→Bk 10 w→Bk 21 (x*y-z*w):=fun h1 h2 h3 h4=>(h1.mul h2).sub (h3.mul h4)
 refine⟨⟨(m S.2 T.1.2 T.2 S.1.2).le b2,(m T.2 S.1.1 S.2 T.1.1).le b3⟩,?_⟩
 refine(m S.1.1 T.1.2 S.1.2 T.1.1).le ?_
 unfold Pol.turn at b1
 omega
theorem uE.ring {rows:List Pol.R3}(h:uE rows):xa5 (uo rows) where
 ccw:=rJ (Pol.ua h.fine.dir).ccw
 pos:=fun v hv=>(h.corner hv).1.1
 prim:=fun v hv=>(h.corner hv).1.2.1
 sm:=fun v hv=>(h.corner hv).2.mono (by decide)
 least:=aA (Pol.ua h.fine.dir).bot
 len:=by
  unfold uo
  rw[qr]
  have:=Pol.aB h.fine.dir
  have:=h.len
  omega
theorem uE.crossing {rows:List Pol.R3}(h:uE rows){s t:Pol.R3}(hs:s∈rows)(ht:t∈rows)(hn:Pol.turn s t≠0)(hk:∀r∈rows,Pol.val r (Pol.yH s t)≤0):∃v∈uo rows,yT (Pol.yH s t)=yT v:=by
 obtain⟨z,e1,e2⟩:=Pol.vB hn
 obtain⟨v,hv,sm⟩:=h.fine.found z ⟨hk,s,hs,t,ht,e1,e2,hn⟩
 refine⟨v,gQ.mpr hv,?_⟩
 rw[qW,qW,xea z (h.fine.corner hv).1 ⟨sm.1.symm,sm.2.symm⟩]
theorem uE.tightPt {rows:List Pol.R3}(h:uE rows){s t v:Pol.R3}(hv:v∈uo rows)(hn:Pol.turn s t≠0)(h1:Pol.val s v=0)(h2:Pol.val t v=0):yT (Pol.yH s t)=yT v∧∀r∈rows,Pol.val r (Pol.yH s t)≤0:=by
 obtain⟨⟨hz,_,hc⟩,_⟩:=h.corner hv
 obtain⟨z,e1,e2⟩:=Pol.vB hn
 have sm:=Pol.nY hn h1 h2
 refine⟨by rw[qW,qW,xea z hz sm],fun r hr=>?_⟩
 have k:=hc.kept r hr
 have e:Pol.val r (Pol.yH s t)*v.2.2=Pol.val r v*(Pol.yH s t).2.2:=by
  have a:=sm.1;have b:=sm.2
  unfold Pol.val
  grind
 have:Pol.val r (Pol.yH s t)*v.2.2≤0:=by rw[e];exact Pol.np k (by omega)
 rcases xjG 0 (Pol.val r (Pol.yH s t)) with q | q
 ·have:=Pol.pp q hz;omega
 ·exact q
theorem tT (hp:0<p.2.2)(hq:0<q.2.2)(gp:Pol.uO p=1)(gq:Pol.uO q=1)(h:plc p=plc q):p=q:=xa8 hp hq gp gq (xdK hp hq h)
end L2
namespace L2
open PySem PySem.Spec PyProof.Rows
theorem pq (h:Pol.turn s t≠0):yT (Pol.yH s t)=pT (lfr (s.2.2*t.2.1-s.2.1*t.2.2) (Pol.turn s t),lfr (s.1*t.2.2-s.2.2*t.1) (Pol.turn s t)):=by
 rw[qW]
 congr 1
 unfold Pol.yH lfr plc
 split<;>rfl
theorem bP (h:Pol.turn s t=0):xbx s t=.non:=if_pos h
theorem aK (h:Pol.turn s t≠0):xbx s t=yT (Pol.yH s t):=if_neg h
theorem xdn (hx:Fk 600 p.1)(hy:Fk 600 p.2)(hr:B3k 200 r):Bd (n6 r p).2:=by
 unfold n6
 have:=sA (k:=1500) (t:=r.1*p.1.1*p.2.2+r.2.1*p.2.1*p.1.2) (b:=p.1.2*p.2.2) (by have:=Pol.pp hx.pos hy.pos;omega)
  (((hr.1.1.mul hx.top |>.mul hy.bot).add (hr.1.2.mul hy.top |>.mul hx.bot)).mono (by decide)) ((hx.bot.mul hy.bot).mono (by decide))
 exact this.bot.bd
structure dO (ss done:List Pol.R3):Prop where
 nd:ss.Nodup
 mem:∀v,v∈ss↔v∈done
 least:Pol.qN ss
def zJ (ss:List Pol.R3)(p:Pol.R3):Nat:=(ss.filter fun v=>kW (plc v).1 (plc p).1).length+(ss.filter fun v=>decide ((plc v).1=(plc p).1)&&kW (plc v).2 (plc p).2).length
theorem bj (hp:0<p.2.2)(hq:0<q.2.2):kW (plc p).1 (plc q).1=true↔p.1*q.2.2<q.1*p.2.2:=by
 unfold kW;rw[xlv];exact(sdx hp).lt (sdx hq)
theorem bh (hp:0<p.2.2)(hq:0<q.2.2):kW (plc p).2 (plc q).2=true↔p.2.1*q.2.2<q.2.1*p.2.2:=by
 unfold kW;rw[xlv];exact(sdy hp).lt (sdy hq)
theorem xct (hp:0<p.2.2)(hq:0<q.2.2):(plc p).1=(plc q).1↔p.1*q.2.2=q.1*p.2.2 :=
 ⟨fun e=>((sdx hp).eq (sdx hq)).mp (by rw[e]),fun e=>Fra.kP hp hq e⟩
theorem cX (hs:∀v∈ss,0<v.2.2)(hp:0<p.2.2)(h:zJ ss p=0):∀v∈ss,¬Pol.Ah v p:=fun v hv a=>by
 unfold zJ at h
 have h1:(ss.filter fun v=>kW (plc v).1 (plc p).1)=[]:=xkt.mp (by omega)
 have h2:(ss.filter fun v=>decide ((plc v).1=(plc p).1)&&kW (plc v).2 (plc p).2)=[]:=xkt.mp (by omega)
 rw[xkb] at h1 h2
 rcases a with a | ⟨a,b⟩
 ·exact h1 v hv ((bj (hs v hv) hp).mpr a)
 ·exact h2 v hv (by rw[xlt ((xct (hs v hv) hp).mpr a),(bh (hs v hv) hp).mpr b];rfl)
theorem xak (hs:∀v∈ss,0<v.2.2)(hp:0<p.2.2)(h:zJ ss p≠0):∃v∈ss,Pol.Ah v p:=by
 unfold zJ at h
 by_cases h1:(ss.filter fun v=>kW (plc v).1 (plc p).1)=[]
 ·by_cases h2:(ss.filter fun v=>decide ((plc v).1=(plc p).1)&&kW (plc v).2 (plc p).2)=[]
  ·rw[h1,h2] at h;exact absurd rfl h
  ·obtain⟨v,hv⟩:=List.exists_mem_of_ne_nil _ h2
   obtain⟨m,c⟩:=xkM.mp hv
   rw[xjm,xlu] at c
   exact⟨v,m,.inr ⟨(xct (hs v m) hp).mp c.1,(bh (hs v m) hp).mp c.2⟩⟩
 ·obtain⟨v,hv⟩:=List.exists_mem_of_ne_nil _ h1
  obtain⟨m,c⟩:=xkM.mp hv
  exact⟨v,m,.inl ((bj (hs v m) hp).mp c)⟩
theorem rF {α:Type}{P Q:α→Bool}(h:∀x,P x=true→Q x=true→False):∀l:List α,(l.filter P).length+(l.filter Q).length≤l.length
 | []=>xlb _
 | x::l=>by
  have ih:=rF h l
  by_cases h1:P x=true
  ·rw[xka h1,xj_ (h x h1),xkr,xkr];omega
  ·rw[xj_ h1]
   by_cases h2:Q x=true
   ·rw[xka h2,xkr,xkr];omega
   ·rw[xj_ h2,xkr];omega
theorem xbk {ss:List Pol.R3}{p:Pol.R3}:zJ ss p≤ss.length:=by
 unfold zJ
 refine rF (fun v h1 z=>?_) ss
 rw[xjm,xlu] at z
 unfold kW at h1
 rw[z.1,xlu] at h1
 omega
theorem dO.ins {ss done:List Pol.R3}{p:Pol.R3}(h:dO ss done)(hs:∀v∈ss,0<v.2.2)(hp:0<p.2.2)(hn:p∉ss) :
  dO (ss.take (zJ ss p)++[p]++ss.drop (zJ ss p)) (done++[p]):=by
 have perm:(ss.take (zJ ss p)++[p]++ss.drop (zJ ss p)).Perm (p::ss):=by
  have e:p::ss=p::(ss.take (zJ ss p)++ss.drop (zJ ss p)):=by rw[xk5]
  rw[e,xj4]
  exact List.perm_middle
 have memp:∀v,v∈ss.take (zJ ss p)++[p]++ss.drop (zJ ss p)↔v=p∨v∈ss:=fun v=>by rw[perm.mem_iff,xkJ]
 refine⟨perm.nodup_iff.mpr (xkX.mpr ⟨hn,h.nd⟩),fun v=>?_,fun x t e v hv=>?_⟩
 ·rw[memp,xkG,xkU,h.mem,Or.comm]
 ·by_cases h0:zJ ss p=0
  ·have z:=cX hs hp h0
   rw[h0,List.take_zero,xkV,xj6] at e
   injection e with e1 e2
   rw[←e1]
   rcases(memp v).mp hv with q | q
   ·rw[q];exact Pol.Ah.irrefl p
   ·exact z v q
  ·obtain⟨w,hw,aw⟩:=xak hs hp h0
   cases ss with
   | nil=>simp at hw
   | cons y ys =>
    obtain⟨m,hm⟩:∃m,zJ (y::ys) p=m+1:=⟨zJ (y::ys) p-1,by omega⟩
    rw[hm,List.take_succ_cons,xj6,xj6] at e
    injection e with e1 e2
    rw[←e1]
    have ly:=h.least y ys rfl
    rcases(memp v).mp hv with q | q
    ·rw[q]
     intro z
     exact ly w hw (aw.trans (hs w hw) hp (hs y xkL) z)
    ·exact ly v q
theorem dO.stay (h:dO ss done)(hp:p∈ss):dO ss (done++[p]):=⟨h.nd,fun v=>by
 rw[xkG,xkU,←h.mem]
 exact⟨.inl,fun z=>z.elim id fun e=>e▸hp⟩,h.least⟩
theorem nE (hr:xa5 l)(hm:∀v,v∈ss↔v∈l)(hl:Pol.qN ss):ss.head? = l.head?:=by
 cases ss with
 | nil =>
  cases l with
  | nil=>rfl
  | cons a t=>exact absurd ((hm a).mpr xkL) (by simp)
 | cons b u =>
  cases l with
  | nil=>exact absurd ((hm b).mp xkL) (by simp)
  | cons a t =>
   have hb:=(hm b).mp xkL
   have ha:=(hm a).mpr xkL
   have h1:=hr.least a t rfl b hb
   have h2:=hl b u rfl a ha
   have:=xa8 (hr.pos b hb) (hr.pos a xkL) (hr.prim b hb) (hr.prim a xkL) (Pol.Ah.total h1 h2)
   rw[this];rfl
theorem lL (hr:xa5 l)(nd:ss.Nodup)(hm:∀v,v∈ss↔v∈l)(hl:Pol.qN ss)(h3:ss.length<3):ss=l:=by
 have hh:=nE hr hm hl
 have len:=Pol.rm nd hr.ccw.nd hm
 rcases ss with _ | ⟨a,_ | ⟨b,_ | ⟨e,t⟩⟩⟩
 ·rcases l with _ | ⟨c,u⟩
  ·rfl
  ·cases len
 ·rcases l with _ | ⟨c,_ | ⟨d,u⟩⟩
  ·cases len
  ·simpa using hh
  ·cases len
 ·rcases l with _ | ⟨c,_ | ⟨d,_ | ⟨g,u⟩⟩⟩
  ·cases len
  ·cases len
  ·have e:a=c:=by simpa using hh
   subst e
   have hb:=(hm b).mp (by simp)
   have:b≠a:=fun z=>by subst z;simp at nd
   simp[this] at hb
   rw[hb]
  ·cases len
 ·exact absurd h3 (by simp)
theorem xaS {l ss:List Pol.R3}(hr:xa5 l)(nd:ss.Nodup)(hm:∀v,v∈ss↔v∈l){k:Nat}{a b:Pol.R3}(ha:l[k]? = some a)(hb:l[k+1]? = some b) :
  ss.filter (fun v=>!decide (plc v∈(l.take (k+1)).map plc)&&(ss.map plc).all fun w=>!decide (gY (plc a) (plc v) w<0))=[b]:=by
 have ham:=xkR ha
 have hbm:=xkR hb
 have hk:=(xkk.mp hb).1
 obtain⟨c1,c2⟩:=Pol.xcR hr.ccw ha hb
 have inj:∀ {x y},x∈l→y∈l→plc x=plc y→x=y:=fun hx hy e=>tT (hr.pos _ hx) (hr.pos _ hy) (hr.prim _ hx) (hr.prim _ hy) e
 have ix:∀ {i j:Nat} {x:Pol.R3},l[i]? = some x→l[j]? = some x→i=j:=fun {i j x} h1 h2=>by
  have hi:=(xkk.mp h1).1
  exact(List.getElem?_inj hi hr.ccw.nd).mp (h1.trans h2.symm)
 have tk:∀ {j:Nat} {x:Pol.R3},l[j]? = some x→(plc x∈(l.take (k+1)).map plc↔j<k+1):=fun {j x} hj=>by
  have hxm:=xkR hj
  constructor
  ·intro z
   obtain⟨y,hy,e⟩:=xkP.mp z
   have:=inj (xkS hy) hxm e
   subst this
   obtain⟨i,hi,e⟩:=xkO.mp hy
   rw[List.getElem_take] at e
   have hi':i<k+1:=by rw[xkA] at hi;omega
   have:l[i]? = some y:=by rw[xki (by rw[xkA] at hi;omega),e]
   have:=ix this hj
   omega
  ·intro z
   refine xkQ ?_
   have:(l.take (k+1))[j]? = some x:=by rw[List.getElem?_take_of_lt z,hj]
   exact xkR this
 refine Pol.aO nd ((hm b).mpr hbm) fun x hx=>?_
 have hxl:=(hm x).mp hx
 obtain⟨j,hj,ej⟩:=xkO.mp hxl
 have hj':l[j]? = some x:=by rw[xki hj,ej]
 rw[xjm,Bool.not_eq_true',decide_eq_false_iff_not,tk hj',xj2,xj1]
 constructor
 ·rintro⟨h1,h2⟩
  by_cases e:j=k+1
  ·subst e;rw[hj'] at hb;exact xlp hb
  ·exfalso
   have:=c2 j x (by omega) hj'
   have:=h2 b ((hm b).mpr hbm)
   simp at this
   have:=aI (hr.pos a ham) (hr.pos x hxl) (hr.pos b hbm)
   omega
 ·rintro rfl
  refine⟨?_,fun w hw=>?_⟩
  ·have:=ix hj' hb;omega
  ·have hwl:=(hm w).mp hw
   have:=c1 w hwl
   have:=aI (hr.pos a ham) (hr.pos x hbm) (hr.pos w hwl)
   simp
   omega
theorem xec (h:fT f=fT g):f=g:=by
 have e:=dB f g
 unfold fT frT at h
 injection h with h
 injection h with h1 h
 injection h with h2 h
 injection h1 with h1;injection h2 with h2
 exact Prod.ext h1 h2
theorem xgO (h:pT p=pT q):p=q:=by
 unfold pT at h
 injection h with h
 injection h with h1 h
 injection h with h2 h
 exact Prod.ext (xec h1) (xec h2)
theorem fS (l:List Pol.R3):l.map yT=(l.map plc).map pT:=by rw[xkE];rfl
theorem oR {l:List Pol.R3}(hp:∀v∈l,0<v.2.2)(hg:∀v∈l,Pol.uO v=1){ss:List Pol.R3}(hs:∀v∈ss,v∈l){p:Pol.R3}(h:p∈l):((ss.map yT).any fun u=>teq u (yT p))=decide (p∈ss):=by
 rw[fS,qW,xcw,xlr]
 constructor
 ·intro z
  obtain⟨y,hy,e⟩:=xkP.mp z
  rw[←tT (hp y (hs y hy)) (hp p h) (hg y (hs y hy)) (hg p h) e];exact hy
 ·intro z;exact xkQ z
theorem d_ (l:List Pol.R3):PyData.canLayAll0 (u6 (l.map yT))=true:=vC yT (fun v=>xeu (plc v)) l
end L2
namespace L2
open PySem PySem.Spec PyProof.Rows
theorem yi (P:TSt→Prop)(hB:∀ τ',P τ'→B G τ')(hA:∀N:TSt→Prop,(∀ τ',P τ'→N τ')→A { G with nx:=N } τ):xgX A B G τ:=hA (B G) hB
theorem kR (all:List Tr)(W:Nat→TSt→Prop)(hd:∀KK:List Tr→Prop,KK all→di τ KK)(w0:W 0 τ)
  (h1:∀i x τ (N:TSt→Prop),all[i]? = some x→W i τ→(∀ τ',W (i+1) τ'→N τ')→dg x τ fun τ'=>body { G with nx:=N,ct:=N,bk:=G.nx } τ')
  (h0:∀ τ,W all.length τ→G.nx τ):xh1 di dg body G τ:=hd _ (zk W w0 h1 h0)
abbrev TV9:=TV×TV×TV×TV×TV×TV×TV×TV×TV
theorem p_ (f:α→β)(l:List α)(x:α):(l++[x]).map f=l.map f++[f x]:=by rw[xkC];rfl
theorem wK (h:-1000000≤i∧i≤1000000):Bd i:=cG (by omega) (by omega)
theorem ui (h:-1000000≤i∧i≤1000000)(h':-1000000≤j∧j≤1000000):CM i j:=⟨wK h,wK h'⟩
theorem tk {m:Int}(h:0<m∧m<1000000):0<m∧m<2 ^ 128:=⟨h.1,by omega⟩
structure LF0 (rows:List Pol.R3):Prop where
 l3:3≤rows.length
 l8:rows.length≤8
 sm:∀r∈rows,((-14≤r.1∧r.1≤14)∧(-14≤r.2.1∧r.2.1≤14))∧(-100≤r.2.2∧r.2.2≤100)
 dir:∀r∈rows,r.1≠0∨r.2.1≠0
 gr:Pol.GR rows
 near:∀p:Pol.R3,0<p.2.2→(∀r∈rows,Pol.val r p≤0)→(-(9*p.2.2)≤p.1∧p.1≤9*p.2.2)∧(-(9*p.2.2)≤p.2.1∧p.2.1≤9*p.2.2)
structure LF (rows:List Pol.R3):Prop where
 l3:3≤rows.length
 l8:rows.length≤8
 sm:∀r∈rows,((-14≤r.1∧r.1≤14)∧(-14≤r.2.1∧r.2.1≤14))∧(-200≤r.2.2∧r.2.2≤200)
 dir:∀r∈rows,r.1≠0∨r.2.1≠0
 gr:Pol.GR rows
 near:∀p:Pol.R3,0<p.2.2→(∀r∈rows,Pol.val r p≤0)→(-(12*p.2.2)≤p.1∧p.1≤12*p.2.2)∧(-(12*p.2.2)≤p.2.1∧p.2.1≤12*p.2.2)
def xba:TSp:=fun ts KK=>ts=[]∧∀rows,LF rows→KK (.tup (rows.map trR))
def rO (u v:Int)(r:Pol.R3):Pol.R3:=(r.1,r.2.1,r.2.2+r.1*u+r.2.1*v)
theorem lg (h1:-m≤a)(h2:a≤m)(h3:-n≤b)(h4:b≤n)(hm:0≤m)(hn:0≤n):-(m*n)≤a*b∧a*b≤m*n:=by
 have key:(a*b).natAbs≤(m*n).natAbs:=by
  rw[xjT,xjT]
  exact xlj (by omega) (by omega)
 have:=Pol.pz hm hn
 omega
theorem LF0.moved (h:LF0 rows)(hu:-3≤u∧u≤3)(hv:-3≤v∧v≤3):LF (rows.map (rO u v)) where
 l3:=by rw[xkv];exact h.l3
 l8:=by rw[xkv];exact h.l8
 sm:=fun r hr=>by
  obtain⟨s,hs,rfl⟩:=xkP.mp hr
  obtain⟨⟨⟨a1,a2⟩,b1,b2⟩,c1,c2⟩:=h.sm s hs
  have x:=lg a1 a2 hu.1 hu.2 (by decide) (by decide)
  have y:=lg b1 b2 hv.1 hv.2 (by decide) (by decide)
  simp only[rO]
  omega
 dir:=fun r hr=>by
  obtain⟨s,hs,rfl⟩:=xkP.mp hr
  exact h.dir s hs
 gr:=fun x y hn=>by
  obtain⟨r,hr,p⟩:=h.gr x y hn
  exact⟨rO u v r,xkQ hr,p⟩
 near:=fun p hz hk=>by
  have:=h.near (p.1-u*p.2.2,p.2.1-v*p.2.2,p.2.2) hz fun r hr=>by
   have:=hk _ (xkQ hr)
   have e:Pol.val r (p.1-u*p.2.2,p.2.1-v*p.2.2,p.2.2)=Pol.val (rO u v r) p:=by simp only[Pol.val,rO];grind
   rw[e];exact this
  simp only at this
  have x:=xjN hu.1 (show 0≤p.2.2 by omega)
  have x':=xjN hu.2 (show 0≤p.2.2 by omega)
  have y:=xjN hv.1 (show 0≤p.2.2 by omega)
  have y':=xjN hv.2 (show 0≤p.2.2 by omega)
  omega
theorem LF.rot (h:LF rows)(n:Nat):LF (rows.drop n++rows.take n):=by
 have mem:∀r,r∈rows.drop n++rows.take n↔r∈rows:=fun r=>by rw[xkG,Or.comm,←xkG,xk5]
 have len:(rows.drop n++rows.take n).length=rows.length:=by rw[xkq,xks,xkA];omega
 exact⟨by rw[len];exact h.l3,by rw[len];exact h.l8,fun r hr=>h.sm r ((mem r).mp hr),fun r hr=>h.dir r ((mem r).mp hr),
  fun u v hn=>let ⟨r,hr,p⟩:=h.gr u v hn;⟨r,(mem r).mpr hr,p⟩,fun p hz hk=>h.near p hz fun r hr=>hk r ((mem r).mpr hr)⟩
theorem LF.frow (h:LF rows):∀r∈rows,Pol.bZ r:=fun r hr=>by have:=h.sm r hr;unfold Pol.bZ;omega
theorem LF.fine (h:LF rows):uE rows:=⟨⟨fun {p} hz hp s hs=>by
 have:=h.near p hz hp
 simp only[Pol.xbS,xkJ,xkY,xly] at hs
 rcases hs with rfl | rfl | rfl | rfl<;>simp only[Pol.val,Pol.FAR]<;>omega,h.frow,fun _ h=>h,h.dir⟩,h.l8⟩
theorem n_ (hd:0<d):nearF (mZ n d) (rp n d)=true↔-(12*d)≤n∧n≤12*d:=by
 have s:=nX (t:=n) (b:=d) hd
 unfold nearF
 rw[xlv]
 have h1:=s.le 12
 have h2:-(12*rp n d)≤mZ n d↔-(12*d)≤n:=by
  have e:=s.e
  have p:=s.pf
  show -(12*(Fra.low n d).2)≤(Fra.low n d).1↔_
  rw[←kK hd,e,show -(12*(Fra.low n d).2)*d=(-(12*d))*(Fra.low n d).2 by grind,kK p]
 have h3:mZ n d≤12*rp n d↔n≤12*d:=h1
 rw[h2,h3]
theorem xaG (hz:0<v.2.2):tH v=true↔(-(12*v.2.2)≤v.1∧v.1≤12*v.2.2)∧(-(12*v.2.2)≤v.2.1∧v.2.1≤12*v.2.2):=by
 unfold tH
 rw[xjm,n_ hz,n_ hz]
theorem LF.field (h:LF rows):isField (.tup (rows.map trR))=true:=by
 show(match rowsOf (rows.map trR) with | some rows=>xu rows | none=>false)=true
 rw[gf]
 show xu rows=true
 unfold xu
 rw[xlt ⟨h.l3,h.l8⟩,Pol.xdx h.dir (Pol.xhM h.gr) (Pol.xhR h.dir h.gr)]
 have e1:(rows.all fun r=>decide ((r.1≠0∨r.2.1≠0)∧Pol.bZ r))=true:=by
  rw[xj1];intro r hr;exact xlt ⟨h.dir r hr,h.frow r hr⟩
 have e2:(Pol.pieces rows).all tH=true:=by
  rw[xj1]
  intro v hv
  obtain⟨hz,_,hc⟩:=h.fine.fine.corner hv
  exact(xaG hz).mpr (h.near v hz hc.kept)
 rw[e1,e2];rfl
structure xia (b1 c1 b2 c2 b3 c3 b4 c4:Int):Prop where
 h1:(1≤b1∧b1≤3)∧0≤c1∧c1≤5*b1
 h2:(1≤b2∧b2≤3)∧0≤c2∧c2≤5*b2
 h3:(1≤b3∧b3≤3)∧0≤c3∧c3≤5*b3
 h4:(1≤b4∧b4≤3)∧0≤c4∧c4≤5*b4
theorem xhB {b c x z:Int}(hb:1≤b)(hc:c≤5*b)(hz:0<z)(h:b*x≤c*z):x≤5*z:=by
 have h1:c*z≤5*b*z:=xjN hc (by omega)
 have h2:b*x≤b*(5*z):=by
  have:b*(5*z)=5*b*z:=by grind
  omega
 exact xjC h2 (by omega)
def Extra (r:Pol.R3):Prop:=(((-6≤r.1∧r.1≤6)∧(-6≤r.2.1∧r.2.1≤6))∧(-40≤r.2.2∧r.2.2≤40))∧(r.1≠0∨r.2.1≠0)
theorem xia.lf {b1 c1 b2 c2 b3 c3 b4 c4:Int}(B:xia b1 c1 b2 c2 b3 c3 b4 c4){ex:List Pol.R3}(hx:∀r∈ex,Extra r)(hl:ex.length≤4):LF0 ([(-b1,0,c1),(b2,0,c2),(0,-b3,c3),(0,b4,c4)]++ex):=by
 obtain⟨h1,h2,h3,h4⟩:=B
 have four:∀r∈([(-b1,0,c1),(b2,0,c2),(0,-b3,c3),(0,b4,c4)]++ex:List Pol.R3),r=(-b1,0,c1)∨r=(b2,0,c2)∨r=(0,-b3,c3)∨r=(0,b4,c4)∨Extra r:=fun r hr=>by
  rcases xkG.mp hr with h | h
  ·simp only[xkJ,xkY,xly] at h
   rcases h with h | h | h | h
   ·exact .inl h
   ·exact .inr (.inl h)
   ·exact .inr (.inr (.inl h))
   ·exact .inr (.inr (.inr (.inl h)))
  ·exact .inr (.inr (.inr (.inr (hx r h))))
 have m1:(-b1,0,c1)∈([(-b1,0,c1),(b2,0,c2),(0,-b3,c3),(0,b4,c4)]++ex:List Pol.R3):=xkH _ xkL
 have m2:(b2,0,c2)∈([(-b1,0,c1),(b2,0,c2),(0,-b3,c3),(0,b4,c4)]++ex:List Pol.R3):=xkH _ (xkK _ xkL)
 have m3:(0,-b3,c3)∈([(-b1,0,c1),(b2,0,c2),(0,-b3,c3),(0,b4,c4)]++ex:List Pol.R3):=xkH _ (xkK _ (xkK _ xkL))
 have m4:(0,b4,c4)∈([(-b1,0,c1),(b2,0,c2),(0,-b3,c3),(0,b4,c4)]++ex:List Pol.R3):=xkH _ (xkK _ (xkK _ (xkK _ xkL)))
 refine⟨by simp,by simp;omega,fun r hr=>?_,fun r hr=>?_,fun u v hn=>?_,fun p hz hk=>?_⟩
 ·rcases four r hr with h | h | h | h | h
  ·subst h;simp only;omega
  ·subst h;simp only;omega
  ·subst h;simp only;omega
  ·subst h;simp only;omega
  ·unfold Extra at h;omega
 ·rcases four r hr with h | h | h | h | h
  ·subst h;exact .inl (by simp only;omega)
  ·subst h;exact .inl (by simp only;omega)
  ·subst h;exact .inr (by simp only;omega)
  ·subst h;exact .inr (by simp only;omega)
  ·exact h.2
 ·rcases xjH u 0 with c | c | c
  ·refine⟨_,m1,?_⟩
   simp only
   have:=xjS (show 0<b1 by omega) (show 0 < -u by omega)
   grind
  ·rcases xjH v 0 with d | d | d
   ·refine⟨_,m3,?_⟩
    simp only
    have:=xjS (show 0<b3 by omega) (show 0 < -v by omega)
    grind
   ·omega
   ·refine⟨_,m4,?_⟩
    simp only
    have:=xjS (show 0<b4 by omega) d
    grind
  ·refine⟨_,m2,?_⟩
   simp only
   have:=xjS (show 0<b2 by omega) c
   grind
 ·have k1:=hk _ m1
  have k2:=hk _ m2
  have k3:=hk _ m3
  have k4:=hk _ m4
  simp only[Pol.val] at k1 k2 k3 k4
  have e1:=xhB (x:=-p.1) h1.1.1 h1.2.2 hz (by grind)
  have e2:=xhB (x:=p.1) h2.1.1 h2.2.2 hz (by grind)
  have e3:=xhB (x:=-p.2.1) h3.1.1 h3.2.2 hz (by grind)
  have e4:=xhB (x:=p.2.1) h4.1.1 h4.2.2 hz (by grind)
  omega
def kg (rows:List Pol.R3):Prop:=∃b1 c1 b2 c2 b3 c3 b4 c4,rows=[(-b1,0,c1),(b2,0,c2),(0,-b3,c3),(0,b4,c4)]∧xia b1 c1 b2 c2 b3 c3 b4 c4
theorem kg.last (h:kg rows)(hx:∀r∈ex,Extra r):∃ini l,rows++ex=ini++[l]∧Extra (0-l.1,0-l.2.1,0-l.2.2):=by
 obtain⟨b1,c1,b2,c2,b3,c3,b4,c4,rfl,B⟩:=h
 rcases List.eq_nil_or_concat ex with rfl | ⟨ini,l,rfl⟩
 ·refine⟨[(-b1,0,c1),(b2,0,c2),(0,-b3,c3)],(0,b4,c4),by simp,?_⟩
  have:=B.h4
  unfold Extra
  simp only
  omega
 ·rw[List.concat_eq_append] at hx ⊢
  refine⟨_++ini,l,by rw[xj4],?_⟩
  have:=hx l (by simp)
  unfold Extra at *
  simp only
  omega
theorem kg.len (h:kg rows):rows.length=4:=by
 obtain⟨b1,c1,b2,c2,b3,c3,b4,c4,rfl,B⟩:=h
 rfl
theorem kg.lf (h:kg rows)(hx:∀r∈ex,Extra r)(hl:ex.length≤4):LF0 (rows++ex):=by
 obtain⟨b1,c1,b2,c2,b3,c3,b4,c4,rfl,B⟩:=h
 exact B.lf hx hl
def xcz:List (Int×Int):=[(-1,0),(1,0),(0,-1),(0,1)]
def dT (d:Int×Int):Tr:=.tup [.int d.1,.int d.2]
def l7 (i:Nat)(rows:List Pol.R3):Prop:=rows.length=i∧∀(j:Nat) (r:Pol.R3) (d:Int×Int),rows[j]? = some r→xcz[j]? = some d→∃b c:Int,((1≤b∧b≤3)∧0≤c∧c≤5*b)∧r=(d.1*b,d.2*b,c)
theorem l7.step (h:l7 i rows)(hd:xcz[i]? = some d)(hb:(1≤b∧b≤3)∧0≤c∧c≤5*b):l7 (i+1) (rows++[(d.1*b,d.2*b,c)]):=by
 refine⟨by rw[xkq,h.1];rfl,fun j r d' hr hd'=>?_⟩
 by_cases hj:j<i
 ·rw[xkg (by rw[h.1];exact hj)] at hr
  exact h.2 j r d' hr hd'
 ·have hl:=(xkk.mp hr).1
  rw[xkq,h.1,xkz] at hl
  have:j=i:=by omega
  subst this
  rw[xkh (by rw[h.1];exact xlb _),h.1,Nat.sub_self] at hr
  rw[hd] at hd'
  cases hr;cases hd'
  exact⟨b,c,hb,rfl⟩
theorem l7.box (h:l7 4 rows):kg rows:=by
 obtain⟨hl,h⟩:=h
 rcases rows with _ | ⟨r1,_ | ⟨r2,_ | ⟨r3,_ | ⟨r4,_ | ⟨r5,rs⟩⟩⟩⟩⟩
 ·cases hl
 ·cases hl
 ·cases hl
 ·cases hl
 ·obtain⟨b1,c1,g1,e1⟩:=h 0 r1 (-1,0) rfl rfl
  obtain⟨b2,c2,g2,e2⟩:=h 1 r2 (1,0) rfl rfl
  obtain⟨b3,c3,g3,e3⟩:=h 2 r3 (0,-1) rfl rfl
  obtain⟨b4,c4,g4,e4⟩:=h 3 r4 (0,1) rfl rfl
  subst e1 e2 e3 e4
  refine⟨b1,c1,b2,c2,b3,c3,b4,c4,?_,g1,g2,g3,g4⟩
  simp only[List.cons.injEq,Prod.mk.injEq,and_true]
  omega
 ·cases hl
theorem pO {i:Nat}{d:Int×Int}(h:xcz[i]? = some d):(-1≤d.1∧d.1≤1)∧(-1≤d.2∧d.2≤1):=by
 have:=xkR h
 simp only[xcz,xkJ,xkY,xly] at this
 rcases this with rfl | rfl | rfl | rfl<;>decide
def Drawn (d:Int×Int)(y:Tr):Prop:=∃c:Int,(0≤c∧c<8)∧y=.tup [.int d.1,.int d.2,.int c]
theorem xeA {d1 d2 d3:Int×Int}{ys:List Tr}(h:Paired Drawn [d1,d2,d3] ys):∃c1 c2 c3:Int,((0≤c1∧c1≤7)∧(0≤c2∧c2≤7)∧(0≤c3∧c3≤7))∧ys=[(d1.1,d1.2,c1),(d2.1,d2.2,c2),(d3.1,d3.2,c3)].map trR:=by
 cases h with
 | cons h1 h =>
  cases h with
  | cons h2 h =>
   cases h with
   | cons h3 h =>
    cases h
    obtain⟨c1,g1,rfl⟩:=h1
    obtain⟨c2,g2,rfl⟩:=h2
    obtain⟨c3,g3,rfl⟩:=h3
    exact⟨c1,c2,c3,by omega,rfl⟩
theorem bB {α:Type}{dg:DG}{de:DE}{τi:TSt}{KK:List Tr→Prop}{f:α→Tr}{l:List α}(R:α→Tr→Prop)(h1:∀a∈l,∀N:Tr→Prop,(∀y,R a y→N y)→dg (f a) τi fun τ2=>de τ2 N)
  (h0:∀ys,Paired R l ys→KK ys):xcB dg xcE de τi KK (l.map f) []:=by
 refine j1 (fun ys acc=>∃zs us,l=zs++us∧ys=us.map f∧Paired R zs acc) (fun acc ⟨zs,us,e,ey,e2⟩=>?_) (fun x ys acc N ⟨zs,us,e,ey,e2⟩ hN=>?_) _ [] ⟨[],l,rfl,rfl,.nil⟩
 ·cases us with
  | nil=>rw[xj5] at e;subst e;exact h0 acc e2
  | cons u us=>cases ey
 ·cases us with
  | nil=>cases ey
  | cons u us =>
   injection ey with ex ey
   subst ex ey
   exact h1 u (by rw[e];simp) (fun y=>N (acc++[y])) fun y hy=>hN _ ⟨zs++[u],us,by rw[e];simp,rfl,cZ e2 hy⟩
theorem xdE (h1:1≤k)(h7:k≤7):LF0 [(-1,0,0),(1,-2*k,0),(1,2*k,2*k)]:=by
 refine⟨by simp,by simp,fun r hr=>?_,fun r hr=>?_,fun u v hn=>?_,fun p hz hk=>?_⟩
 ·simp only[xkJ,xkY,xly] at hr
  rcases hr with rfl | rfl | rfl<;>simp only<;>omega
 ·simp only[xkJ,xkY,xly] at hr
  rcases hr with rfl | rfl | rfl<;>simp only<;>omega
 ·rcases xjG u 0 with c | c
  ·exact⟨_,xkL,by simp only;omega⟩
  ·rcases xjH v 0 with d | d | d
   ·refine⟨(1,-2*k,0),by simp,?_⟩
    simp only
    have:=xjS (show 0<k by omega) (show 0 < -v by omega)
    grind
   ·refine⟨(1,2*k,2*k),by simp,?_⟩
    simp only
    subst d
    omega
   ·refine⟨(1,2*k,2*k),by simp,?_⟩
    simp only
    have:=xjS (show 0<k by omega) d
    grind
 ·have k1:=hk (-1,0,0) (by simp)
  have k2:=hk (1,-2*k,0) (by simp)
  have k3:=hk (1,2*k,2*k) (by simp)
  simp only[Pol.val] at k1 k2 k3
  have e2:p.1≤2*(k*p.2.1):=by grind
  have e3:p.1+2*(k*p.2.1)≤2*(k*p.2.2):=by grind
  have kz:k*p.2.2≤7*p.2.2:=xjN h7 (by omega)
  have y0:0≤p.2.1:=Pol.zI (show 0<k by omega) (by omega)
  have y1:p.2.1≤p.2.2:=by
   have:k*p.2.1≤k*p.2.2:=by omega
   exact xjC this (by omega)
  omega
theorem xfR (h:0≤c∧c≤7):-100≤c∧c≤100:=by omega
theorem xe9 (h1:0≤c1∧c1≤7)(h2:0≤c2∧c2≤7)(h3:0≤c3∧c3≤7):LF0 [(-2,1,c1),(1,-3,c2),(2,3,c3)]:=by
 refine⟨by simp,by simp,fun r hr=>?_,fun r hr=>?_,fun u v hn=>?_,fun p hz hk=>?_⟩
 ·simp only[xkJ,xkY,xly] at hr
  rcases hr with rfl | rfl | rfl
  ·exact⟨by simp only;decide,xfR h1⟩
  ·exact⟨by simp only;decide,xfR h2⟩
  ·exact⟨by simp only;decide,xfR h3⟩
 ·simp only[xkJ,xkY,xly] at hr
  rcases hr with rfl | rfl | rfl<;>exact .inl (by simp only;decide)
 ·rcases xjG 0 (-2*u+1*v) with c | c
  ·exact⟨(-2,1,c1),by simp,c⟩
  ·rcases xjG 0 (1*u+-3*v) with d | d
   ·exact⟨(1,-3,c2),by simp,d⟩
   ·exact⟨(2,3,c3),by simp,by simp only;omega⟩
 ·have k1:=hk (-2,1,c1) (by simp)
  have k2:=hk (1,-3,c2) (by simp)
  have k3:=hk (2,3,c3) (by simp)
  simp only[Pol.val] at k1 k2 k3
  have z1:c1*p.2.2≤7*p.2.2:=xjN h1.2 (by omega)
  have z2:c2*p.2.2≤7*p.2.2:=xjN h2.2 (by omega)
  have z3:c3*p.2.2≤7*p.2.2:=xjN h3.2 (by omega)
  omega
theorem xeR (h1:0≤c1∧c1≤7)(h2:0≤c2∧c2≤7)(h3:0≤c3∧c3≤7):LF0 [(-3,-2,c1),(3,-1,c2),(1,4,c3)]:=by
 refine⟨by simp,by simp,fun r hr=>?_,fun r hr=>?_,fun u v hn=>?_,fun p hz hk=>?_⟩
 ·simp only[xkJ,xkY,xly] at hr
  rcases hr with rfl | rfl | rfl
  ·exact⟨by simp only;decide,xfR h1⟩
  ·exact⟨by simp only;decide,xfR h2⟩
  ·exact⟨by simp only;decide,xfR h3⟩
 ·simp only[xkJ,xkY,xly] at hr
  rcases hr with rfl | rfl | rfl<;>exact .inl (by simp only;decide)
 ·rcases xjG 0 (-3*u+-2*v) with c | c
  ·exact⟨(-3,-2,c1),by simp,c⟩
  ·rcases xjG 0 (3*u+-1*v) with d | d
   ·exact⟨(3,-1,c2),by simp,d⟩
   ·exact⟨(1,4,c3),by simp,by simp only;omega⟩
 ·have k1:=hk (-3,-2,c1) (by simp)
  have k2:=hk (3,-1,c2) (by simp)
  have k3:=hk (1,4,c3) (by simp)
  simp only[Pol.val] at k1 k2 k3
  have z1:c1*p.2.2≤7*p.2.2:=xjN h1.2 (by omega)
  have z2:c2*p.2.2≤7*p.2.2:=xjN h2.2 (by omega)
  have z3:c3*p.2.2≤7*p.2.2:=xjN h3.2 (by omega)
  omega
end L2
namespace L2
open PySem PySem.Spec PyProof.Rows
theorem fg:isField (.tup (rows.map trR))=xu rows:=by
 show(match rowsOf (rows.map trR) with | some rows=>xu rows | none=>false)=_
 rw[gf]
end L2
namespace L2
open PySem PySem.Spec PyProof.Rows
def DD (K:PySem.W.Frag)(x:Str)(st:Stmt):Prop:=∃f fd,PySem.W.nsIn K mainGlobals x=some (some (.ref f))∧Fun K x x st f fd
theorem dd {K:PySem.W.Frag}{x:Str}{st:Stmt}{f:Addr}{oc:Value}{od an:Option Addr}{sl:Array (Option Value)}{kV dc pm cd ct:Value}(a:PySem.W.nsIn K mainGlobals x=some (some (.ref f)))
  (l:K.lookup f=some ⟨oc,od,.func (PySem.W.fnOf x x (uC st) (zj st) (xf st) .none kV dc pm an cd ct),sl⟩) (c:PySem.W.codeIn K cd x=true) (k:PySem.W.keepIn K (.ref f)=true):DD K x st:=⟨f,_,a,xeG l c k⟩
theorem zr {K:PySem.W.Frag}{x qual p1:Str}{st:Stmt}{f:Addr}{fd:FuncData}(F:Fun K x qual st f fd)(h:∀(kV doc pm:Value) (an:Option Addr) (cdv ct u1:Value),bindArgs (PySem.W.fnOf x qual (uC st) (zj st) (xf st) .none kV doc pm an cdv ct) ⟨[u1],[]⟩=pure [(p1,u1)]):Binds K fd [p1] [] :=
 F.binds fun a b c d e g us hl=>match us,hl with | [u1],_=>h a b c d e g u1
theorem yy {K:PySem.W.Frag}{x qual p1 p2:Str}{st:Stmt}{f:Addr}{fd:FuncData}(F:Fun K x qual st f fd)(h:∀(kV doc pm:Value) (an:Option Addr) (cdv ct u1 u2:Value),bindArgs (PySem.W.fnOf x qual (uC st) (zj st) (xf st) .none kV doc pm an cdv ct) ⟨[u1,u2],[]⟩=pure [(p1,u1),(p2,u2)]):Binds K fd [p1,p2] [] :=
 F.binds fun a b c d e g us hl=>match us,hl with | [u1,u2],_=>h a b c d e g u1 u2
theorem j_ {K:PySem.W.Frag}{x qual p1 p2 p3:Str}{st:Stmt}{f:Addr}{fd:FuncData}(F:Fun K x qual st f fd)(h:∀(kV doc pm:Value) (an:Option Addr) (cdv ct u1 u2 u3:Value),bindArgs (PySem.W.fnOf x qual (uC st) (zj st) (xf st) .none kV doc pm an cdv ct) ⟨[u1,u2,u3],[]⟩=pure [(p1,u1),(p2,u2),(p3,u3)]):Binds K fd [p1,p2,p3] [] :=
 F.binds fun a b c d e g us hl=>match us,hl with | [u1,u2,u3],_=>h a b c d e g u1 u2 u3
def xa9 (w:Int)(f:F2):F2:=Fra.low (w*f.1) f.2
def xgS:TSp:=fun ts KK=>∃f g:F2,ts=[fT f,fT g]∧Fk 900 f∧Fk 900 g∧KK (fT (sP f g))
def xeB:TSp:=fun ts KK=>∃(w:Int) (f:F2),ts=[.int w,fT f]∧Bk 900 w∧Fk 900 f∧KK (fT (xa9 w f))
def xbD:TSp:=fun ts KK=>∃(a b:Int) (x:List Tr) (p:P2),ts=[.tup (.int a::.int b::x),pT p]∧Bk 200 a∧Bk 200 b∧Pk 600 p∧KK (fT (n6 (a,b,0) p))
def qw (r:Pol.R3)(p:P2):Bool:=decide ((n6 r p).1=r.2.2*(n6 r p).2)
def oi:TSp:=fun ts KK=>∃(r:Pol.R3) (p:P2),ts=[trR r,pT p]∧B3k 200 r∧Pk 600 p∧KK (.bl (qw r p))
def aX:TSp:=fun ts KK=>∃t,ts=[t]∧isField t=true∧KK .non
def lA:TSp:=fun ts KK=>∃rows:List Pol.R3,ts=[.tup (rows.map trR)]∧xu rows=true∧uE rows∧KK (.lst ((uo rows).map yT))
def mI (rows:List Pol.R3)(p:P2):List Nat:=(List.range rows.length).filter fun i=>qw (rows.getD i (0,0,0)) p
def aG (n:Nat):Tr:=.int n
def aU:TSp:=fun ts KK=>∃(rows:List Pol.R3) (p:P2),ts=[.tup (rows.map trR),pT p]∧rows.length≤1000∧(∀r∈rows,B3k 200 r)∧Pk 600 p∧KK (.tup ((mI rows p).map aG))
def brk (v:Pol.R3):Bool := !decide ((plc v).1.2=1) || !decide ((plc v).2.2=1)
def nG:TSp:=fun ts KK=>∃v:Pol.R3,ts=[yT v]∧KK (.bl (brk v))
def cY:TSp:=fun ts KK=>∃rows:List Pol.R3,ts=[.tup (rows.map trR)]∧xu rows=true∧uE rows∧KK (.lst (((uo rows).filter brk).map yT))
theorem af (h:xu rows=true):(3≤rows.length∧rows.length≤8)∧(∀r∈rows,(r.1≠0∨r.2.1≠0)∧Pol.bZ r)∧Pol.vo rows=true∧∀v∈Pol.pieces rows,tH v=true:=by
 unfold xu at h
 simp only[xjm,xlu,xj1] at h
 exact⟨h.1.1.1,h.1.1.2,h.1.2,h.2⟩
theorem cF (h:xu rows=true):isField (.tup (rows.map trR))=true:=by rw[fg];exact h
theorem LF.isf (h:LF rows):xu rows=true:=by rw[←fg];exact h.field
theorem oP (h:0<b):frT (mZ t b) (rp t b)=fT (lfr t b):=by rw[uD h];rfl
theorem Fk.timW (hw:Bk k w)(h:Fk m f):Fk (k+m) (xa9 w f):=bU h.pos (hw.mul h.top) (h.bot.mono (by omega))
theorem xdL (hx:0<p.1.2)(hy:0<p.2.2):sP (xa9 a p.1) (xa9 b p.2)=n6 (a,b,0) p:=by
 unfold sP xa9 n6
 rw[uD (Pol.pp (Fra.wm hx) (Fra.wm hy)),uD (Pol.pp hx hy)]
 exact Fra.xfm hx hy
theorem xbr (hr:B3k 200 r)(hp:Pk 600 p):Fk 1500 (n6 r p):=by
 unfold n6
 exact sA (k:=1500) (by have:=Pol.pp hp.1.pos hp.2.pos;omega) (((hr.1.1.mul hp.1.top |>.mul hp.2.bot).add (hr.1.2.mul hp.2.top |>.mul hp.1.bot)).mono (by decide)) ((hp.1.bot.mul hp.2.bot).mono (by decide))
theorem xbX (hx:0<p.1.2)(hy:0<p.2.2):qw r p=decide (n6 r p=(r.2.2,1)):=by
 unfold qw n6
 rw[uD (Pol.pp hx hy),xlr,Fra.xcx (Pol.pp hx hy),Prod.ext_iff]
theorem nK {α:Type}(f:α→Tr)(l:List α)(d:α):qy (l.map f)=(List.range l.length).map fun i=>.tup [.int (i:Nat),f (l.getD i d)]:=by
 apply List.ext_getElem?
 intro i
 by_cases h:i<l.length
 ·have e1:i<(qy (l.map f)).length:=by rw[jN];exact h
  obtain⟨v,hv,e⟩:=rT (xki e1)
  rw[xki e1,e,xkl,List.getElem?_range h]
  simp[xkf,hv]
 ·rw[xkj (by rw[jN];omega),xkj (by simp;omega)]
theorem getD_mem {α:Type}{l:List α}{i:Nat}(d:α)(h:i<l.length):l.getD i d∈l:=by
 rw[xkf,xki h];exact xkp h
def bY:TSp:=fun ts KK=>∃(r:Pol.R3) (p:P2),ts=[trR r,pT p]∧B3k 200 r∧Pk 600 p∧KK (.bl (qw r p))
theorem tJ (h:uE rows):(uo rows).length≤900:=h.ring.len
end L2
namespace L2
open PySem PySem.Spec PyProof.Rows
def xd_:TSp:=fun ts KK=>∃(r:Pol.R3) (p:P2),ts=[trR r,pT p]∧B3k 200 r∧Pk 600 p∧KK (.bl (wD r p))
theorem uE.pk2 {rows:List Pol.R3}(h:uE rows){v:Pol.R3}(hv:v∈uo rows):Pk 100 (plc v):=by
 have:=h.corner hv
 have:=xaY this.1.1 this.2
 exact⟨this.1.mono (by decide),this.2.mono (by decide)⟩
theorem uE.pk {rows:List Pol.R3}(h:uE rows){v:Pol.R3}(hv:v∈uo rows):Pk 600 (plc v):=⟨(h.pk2 hv).1.mono (by decide),(h.pk2 hv).2.mono (by decide)⟩
end L2
namespace L2
open PySem PySem.Spec PyProof.Rows
theorem uH.get (x:uH P w H h a o):∃ob,h.get? a=some ob:=by
 cases o with
 | lst xs=>obtain⟨_,_,_,_,e⟩:=x;exact⟨_,e⟩
 | tup xs=>obtain⟨_,_,_,_,e,_⟩:=x;exact⟨_,e⟩
 | dK kvs=>obtain⟨_,_,_,_,o,_,_,e,_⟩:=x;exact⟨_,e⟩
 | dT kvs=>obtain⟨_,_,_,_,o,_,_,e,_⟩:=x;exact⟨_,e⟩
 | set S n=>obtain⟨o,_,_,_,e,_⟩:=x;exact⟨_,e⟩
 | ins C dx fs=>obtain⟨_,_,_,e,_⟩:=x;exact⟨_,e⟩
 | own y=>exact x
 | xd fs=>obtain⟨_,⟨_,_,_,e,_⟩,_⟩:=x;exact⟨_,e⟩
 | rng lo hi=>obtain⟨_,_,_,e⟩:=x;exact⟨_,e⟩
 | frz ob u=>obtain⟨e,_⟩:=x;exact⟨_,e⟩
 | tbl ps=>exact⟨_,x⟩
 | tb q=>obtain⟨_,e,_⟩:=x;exact⟨_,e⟩
 | met f y=>exact⟨_,x⟩
 | ext φ=>obtain⟨_,e,_⟩:=x;exact e
structure Fl (P:Program)(w:World)(outer:List Env)(H:Hp)(s:Shared)(ea C:Addr)(H':Hp)(s':Shared):Prop where
 os:s'.os=s.os
 bare:AllBare s'.gens
 un:Un (frs outer) [] H H' s.heap s'.heap
 hok:HOk P w H' s'.heap
 fly:∃(B:Heap) (t:Addr),Heap.FlyingW B outer ea (.ref C) (.ref t) s'.heap∧(∀b o,s.heap.get? b=some o→H b=none→b∉frs outer→B.get? b=some o) ∧
  (∀b o,s.heap.get? b=some o→b∉frs outer→∃o',B.get? b=some o')∧∀b u,H' b=some u→∃o,B.get? b=some o
def CXE (P:Program)(w:World):CXT:=fun outer H s E e s'=>∃ea C H',e=.ref ea∧Fl P w outer H s ea C H' s'∧E (.ref C) none H'
section
variable {P:Program} {w:World} {K:PySem.W.Frag} {mg:Str→Option Value} {base:Heap} {N:List Str} {qual:Str} {scope:Scope} {f:Addr} {cd:Value} {A:Around} {outer:List Env} {s:Shared} {H H':Hp} {E:XK}
theorem HOk.of_fly {h h' B:Heap}(x:HOk P w H' h)(k:B.StaysIn h)(k':B.StaysIn h')(tr:∀b u,H' b=some u→∃o,B.get? b=some o):HOk P w H' h':=fun a o e=>by
 refine(x a o e).stay (fun b u hb q=>?_) (fun _ q=>q) (fun _ _ q=>q) fun _ _ _ q=>q
 have:∃u,H' b=some u:=by
  rcases hb with rfl | hb
  ·exact⟨_,e⟩
  ·exact⟨_,hb⟩
 obtain⟨v,hv⟩:=this
 obtain⟨o',ho⟩:=tr b v hv
 have:=k b o' ho
 rw[q] at this;cases this
 exact k' b _ ho
theorem Inv.old (I:Inv X pins σ H1 s1)(e:X.s₀.heap.get? b=some o):b≠X.env.locals:=xlm (xlg (Heap.lt_size e) I.ok.above)
theorem p9 (hf:env.frame=some L)(l:List Env):frs (env::l)=L::frs l:=by unfold frs;rw[xj9,hf]
theorem xgF {X:Cx}(hst:X.stack=X.env::X.outer)(hfr:X.env.frame=some X.env.locals)(hex:X.ex=[])
  (hxe:∀e s',wpAny (model X.prog X.w) X.A (leaving X.env e) (fun _ s''=>CXE X.prog X.w X.outer X.H₀ X.s₀ E e s'') (fun e' s''=>CXE X.prog X.w X.outer X.H₀ X.s₀ E e' s'') s'→X.xe e s'):a_ (CXE X.prog X.w) X E:=by
 intro pins σ H1 s1 e s' I h
 obtain⟨ea,C,H2,rfl,⟨os,bare,un,hok,B,t,fl,kB,tB,trB⟩,q⟩:=h
 have hx:∀b,b∉X.ex:=fun b z=>by rw[hex] at z;exact absurd z (by simp)
 have ne:∀b o,X.s₀.heap.get? b=some o→b∉frs X.outer→b∉frs X.stack:=fun b o e nb z=>by
  rcases xkJ.mp (I.stkSub b z) with z | z
  ·exact I.old e z
  ·exact nb z
 have inS:∀b,b∈frs X.outer→b∈frs X.stack:=fun b hb=>by rw[hst,p9 hfr];exact xkK _ hb
 have fr:X.A.frames=some (X.env::X.outer):=by rw[←hst];exact I.ok.frames
 have fl0:=fl
 rw[hst] at fl
 refine hxe _ _ (wpAny_leaves_onW (L:=X.env.locals) fr hfr fl fun h' fl' up=>⟨ea,C,H2,rfl,⟨os.trans I.os,bare,?_,hok.of_fly fl.1 fl'.1 trB,B,t,fl',fun b o e n nb=>?_,fun b o e nb=>?_,trB⟩,q⟩)
 ·refine⟨fun b o e n nb _=>?_,fun b o e n hb _=>?_,fun b o e n _=>?_,fun b o e _=>?_,fun b xs e=>un.tups b xs (I.base.tups b xs e),fun b o u e=>un.frzs b o u (I.base.frzs b o u e),fun b ps e=>?_⟩
  ·exact fl'.1 b o (kB b o (I.base.keep b o e n nb (hx b)) (I.base.free b o e n (hx b)) (ne b o e nb))
  ·obtain⟨sl,e1⟩:=I.base.slot b o e n hb (hx b)
   obtain⟨sl2,e2⟩:=un.slot b _ e1 (I.base.free b o e n (hx b)) (inS b hb) (by simp)
   obtain⟨_,o',ho',hnf⟩:=I.ok.funs.mem hb
   rw[e] at ho';cases ho'
   obtain⟨sl3,e3⟩:=up b _ e2 hnf
   exact⟨sl3,e3⟩
  ·obtain⟨o',e1⟩:=I.base.there b o e (hx b)
   exact un.free b o' e1 (I.base.free b o e n (hx b)) (by simp)
  ·by_cases nb:b∈frs X.outer
   ·have n:X.H₀ b=none:=I.ok.frf b nb
    obtain⟨_,o3,ho3,hnf⟩:=I.ok.funs.mem nb
    rw[e] at ho3;cases ho3
    obtain⟨sl,e1'⟩:=I.base.slot b o e n nb (hx b)
    obtain⟨sl2,e2'⟩:=un.slot b _ e1' (I.base.free b o e n (hx b)) (inS b nb) (by simp)
    obtain⟨sl3,e3⟩:=up b _ e2' hnf
    exact⟨_,e3⟩
   ·obtain⟨o',e1⟩:=I.base.there b o e (hx b)
    obtain⟨o2,e2⟩:=tB b o' e1 (ne b o e nb)
    exact⟨o2,fl'.1 b o2 e2⟩
  ·obtain⟨m1,e1⟩:=I.base.tbls b ps e
   obtain⟨m2,e2⟩:=un.tbls b _ e1
   exact⟨m1++m2,by rw[e2,Array.append_assoc]⟩
 ·exact kB b o (I.base.keep b o e n nb (hx b)) (I.base.free b o e n (hx b)) (ne b o e nb)
 ·obtain⟨o',e1⟩:=I.base.there b o e (hx b)
  exact tB b o' e1 (ne b o e nb)
theorem xf4 {pins:List (Addr×Obj)}{σ:St}{H1:Hp}{s1:Shared}{h1:Heap}{ea C:Addr}{vs:List Value}(I:Inv (dm (CXE P w) P w K mg base N qual scope f cd A outer s H E) pins σ H1 s1)(hm:Heap.MadeExcOf s1.heap h1 ea (.ref C) vs)(q:E (.ref C) none H1) :
  (dm (CXE P w) P w K mg base N qual scope f cd A outer s H E).xe (.ref ea) { s1 with heap:=h1 }:=by
 have hx:∀b,b∉(dm (CXE P w) P w K mg base N qual scope f cd A outer s H E).ex:=fun b z=>absurd (show b∈([]:List Addr) from z) (by simp)
 let fs:=frs (dm (CXE P w) P w K mg base N qual scope f cd A outer s H E).stack
 have ne:∀b o,s.heap.get? b=some o→b∉frs outer→b∉fs:=fun b o e nb z=>by
  rcases xkJ.mp (I.stkSub b z) with z | z
  ·exact I.old e z
  ·exact nb z
 have hB:(PySem.W.hideAll s1.heap fs).StaysIn s1.heap:=fun b o e=>PySem.W.of_hideAll _ e
 have inB:∀b o,s1.heap.get? b=some o→b∉fs→(PySem.W.hideAll s1.heap fs).get? b=some o:=fun b o e n=>PySem.W.hideAll_get _ e n
 show wpAny (model P w) _ (leaving _ (.ref ea)) _ _ _
 refine wpAny_leaves_madeW (base:=PySem.W.hideAll s1.heap fs) (h:=s1.heap) (L:=s.heap.objs.size) I.ok.frames rfl hB (PySem.W.funFrames_hide I.stack fun env he b hb=>xkN.mpr ⟨env,he,hb⟩) hm
  fun h' t fl _ _ up=>⟨ea,C,H1,rfl,⟨I.os,I.bare,?_,?_,_,t,fl,fun b o e n nb=>?_,fun b o e nb=>?_,fun b u e=>?_⟩,q⟩
 ·refine⟨fun b o e n nb _=>?_,fun b o e n hb _=>?_,fun b o e n _=>?_,fun b o e _=>?_,I.base.tups,I.base.frzs,I.base.tbls⟩
  ·exact fl.1 b o (inB b o (I.base.keep b o e n nb (hx b)) (ne b o e nb))
  ·obtain⟨sl,e1⟩:=I.base.slot b o e n hb (hx b)
   obtain⟨_,o',ho',hnf⟩:=I.ok.funs.mem hb
   have ho':s.heap.get? b=some o':=ho'
   rw[e] at ho';cases ho'
   obtain⟨sl3,e3⟩:=up b _ (hm.keeps b _ e1) hnf
   exact⟨sl3,e3⟩
  ·exact I.base.free b o e n (hx b)
  ·by_cases nb:b∈frs outer
   ·have n:H b=none:=I.ok.frf b nb
    obtain⟨sl,e1⟩:=I.base.slot b o e n nb (hx b)
    obtain⟨_,o',ho',hnf⟩:=I.ok.funs.mem nb
    have ho':s.heap.get? b=some o':=ho'
    rw[e] at ho';cases ho'
    obtain⟨sl3,e3⟩:=up b _ (hm.keeps b _ e1) hnf
    exact⟨_,e3⟩
   ·obtain⟨o',e1⟩:=I.base.there b o e (hx b)
    exact⟨o',fl.1 b o' (inB b o' e1 (ne b o e nb))⟩
 ·refine I.hok.of_fly hB fl.1 fun b u e=>?_
  obtain⟨o,ho⟩:=(I.hok b u e).get
  exact⟨o,inB b o ho fun z=>by rw[I.stkFree b z] at e;cases e⟩
 ·exact inB b o (I.base.keep b o e n nb (hx b)) (ne b o e nb)
 ·obtain⟨o',e1⟩:=I.base.there b o e (hx b)
  exact⟨o',inB b o' e1 (ne b o e nb)⟩
 ·obtain⟨o,ho⟩:=(I.hok b u e).get
  exact⟨o,inB b o ho fun z=>by rw[I.stkFree b z] at e;cases e⟩
def xdZ (E:XK)(C:Addr)(t:TA):TS:=fun _ σ H=>t σ H fun vs H1=>vs.length≤sizeLine∧E (.ref C) none H1
theorem xdR {x:Str}{C:Addr}{e₀:Expr}{rest:List Expr}{np cpos pos:Pos}{t:TA}{bm:List Value}(O:OwnCls x C bm "ValueError.__new__" mg base)(FB:ExcBaseFacts "ValueError" "ValueError.__new__" "ValueError.__init__" bm)
  (ha:PA (dm (CXE P w) P w K mg base N qual scope f cd A outer s H E) (e₀::rest) t)
  (hg:Gl (dm (CXE P w) P w K mg base N qual scope f cd A outer s H E) x:=by rfl) (hdb:(x == ("__debug__" : Str))=false:=by decide)
  (he:starEach (e₀::rest) (dm (CXE P w) P w K mg base N qual scope f cd A outer s H E).env=(false,eval e₀ (dm (CXE P w) P w K mg base N qual scope f cd A outer s H E).env)::starEach rest (dm (CXE P w) P w K mg base N qual scope f cd A outer s H E).env:=by rfl)
  (hpl:(backTo cpos (starEach rest (dm (CXE P w) P w K mg base N qual scope f cd A outer s H E).env)).any (·.1)=false:=by rfl) :
  PS (dm (CXE P w) P w K mg base N qual scope f cd A outer s H E) (.Raise (some (.Call (.Name x np) (e₀::rest) [] cpos)) none pos) (xdZ E C t):=by
 intro pins s1 σ H1 D I h
 obtain⟨tl,N',nm,q,bs,hdct,sn,sub,ab,col,dd,k0,k1,k2,k3,k5,mN,hC,hN,hni,T⟩:=O.obj
 refine wpAny_Raise_call_subT (C:=C) (nm:=nm) (q:=q) (N:=N') (bs:=bs) (bm:=tl) (hdct:=hdct) (sn:=sn) (sub:=sub) (ab:=ab) (col:=col) (dd:=dd) (k0:=k0) (k1:=k1) (k2:=k2) (k3:=k3) (k5:=k5)
  FB (mN:=mN) (T.hasType FB.hasBase) (I.ok.hd rfl) (by rw[he];show(false || (backTo cpos (starEach rest _)).any (·.1))=false;rw[hpl];rfl) hni (fW I hg O.bound ⟨rfl,?_⟩ hdb)
 have h2:=@ha cpos pins s1 σ H1 _ I h
 rw[he] at h2 ⊢
 refine Calls.evalArgs_plain (wpAny_mono h2 (fun us s2 ⟨vs,H2,I2,r,z,q⟩=>⟨rfl,by rw[←r.length];exact z,I2.bk _ _ hC,hN.keeps I2.bk,T.keeps I2.bk,fun h' e hm=>xf4 I2 hm q⟩) fun _ _ y=>y)
structure xd0 (P:Program)(w:World)(K:PySem.W.Frag)(mg:Str→Option Value)(base:Heap)(k:Nat)(x:Str)(ps:List Str)(sp:Sp):Prop where
 ex:∃(f:Addr) (fd:FuncData),aM P w K mg base (CXE P w) k f fd ps sp∧Binds K fd ps []∧PySem.W.keepIn K (.ref f)=true∧mg x=some (.ref f)
theorem xd0.mono (h:xd0 P w K mg base j x ps sp)(hjk:j≤k):xd0 P w K mg base k x ps sp:=by
 obtain⟨f,fd,F,b,kp,m⟩:=h.ex
 exact⟨f,fd,F.mono hjk,b,kp,m⟩
end
def xe5 (sp:Sp)(E:XK)(t:TA):TE:=fun σ H Q=>t σ H fun vs H1=>sp vs H1 Q E
theorem xcu (h:xd0 X.prog X.w X.K X.mg X.base j x ps sp)(hr:jg k X.A)(hx:a_ (CXE X.prog X.w) X E)(ha:PA X (e::es) t)(hjk:j≤k:=by decide)(hg:Gl X x:=by rfl)
  (hdb:(x == ("__debug__" : Str))=false:=by decide) (he:starEach (e::es) X.env=(false,eval e X.env)::starEach es X.env:=by rfl) (hpl:(backTo pos (starEach es X.env)).any (·.1)=false:=by rfl) :
  PE X (.Call (.Name x p) (e::es) [] pos) (xe5 sp E t):=by
 obtain⟨f,fd,F,b,kp,m⟩:=(h.mono hjk).ex
 intro pins s σ H Q I q
 refine xa2 (E:=E) F hr hg m kp b .nil hx ha hdb he hpl s σ H Q I ?_
 have e:(fun(vs:List V) (H1:Hp)=>sp (vs++[]) H1 Q E)=fun vs H1=>sp vs H1 Q E:=by
  funext vs H1;rw[xj5]
 show t σ H fun vs H1=>sp (vs++[]) H1 Q E
 rw[e];exact q
theorem gi:PSs X b o9:=fun _ _ _ _ _ _ h=>h.elim
theorem xeO {P:Program}{w:World}{K:PySem.W.Frag}{mg:Str→Option Value}{base:Heap}{k:Nat}{x qual:Str}{st:Stmt}{f:Addr}{fd:FuncData}{N ps:List Str}{sp:Sp}(F:Fun K x qual st f fd)(S:xA N ps (xf st))(mgx:mg x=some (.ref f))(b:Binds K fd ps [])
  (len:∀vs H Q E,sp vs H Q E→vs.length=ps.length)
  (body:∀(cdv:Value) (A:Around) (outer:List Env) (s:Shared) (H:Hp) (vs:List V) (Q:VK) (E:XK),jg k (A.deeper (envOfC qual (xf st) s.heap.objs.size f cdv))→sp vs H Q E →
   ∃t,PSs (dm (CXE P w) P w K mg base N qual (xf st) f cdv A outer s H E) (zj st) t∧t { nx:=fun _ H'=>Q .non H',rt:=Q } (start N vs) H):xd0 P w K mg base (k+1) x ps sp:=by
 have kp:=F.kp
 obtain⟨oc,od,kV,doc,pm,an,cdv,ct,osl,rfl,lk,hcd⟩:=F.ex
 exact⟨f,_,xe6 lk hcd S len fun A outer s H vs Q E hr hsp=>body cdv A outer s H vs Q E hr hsp,b,kp,mgx⟩
end L2
namespace L2
open PySem PySem.Spec PySem.Calls PyProof.Rows
structure lZ (K:PySem.W.Frag)(C:Addr):Prop where
 ga:PySem.W.findIn K (.ref C) "__getattribute__" = some (some (.builtin "BaseException.__getattribute__"))
 gt:PySem.W.findIn K (.ref C) "__getattr__" = some none
 cl:PySem.W.findIn K (.ref C) "__class__" = some (some (.builtin "object.__class__"))
 sp:PySem.W.specialIn K (.builtin "object.__class__") "__get__" = some (some (.builtin "getset_descriptor.__get__"))
 tk:PySem.W.takesIn K (.builtin "object.__class__")=some true
 mo:PySem.W.mroIn K C (.type "object")=some true
 mb:PySem.W.mroIn K C (.type "BaseException")=some true
 hd:PySem.W.hasDictIn K C=true
def xdI (a C:Addr)(h:Heap):Prop:=∃o,h.get? a=some o∧o.cls=.ref C
section
variable {prog:Program} {w:World} {A:Around} {E:Value→Shared→Prop} {s:Shared} {K:PySem.W.Frag} {ea C:Addr}
theorem xdI.ty (I:xdI ea C h):PySem.W.Looks M h (typeOf (.ref ea)) (.ref C):=by
 obtain⟨o,h1,h2⟩:=I
 rw[←h2]
 exact(PySem.W.Looks.ld h1).andThen .now
theorem xfC (Z:lZ K C)(X:K.In h):PySem.W.Looks M h (Builtin.ObjectAttr.find (.ref ea) (.ref C) "__class__") (.bind (.builtin "getset_descriptor.__get__") (.builtin "object.__class__")):=by
 have l1:=PySem.W.looks_findIn (M:=M) X Z.cl
 have l2:PySem.W.Looks M h (Builtin.ObjectAttr.getOf (some (.builtin "object.__class__"))) (some (.builtin "getset_descriptor.__get__")):=PySem.W.looks_specialIn X Z.sp
 have l3:=PySem.W.looks_takesIn (M:=M) X Z.tk
 have l4:PySem.W.Looks M h (Builtin.ObjectAttr.dataDescriptor? (some (.builtin "object.__class__")) (some (.builtin "getset_descriptor.__get__"))) (some (.builtin "getset_descriptor.__get__", .builtin "object.__class__")):=l3.andThen .now
 exact l1.andThen (l2.andThen (l4.andThen (PySem.W.Looks.tag .now)))
theorem xfX (Z:lZ K C)(X:K.In s.heap)(I:xdI ea C s.heap)(hq:R (.ok (.ret (.ref C))) s) :
  codeAny (model prog w) A (.call (.builtin "getset_descriptor.__get__") ⟨[.builtin "object.__class__", .ref ea,tp],[]⟩) R s:=by
 have l0:=I.ty (M:=model prog w)
 have l1:=PySem.W.looks_mroIn (M:=model prog w) X Z.mo
 obtain⟨hh,gg,dd,tt,oo⟩:=s
 refine codeAny_call_builtin PySem.W.KF.slot_gs.plain PySem.W.KF.entry_gs ?_
 refine PySem.W.KF.slot_gs.check _ _ _ _ _ _ _ _ PySem.W.KF.type_class (PySem.W.KF.args_gs _ _ _) ?_
 unfold Builtin.«getset_descriptor.__get__» Builtin.Getset_descriptor.descrGet
 rw[PySem.W.dga_obj]
 refine wpAny_bind (wpAny_pure ?_)
 unfold Builtin.Getset_descriptor.descrGetter Builtin.Getset_descriptor.descrCheckInstance Builtin.Getset_descriptor.descrNameAndClass isInstance
 simp only[PySem.W.KF.owner_class]
 repeat lk
 refine⟨Code.quiet_builtin _ (by decide +kernel),?_⟩
 refine codeAny_builtin PySem.W.KF.entry_class ?_
 unfold Builtin.«object.__class__» shownTypeOf
 repeat lk
 exact hq
theorem xcJ {tk:Tok}{Q:Fin→Shared→Prop}(Z:lZ K C)(X:K.In s.heap)(I:xdI ea C s.heap)(hq:Q (.done (.ret (.ref C))) s) :
  wpAny (model prog w) A (Builtin.«object.__getattribute__» ⟨[.ref ea,.str "__class__" tk],[]⟩) Q E s:=by
 obtain⟨h,g,d,t,os⟩:=s
 have L0:=I.ty (M:=model prog w)
 have L1:=xfC (M:=model prog w) (ea:=ea) Z X
 unfold Builtin.«object.__getattribute__»
 refine wpAny_bind (wpAny_pure ?_)
 refine wpAny_bind (wpAny_pure ?_)
 refine wpAny_bind (L0.at ?_)
 refine wpAny_bind (L1.at ?_)
 show wpAny _ _ (holding [Value.builtin "object.__class__"] (call (.builtin "getset_descriptor.__get__") [.builtin "object.__class__", .ref ea,.ref C]) >>= ret) _ _ _
 refine wpAny_bind (wpAny_holding (wpAny_call (xfX Z X I ?_)))
 exact wpAny_pure hq
theorem xdz (Z:lZ K C)(X:K.In s.heap)(I:xdI ea C s.heap)(hq:Q () s):wpAny (model prog w) A (checkBuiltinCall "BaseException.__getattribute__" ⟨[.ref ea,nameV],[]⟩) Q E s:=by
 have b1:builtinKind "BaseException.__getattribute__" = some .slot:=by decide +kernel
 have b2:splitId "BaseException.__getattribute__" = some ("BaseException", "__getattribute__"):=by decide +kernel
 have b3:=F.args_bexc_ga (.ref ea) nameV
 have L0:=I.ty (M:=model prog w)
 have L1:PySem.W.Looks (model prog w) s.heap (isInstance (.ref ea) (.type "BaseException")) true:=L0.andThen (PySem.W.looks_mroIn (M:=model prog w) X Z.mb)
 obtain⟨h,g,d,t,os⟩:=s
 simp only[checkBuiltinCall,b1,b2]
 refine wpAny_bind (L1.at ?_)
 repeat (first | exact hq | wp_step)
theorem xeY {tk:Tok}{R:Result→Shared→Prop}(Z:lZ K C)(X:K.In s.heap)(I:xdI ea C s.heap)(hq:R (.ok (.ret (.ref C))) s) :
  codeAny (model prog w) A (.call (.builtin "BaseException.__getattribute__") ⟨[.ref ea,.str "__class__" tk],[]⟩) R s :=
 codeAny_call_builtin F.attr_ValueError.ga.plain F.entry_bexc_ga (xdz Z X I (xcJ Z X I hq))
theorem xc0 (Z:lZ K C)(X:K.In s.heap)(I:xdI ea C s.heap)(h:Q (some (.ref C)) { s with toks:=s.toks+1 }):wpAny (model prog w) A (getAttr? (.ref ea) "__class__") Q E s:=by
 obtain⟨hh,g,d,t,os⟩:=s
 have L0:=I.ty (M:=model prog w)
 have L1:=PySem.W.looks_findIn (M:=model prog w) X Z.ga
 have L2:=PySem.W.looks_findIn (M:=model prog w) X Z.gt
 unfold getAttr? getAttrBy? getAttrBy
 refine wpAny_bind (wpAny_mkText (wpAny_bind (wpAny_attempt (wpAny_holding ?_))))
 refine wpAny_bind (L0.at (wpAny_bind (L1.at ?_)))
 show wpAny _ _ (getAttrByItsOwn _ _ _ _ _ _) _ _ _
 unfold getAttrByItsOwn
 refine wpAny_bind (L2.at ?_)
 refine wpAny_bind (wpAny_attempt (wpAny_holding ?_))
 show wpAny _ _ (boundAndCalled _ _ _) _ _ _
 unfold boundAndCalled
 rw[F.attr_ValueError.ga.bind (.ref ea)]
 refine wpAny_bind (wpAny_pure (wpAny_call (xeY (s:=⟨hh,g,d,t+1,os⟩) Z X I ?_)))
 exact PySem.W.handed_on rfl (wpAny_pure h)
theorem xdd (Z:lZ K C):PySem.W.KitX K (.ref ea) (.ref C) (xdI ea C):=by
 have there:∃c d cd sl,K.lookup C=some ⟨c,d,.cls cd,sl⟩:=by
  obtain⟨cdD,hcD,_⟩:=PySem.W.any_some Z.hd
  unfold PySem.W.clsIn at hcD
  split at hcD
  ·rename_i ho
   exact⟨_,_,_,_,ho⟩
  ·cases hcD
 obtain⟨c,d,cd,sl,ho⟩:=there
 refine⟨fun _ _ _ I=>I.ty,fun _ _ X _ A' Q' E' s' k q=>?_,fun h tp dd its n sl' X htp=>?_,fun X I k=>xc0 Z X I k⟩
 ·unfold isType loadHead
  exact wpAny_bind (wpAny_loadPart (k _ _ (X _ _ ho)) (wpAny_pure q))
 ·refine Bool.eq_false_iff.mpr fun q=>?_
  have e:C=tp:=Value.ref.inj (beq_iff_eq.mp q)
  subst e
  have z:=(X _ _ ho).symm.trans htp
  cases z
end
end L2
namespace L2
open PySem PySem.Spec PySem.Calls PyProof.Rows
section
variable {P:Program} {w:World}
theorem xf5 {st:List Env}{H H':Hp}{s s':Shared}{B h':Heap}(un:Un (frs st) [] H H' s.heap s'.heap)(kB:∀b o,s.heap.get? b=some o→H b=none→b∉frs st→B.get? b=some o)
  (tB:∀b o,s.heap.get? b=some o→b∉frs st→∃o',B.get? b=some o') (hff:s'.heap.FunFrames B st) (hB:B.StaysIn h') (up:s'.heap.UpToSlots h'):Un (frs st) [] H H' s.heap h' where
 keep:=fun b o e n nb _=>hB b o (kB b o e n nb)
 slot:=fun b o e n hb hx=>by
  obtain⟨sl,e1⟩:=un.slot b o e n hb hx
  obtain⟨_,o',ho',hnf⟩:=hff.mem hb
  rw[e1] at ho';cases ho'
  obtain⟨sl2,e2⟩:=up b _ e1 hnf
  exact⟨sl2,e2⟩
 free:=un.free
 there:=fun b o e hx=>by
  by_cases nb:b∈frs st
  ·obtain⟨_,o',ho',hnf⟩:=hff.mem nb
   obtain⟨sl2,e2⟩:=up b _ ho' hnf
   exact⟨_,e2⟩
  ·obtain⟨o2,e2⟩:=tB b o e nb
   exact⟨o2,hB b o2 e2⟩
 tups:=un.tups
 frzs:=un.frzs
 tbls:=un.tbls
variable {X:Cx} {pins:List (Addr×Obj)} {σ:St} {H H':Hp} {s s':Shared} {ea C:Addr}
theorem Inv.pinX (I:Inv X pins σ H s)(h1:s.heap.get? p.1=some p.2)(h2:H p.1=none)(h3:p.1≠X.env.locals)(h4:p.1∉X.fs)(h5:∀v,p.2.data≠.cell v):Inv X (p::pins) σ H s :=
 ⟨I.ok,I.os,I.bare,I.base,I.loc,I.cell,I.free,I.freeC,fun q hq=>by
  rcases xkG.mp hq with z | z
  ·exact I.pin q (xkH _ z)
  ·rcases xkJ.mp z with rfl | z
   ·exact⟨h1,h2,h3,h4,h5⟩
   ·exact I.pin q (xkI _ z),I.hok,I.len⟩
abbrev Cx.marked (X:Cx)(e:Value):Cx:={ X with A:=X.A.mark (some e),calm:=false,xe:=fun _ _=>False }
theorem Inv.marked (I:Inv X pins σ H s):Inv (X.marked e) pins σ H s :=
 ⟨⟨I.ok.mod,I.ok.kind,I.ok.glob,I.ok.blt,I.ok.above,I.ok.inj,I.ok.has,I.ok.cab,(fun z=>nomatch z),I.ok.frames,I.ok.stk,I.ok.exf,I.ok.bs,I.ok.bsz,I.ok.noex,I.ok.exfs,I.ok.funs,I.ok.frf⟩,
  I.os,I.bare,I.base,I.loc,I.cell,I.free,I.freeC,I.pin,I.hok,I.len⟩
theorem Inv.unmarked (I:Inv (X.marked e) pins σ H s)(hd:X.calm=true→X.A.handled=none):Inv X pins σ H s :=
 ⟨⟨I.ok.mod,I.ok.kind,I.ok.glob,I.ok.blt,I.ok.above,I.ok.inj,I.ok.has,I.ok.cab,hd,I.ok.frames,I.ok.stk,I.ok.exf,I.ok.bs,I.ok.bsz,I.ok.noex,I.ok.exfs,I.ok.funs,I.ok.frf⟩,
  I.os,I.bare,I.base,I.loc,I.cell,I.free,I.freeC,I.pin,I.hok,I.len⟩
theorem Inv.nsX (I:Inv X pins σ H s)(hs:Heap.SameBut X.env.locals s.heap h')(hn:h'.Ns X.env.locals m')
  (hl:∀(i:Nat) (x:Str) (v:V),X.N[i]? = some x→σ'[i]? = some (some v)→Vis X.env.scope x→∃u,RelV v u∧Look X.env h' m' x u) (len:σ'.length=X.N.length):Inv X pins σ' H { s with heap:=h',toks:=t' }:=by
 refine⟨I.ok,I.os,I.bare,⟨fun b o e n hb hx=>?_,fun b o e n hb hx=>?_,I.base.free,fun b o e hx=>?_,I.base.tups,I.base.frzs,I.base.tbls⟩,⟨m',hn,hl⟩,fun x c e=>?_,I.free,I.freeC,fun p hp=>?_,fun a o e=>?_,len⟩
 ·exact(hs.2 b (I.old e)).trans (I.base.keep b o e n hb hx)
 ·obtain⟨sl,q⟩:=I.base.slot b o e n hb hx
  exact⟨sl,(hs.2 b (I.old e)).trans q⟩
 ·obtain⟨o',q⟩:=I.base.there b o e hx
  exact⟨o',(hs.2 b (I.old e)).trans q⟩
 ·obtain⟨v,o,ho,hd⟩:=I.cell x c e
  exact⟨v,o,(hs.2 c (I.cne x c e)).trans ho,hd⟩
 ·obtain⟨p1,p2,p3,p4⟩:=I.pin p hp
  exact⟨(hs.2 _ p3).trans p1,p2,p3,p4⟩
 ·refine(I.hok a o e).stay (fun b u hb q=>(hs.2 b ?_).trans q) (fun _ q=>q) (fun _ _ q=>q) fun _ _ _ q=>q
  rintro rfl
  rcases hb with rfl | hb
  ·rw[I.free] at e;cases e
  ·rw[I.free] at hb;cases hb
theorem xb4 {cx n z:Str}{i j:Nat}{D:Addr}{np zp np2 ap hp:Pos}{Q:Flow→Shared→Prop}{E:Value→Shared→Prop}(hst:X.stack=X.env::X.outer)(hfr:X.env.frame=some X.env.locals)(hN:X.N.Nodup)(hi:X.N[i]? = some n)(hj:X.N[j]? = some z)
  (hn:X.env.scope.names.lookup n=some .local) (hz:Loc X.env.scope z) (hzf:X.fn z=true) (hg:Gl X cx) (hm:X.mg cx=some (.ref D)) (hx:PySem.W.exmOne X.K (.ref C) (.ref D)=some true)
  (hsw:swapsWith (.Name n np2) (some (.Name z zp)) ap.line X.env=pure false) (hdn:(n == ("__debug__" : Str))=false) (hcn:(n == ("__classdict__" : Str))=false) (hdb:(cx == ("__debug__" : Str))=false)
  (I:Inv X pins σ H s) (F:Fl X.prog X.w X.stack H s ea C H' s')
  (k:∀oe s2,Inv X ((ea,oe)::pins) (((σ.set i (some (.ref ea))).set j (some (.ref ea))).set i none) H' s2→oe.cls=.ref C→Q .next s2) :
  wpAny (model X.prog X.w) X.A (noteFrame (.ref ea) X.env) (fun _ s₂=>wpAny (model X.prog X.w) X.A (setFlight (.ref ea) none) (fun _ s₃ =>
   wpAny (model X.prog X.w) X.A (handleBy (.ref ea) X.env [.ExceptHandler (some (.Name cx np)) (some n) [.Assign [.Name z zp] (.Name n np2) ap] hp]) Q E s₃) E s₂) E s':=by
 obtain⟨os,bare,un,hok,B,t,fl,kB,tB,trB⟩:=F
 have fr:X.A.frames=some (X.env::X.outer):=by rw[←hst];exact I.ok.frames
 have fl0:=fl
 have inv:∀h,Heap.FlyingW B X.stack ea (.ref C) (.ref t) h→s'.heap.UpToSlots h→Inv X pins σ H' { s' with heap:=h }:=fun h f2 up =>
  I.call' (s':={ s' with heap:=h }) (ch:=[]) os (xf5 un kB tB fl0.2.2.1 f2.1 up) (hok.of_fly fl0.1 f2.1 trB) bare (fun b z=>absurd z (by simp))
 have isof:∀h,Heap.FlyingW B X.stack ea (.ref C) (.ref t) h→xdI ea C h:=fun h f2=>f2.there
 rw[hst] at fl
 refine wpAny_looks_onW fr hfr fl fun h4 held4 up4=>?_
 refine wpAny_landsW held4 fun h5 fl5 up5=>?_
 have up45:=up4.trans up5
 have fl5':Heap.FlyingW B X.stack ea (.ref C) (.ref t) h5:=by rw[hst];exact fl5
 have I5:=inv h5 fl5' up45
 refine wpAny_handleBy_cons (codeAny_handlers_test ?_) (by intro q;cases q)
 refine fW (X:=X.marked (.ref ea)) (s:={ s' with heap:=h5 }) I5.marked hg hm ?_ hdb
 refine PySem.W.Looks.here (s:={ s' with heap:=h5 }) (PySem.W.exm_one (K:=X.K) I5.kIn (isof h5 fl5').ty hx) ?_
 show codeAny _ _ (.handlers _ _ X.env) _ _
 refine codeAny_handlers_suite_as ?_
 refine lands_againW fl5 fun h6 fl6 up6=>?_
 have fl6':Heap.FlyingW B X.stack ea (.ref C) (.ref t) h6:=by rw[hst];exact fl6
 have I6:=(inv h6 fl6' (up45.trans up6)).marked (e:=.ref ea)
 have hea:H' ea=none:=by
  cases q:H' ea with
  | none=>rfl
  | some u =>
   obtain⟨o,ho⟩:=trB ea u q
   rw[fl0.2.1] at ho;cases ho
 obtain⟨oe,vs,hoe,hcl,hda,_⟩:=fl6'.first
 have nL:ea≠X.env.locals:=fun q=>by
  obtain⟨m,⟨o,es,ep,ho,hd',_⟩,_⟩:=I6.loc
  have ho:h6.get? X.env.locals=some o:=ho
  rw[←q,hoe] at ho;cases ho;rw[hda] at hd';cases hd'
 have nF:ea∉X.fs:=fun q=>by
  have q2:ea∈frs X.stack:=by rw[hst,p9 hfr];exact xkK _ q
  obtain⟨_,o,ho,hnf⟩:=fl6'.2.2.1.mem q2
  rw[hoe] at ho;cases ho;exact hnf vs hda
 have I6p:Inv (X.marked (.ref ea)) ((ea,oe)::pins) σ H' { s' with heap:=h6 }:=Inv.pinX (p:=(ea,oe)) I6 hoe hea nL nF (fun v q=>by rw[hda] at q;cases q)
 refine vb (X:=X.marked (.ref ea)) (i:=i) (v:=.ref ea) I6p hN hi (.inl hn) rfl (fun s7 I7=>?_) (.inr hn)
 have il:i<σ.length:=by rw[I.len];exact(xkk.mp hi).1
 have ps:PSs (X.marked (.ref ea)) [.Assign [.Name z zp] (.Name n np2) ap] _:=xi (wx (X:=X.marked (.ref ea)) (i:=j) hN hj hz (xeh (X:=X.marked (.ref ea)) (i:=i) hi (.inl hn) hdn hcn) hsw (.inl hzf))
 refine wpAny_mono (ps s7 _ H' { nx:=fun σ2 H2=>σ2=(σ.set i (some (.ref ea))).set j (some (.ref ea))∧H2=H',rt:=fun _ _=>False } I7 ⟨.ref ea,by rw[xko il],rfl,rfl⟩) (fun f s8 h8=>?_) (fun _ _ z=>z.elim)
 cases f with
 | ret u=>obtain⟨_,_,_,_,_,z⟩:=h8;exact z.elim
 | brk=>obtain⟨_,_,_,z⟩:=h8;exact z.elim
 | cont=>obtain⟨_,_,_,z⟩:=h8;exact z.elim
 | next =>
  obtain⟨σ2,H2,I8,rfl,rfl⟩:=h8
  have I8:=I8.unmarked I.ok.hd
  obtain⟨m,hm8,hl8⟩:=id I8.loc
  show wpAny _ _ (do bindName X.env n .none;unbindBehindTheSuite X.env n hp) _ _ s8
  refine wpAny_nameGoes_keeps hn hm8 (by rw[I.ok.kind];rfl) fun h9 v9 hn9 hs9=>?_
  refine k oe _ (I8.nsX hs9 hn9 (fun a x v e1 e2 e3=>?_) (by rw[xky];exact I8.len)) hcl
  have na:a≠i:=fun q=>by
   subst q
   rw[xko (by rw[xky,xky];exact il)] at e2
   cases e2
  rw[xkn (Ne.symm na)] at e2
  obtain⟨u,r,l⟩:=hl8 a x v e1 e2 e3
  refine⟨u,r,?_⟩
  have nx:x≠n:=fun q=>by subst q;exact na (tG hN e1 hi)
  rcases l with ⟨q1,q2⟩ | ⟨q1,c,q2,o,q3,q4⟩
  ·exact .inl ⟨q1,by show(if x=n then v9 else m x)=some u;rw[if_neg nx];exact q2⟩
  ·exact .inr ⟨q1,c,q2,o,(hs9.2 c (I8.cne x c q2)).trans q3,q4⟩
end
end L2
namespace L2
open PySem PySem.Spec PySem.Calls PyProof.Rows
section
variable {X:Cx} {pins:List (Addr×Obj)} {σ:St} {H H':Hp} {s s':Shared} {ea C:Addr}
abbrev Cx.knows (X:Cx)(p:Addr×Obj):Cx:={ X with pn:=p::X.pn }
theorem Inv.knows (I:Inv X (p::pins) σ H s):Inv (X.knows p) pins σ H s :=
 ⟨⟨I.ok.mod,I.ok.kind,I.ok.glob,I.ok.blt,I.ok.above,I.ok.inj,I.ok.has,I.ok.cab,I.ok.hd,I.ok.frames,I.ok.stk,I.ok.exf,I.ok.bs,I.ok.bsz,I.ok.noex,I.ok.exfs,I.ok.funs,I.ok.frf⟩,
  I.os,I.bare,I.base,I.loc,I.cell,I.free,I.freeC,fun q hq=>I.pin q (by
   rcases xkJ.mp (show q∈p::(X.pn++pins) from hq) with z | z
   ·exact xkI _ (by rw[z];exact xkL)
   ·rcases xkG.mp z with z | z
    ·exact xkH _ z
    ·exact xkI _ (xkK _ z)),I.hok,I.len⟩
theorem Inv.unknows (I:Inv (X.knows p) pins σ H s):Inv X pins σ H s :=
 ⟨⟨I.ok.mod,I.ok.kind,I.ok.glob,I.ok.blt,I.ok.above,I.ok.inj,I.ok.has,I.ok.cab,I.ok.hd,I.ok.frames,I.ok.stk,I.ok.exf,I.ok.bs,I.ok.bsz,I.ok.noex,I.ok.exfs,I.ok.funs,I.ok.frf⟩,
  I.os,I.bare,I.base,I.loc,I.cell,I.free,I.freeC,fun q hq=>I.pin q (xkK _ hq),I.hok,I.len⟩
theorem SP.unknows (h:SP (X.knows p) pins D f s):SP X pins D f s:=by
 cases f with
 | next=>obtain⟨a,b,I,q⟩:=h;exact⟨a,b,I.unknows,q⟩
 | brk=>obtain⟨a,b,I,q⟩:=h;exact⟨a,b,I.unknows,q⟩
 | cont=>obtain⟨a,b,I,q⟩:=h;exact⟨a,b,I.unknows,q⟩
 | ret u=>obtain⟨v,a,b,I,r,q⟩:=h;exact⟨v,a,b,I.unknows,r,q⟩
def xhq (ea:Addr)(c:V)(b:Bool)(xs:List V)(H:Hp)(Q:VK):Prop:=xs=[.ref ea,c]∧Q (.bl b) H
theorem oh (hp:(ea,oe)∈X.pn)(hc:oe.cls=.ref C)(Z:lZ X.K C)(e:∀u,RelV c u→PySem.W.kitOne X.K (.ref C) u=some b):jA X (.builtin "isinstance") (xhq ea c b):=by
 intro pins s σ H xs us Q I r h
 obtain⟨rfl,q⟩:=h
 cases r with
 | cons r1 r2 =>
  cases r2 with
  | cons r2 r3 =>
   cases r3
   rename_i u1 u2
   cases (show u1=Value.ref ea from r1)
   exact PySem.W.kia_one (xdd Z) I.kIn ⟨oe,(I.pin _ (xkH _ hp)).1,hc⟩ (e _ r2) (fun z=>nomatch z) fun tk=>⟨.bl b,H,I.tok tk,rfl,q⟩
theorem xfD {cx n z y:Str}{i j c:Nat}{D g:Addr}{np zp np2 ap hp yp cp ep tp:Pos}{rest:List Stmt}{trest:Addr→Obj→TS}{LP:Hp→Prop}{KX:Hp→Hp→Prop}(hst:X.stack=X.env::X.outer)(hfr:X.env.frame=some X.env.locals)(hN:X.N.Nodup)
  (hi:X.N[i]? = some n) (hj:X.N[j]? = some z) (hc:X.N[c]? = some y) (hn:X.env.scope.names.lookup n=some .local) (hz:Loc X.env.scope z) (hy:Vis X.env.scope y) (hzf:X.fn z=true) (hg:Gl X cx) (hm:X.mg cx=some (.ref D)) (hx:PySem.W.exmOne X.K (.ref C) (.ref D)=some true)
  (hsw:swapsWith (.Name n np2) (some (.Name z zp)) ap.line X.env=pure false) (hdn:(n == ("__debug__" : Str))=false) (hcn:(n == ("__classdict__" : Str))=false) (hdb:(cx == ("__debug__" : Str))=false)
  (hdy:(y == ("__debug__" : Str))=false) (hcy:(y == ("__classdict__" : Str))=false) (hsy:swapsWith (.Call (.Name y yp) [] [] cp) none ep.line X.env=pure false)
  (hfn:PySem.W.FnAt g X.base) (hcall:∀pins σ H s,Inv X pins σ H s→LP H→codeAny (model X.prog X.w) X.A (.call (.ref g) ⟨[],[]⟩) (CR (CXE X.prog X.w) X.stack X.prog X.w H s (fun _ _=>False) fun k _ H'=>k=.ref C∧KX H H') s)
  (hrest:∀ea oe,oe.cls=.ref C→PSs (X.knows (ea,oe)) rest (trest ea oe)) :
  PSs X (.Try [.Expr (.Call (.Name y yp) [] [] cp) ep] [.ExceptHandler (some (.Name cx np)) (some n) [.Assign [.Name z zp] (.Name n np2) ap] hp] [] [] tp::rest)
   (fun D' σ H=>σ[c]? = some (some (.ref g))∧LP H∧∀ea oe H',KX H H'→trest ea oe D' (((σ.set i (some (.ref ea))).set j (some (.ref ea))).set i none) H'):=by
 intro pins s σ H D' I h
 obtain⟨h1,h2,h3⟩:=h
 refine wpAny_execs_cons (wpAny_Try_except ?_)
 refine wpAny_execs_cons (wpAny_Expr_any ?_ I.quiet hsy)
 refine wpAny_Call_Name_kw ?_
 have X1:X.nox=X.nox:=rfl
 obtain⟨m,hnm,hl⟩:=id I.loc
 obtain⟨u,r,l⟩:=hl c y (.ref g) hc h1 hy
 cases (show u=Value.ref g from r)
 have load:∀ {E:Value→Shared→Prop} {Q:Value→Shared→Prop},Q (.ref g) s→wpAny (model X.prog X.w) X.A (eval (.Name y yp) X.env) Q E s:=fun {E Q} q=>by
  rcases l with ⟨hk,hm'⟩ | ⟨hk,c',hc',hcell⟩
  ·exact wpAny_Name (wpAny_loadName_local I.ok.kind hk hnm hm' q) hdy
  ·rcases hk with hk | hk
   ·exact wpAny_Name (wpAny_loadName_cell I.ok.kind hk hc' hcell q) hdy
   ·exact wpAny_Name (wpAny_loadName_free I.ok.kind hk hc' hcell q hcy) hdy
 refine load ?_
 have fnS:PySem.W.FnAt g s.heap:=by
  obtain⟨oc,od,fd,sl,e⟩:=hfn
  exact⟨oc,od,fd,sl,I.bk _ _ e⟩
 refine PySem.W.callWith_F0 (first:=[]) fnS (wpAny_call (codeAny_mono (hcall pins σ H s I h2) fun r s1 hr=>?_))
 cases r with
 | ok fl =>
  cases fl with
  | ret u=>obtain⟨_,_,_,_,_,_,_,q⟩:=hr;exact q.elim
  | next=>exact hr.elim
  | brk=>exact hr.elim
  | cont=>exact hr.elim
 | error e =>
  obtain⟨ea,C',H',rfl,F,q1,q2⟩:=hr
  cases q1
  refine xb4 hst hfr hN hi hj hn hz hzf hg hm hx hsw hdn hcn hdb I F fun oe s2 I2 hcl=>?_
  exact thn (hrest ea oe hcl s2 _ H' D' I2.knows (h3 ea oe H' q2)) fun f s3 q=>q.unknows
end
end L2
namespace L2
open PySem PySem.Spec PySem.Calls PyProof.Rows
def xbt (P:Program)(w:World)(K:PySem.W.Frag)(mg:Str→Option Value)(base:Heap)(N:List Str)(qual:Str)(scope:Scope)(g:Addr)(cd:Value)(cl:List (Str×Addr))(A:Around)(outer:List Env)(s:Shared)(H:Hp)(E:XK):Cx where
 prog:=P
 w:=w
 K:=K
 mg:=mg
 base:=base
 A:=A.deeper (PySem.W.envX qual scope s.heap.objs.size g cd cl)
 N:=N
 s₀:=s
 H₀:=H
 env:=PySem.W.envX qual scope s.heap.objs.size g cd cl
 outer:=outer
 stack:=PySem.W.envX qual scope s.heap.objs.size g cd cl::outer
 ex:=[]
 calm:=true
 fn:=fun _=>false
 pn:=[]
 xe:=fun e s'=>wpAny (model P w) (A.deeper (PySem.W.envX qual scope s.heap.objs.size g cd cl)) (leaving (PySem.W.envX qual scope s.heap.objs.size g cd cl) e) (fun _ s''=>CXE P w outer H s E e s'') (fun e' s''=>CXE P w outer H s E e' s'') s'
theorem lD {P:Program}{w:World}{K:PySem.W.Frag}{mg:Str→Option Value}{base:Heap}{N:List Str}{qual:Str}{scope:Scope}{g:Addr}{cd:Value}{cl:List (Str×Addr)}{A:Around}{outer:List Env}{s:Shared}{H:Hp}{E:XK} :
  a_ (CXE P w) (xbt P w K mg base N qual scope g cd cl A outer s H E) E:=xgF rfl rfl rfl fun _ _ h=>h
structure xgs (base:Heap)(scope:Scope)(cl:List (Str×Addr))(N:List Str)(vs:List V):Prop where
 kind:scope.kind=.function
 co:scope.isCoroutine=false
 gen:scope.isGenerator=false
 nocell:∀x∈scope.names,x.2≠.cell
 has:∀x,scope.names.lookup x=some .free→∃c,cl.lookup x=some c
 inj:∀x y c,cl.lookup x=some c→cl.lookup y=some c→x=y
 cell:∀x c,cl.lookup x=some c→∃v,base.IsCell c v
 val:∀(i:Nat) (x:Str) (v:V),N[i]? = some x→vs[i]? = some v→scope.names.lookup x=some .free∧∃c u,cl.lookup x=some c∧RelV v u∧base.IsCell c (some u)
 len:vs.length=N.length
theorem xfJ {P:Program}{w:World}{K:PySem.W.Frag}{mg:Str→Option Value}{base:Heap}{N:List Str}{name qual:Str}{params:Arguments}{body:Expr}{scope:Scope}{g:Addr}{cdv ct pm oc:Value}{od:Option Addr}{sl:Array (Option Value)}{cl:List (Str×Addr)}{k:Nat}{A:Around}{outer:List Env}{s:Shared}{H:Hp}{E:XK}{vs:List V}{te:TE}
  (e0:xdA P w K mg base A outer s H) (hr:jg (k+1) A) (hobj:base.get? g=some ⟨oc,od,.func (PySem.W.kla_fn name qual params body scope cl pm cdv ct),sl⟩) (hcd:s.heap.CodeRec cdv qual)
  (hpar:bindArgs (PySem.W.kla_fn name qual params body scope cl pm cdv ct) ⟨[],[]⟩=pure []) (L:xgs base scope cl N vs)
  (hb:PE (xbt P w K mg base N qual scope g cdv cl A outer s H E) body te) (hq:te (vs.map some) H fun _ _=>False) :
  codeAny (model P w) A (.call (.ref g) ⟨[],[]⟩) (CR (CXE P w) outer P w H s (fun _ _=>False) E) s:=by
 have bk:∀b o,base.get? b=some o→s.heap.get? b=some o:=fun b o e=>(e0.bs b o e).1
 have lim:s.heap.NoLimit:=e0.mod.nolimit.keeps bk
 refine PySem.W.kla_callFunE hr.depth (bk _ _ hobj) rfl L.co L.gen rfl hcd ?_
 rw[hpar]
 refine wpAny_pure (wpAny_newFunctionEnv L.nocell (fun x hx=>absurd hx (by simp)) (fun h₁ hns hsb=>⟨lim.fresh _ hsb,?_⟩) L.kind)
 show codeAny _ _ (.expr body (PySem.W.envX qual scope s.heap.objs.size g cdv cl)) _ _
 have hk:∀b o,s.heap.get? b=some o→h₁.get? b=some o:=fun b o e=>hsb.extBut b o (xlm (Heap.lt_size e)) (Heap.get?_push_of_some _ e)
 have noA:∀b:Addr,b∉(xbt P w K mg base N qual scope g cdv cl A outer s H E).ex:=fun b z=>absurd (show b∈([]:List Addr) from z) (by simp)
 have cellK:∀c v,base.IsCell c v→h₁.IsCell c v:=fun c v ⟨o,ho,hd⟩=>⟨o,hk _ _ (bk _ _ ho),hd⟩
 have I:Inv (xbt P w K mg base N qual scope g cdv cl A outer s H E) [] (vs.map some) H { s with heap:=h₁,toks:=s.toks+([]:List (Str×Value)).length }:=by
  refine⟨⟨e0.mod,L.kind,rfl,rfl,xlb _,L.inj,fun y hy=>?_,fun y c z _=>(nomatch z),fun _=>hr.hd,Around.frames_deeper e0.frames,.inr ⟨rfl,rfl⟩,fun b z=>absurd z (noA b),e0.bs,e0.bsz,fun b _ _=>noA b,fun b z=>absurd z (noA b),e0.funs,e0.frf⟩,
   rfl,e0.bare,Un.kept hk,⟨_,hns,fun i y v h1 h2 h3=>?_⟩,fun y c h=>?_,e0.hok.fresh (xlb _),fun y c h=>?_,fun p hp=>absurd (show p∈([]:List (Addr×Obj)) from hp) (by simp),e0.hok.kept hk,by rw[xkv];exact L.len⟩
  ·rcases hy with hy | hy
   ·exact absurd rfl (L.nocell _ (PySem.mem_of_lookup hy))
   ·exact L.has y hy
  ·have hv:vs[i]? = some v:=by
    rw[xkl] at h2
    cases e:vs[i]? with
    | none=>rw[e] at h2;cases h2
    | some a=>rw[e] at h2;cases h2;rfl
   obtain⟨k1,c,u,k2,k3,k4⟩:=L.val i y v h1 hv
   exact⟨u,k3,.inr ⟨.inr k1,c,k2,cellK c _ k4⟩⟩
  ·obtain⟨v,q⟩:=L.cell y c h
   exact⟨v,cellK c v q⟩
  ·obtain⟨v,o,ho,_⟩:=L.cell y c h
   exact(e0.bs c o ho).2
 refine PySem.W.kla_codeExpr (wpAny_mono (hb _ _ H _ I hq) (fun v s' hv=>?_) fun e s' he=>he)
 obtain⟨_,_,_,_,z⟩:=hv
 exact z.elim
end L2
namespace L2
open PySem PySem.Spec PySem.Calls PyProof.Rows
theorem xfA:∀(n:Nat),l.length≤n→TriplesOk l→TriplesOk m→TriplesOk (l++m):=by
 intro n
 induction n generalizing l with
 | zero =>
  intro hn hl hm
  cases l with
  | nil=>exact hm
  | cons=>simp at hn
 | succ n ih =>
  intro hn hl hm
  unfold TriplesOk at hl
  split at hl
  ·exact hm
  ·rename_i r
   show TriplesOk (_::_::_::(r++m))
   unfold TriplesOk
   exact ih (by simp at hn;omega) hl hm
  ·exact hl.elim
theorem xcs:∀(n:Nat) {l:List Value},l.length≤n→TriplesOk l→codeAmong pos (l++m)=some cv→codeAmong pos l=some cv∨codeAmong pos m=some cv:=by
 intro n
 induction n with
 | zero =>
  intro l hn hl h
  cases l with
  | nil=>exact .inr h
  | cons=>simp at hn
 | succ n ih =>
  intro l hn hl h
  unfold TriplesOk at hl
  split at hl
  ·exact .inr h
  ·rename_i a b c d e r
   have h:codeAmong pos (.int a b::.int c d::e::(r++m))=some cv:=h
   unfold codeAmong at h
   split at h
   ·rename_i q
    refine .inl ?_
    unfold codeAmong
    rw[if_pos q];exact h
   ·rename_i q
    rcases ih (by simp at hn;omega) hl h with z | z
    ·refine .inl ?_
     unfold codeAmong
     rw[if_neg q];exact z
    ·exact .inr z
  ·exact hl.elim
def xe1 (H:Hp)(cdv:Value)(q:Str):Prop:=∃c oc vs t,cdv=.ref c∧H c=some (.frz oc (.own c))∧oc.data=.fields vs∧vs[1]? = some (.str q t)
theorem xe1.rec (x:xe1 H cdv q)(ok:HOk P w H h):h.CodeRec cdv q:=by
 obtain⟨c,oc,vs,t,e1,e2,e3,e4⟩:=x
 exact⟨c,oc,vs,t,e1,(ok c _ e2).1,e3,e4⟩
abbrev oJ (qual:Str)(params:Arguments)(body:Expr)(scope:Scope)(clos:List (Str×Addr))(pm cdv ct:Value):Obj:={ cls:=.type "function", data:=.func (PySem.W.kla_fn "<lambda>" qual params body scope clos pm cdv ct) }
section
variable {X:Cx} {pins:List (Addr×Obj)} {σ:St} {H:Hp} {s:Shared} {c P:Addr} {params:Arguments} {body:Expr} {scope:Scope} {pos:Pos} {clos:List (Str×Addr)} {E:Value→Shared→Prop} {Q:Value→Shared→Prop} {q:Str}
theorem xcF (I:Inv X pins σ H s)(hq:X.env.qual ++ "<lambda>" = q)(hcode:X.env.code=.ref c)(C:PySem.W.CodeHd X.base c P)(hP:H P=some (.tb q))(hgP:mainGlobals≠P)(hb:X.base.BuiltinsAt X.mg P)(hdef:defaultsOf params X.env=([],[]))(hcl:closureFor scope X.env=pure clos)
  (k:∀g H1 s1 cdv ct pm,Inv X pins σ H1 s1→(∀a o,H a=some o→H1 a=some o)→s1.heap.get? g=some (oJ q params body scope clos pm cdv ct)→H1 g=none→s.heap.objs.size≤g→xe1 H1 cdv q →
   (∀c o v,s.heap.get? c=some o→o.data=.cell v→H c=none→s1.heap.get? c=some o)→Q (.ref g) s1) :
  wpAny (model X.prog X.w) X.A (eval (.Lambda params body scope pos) X.env) Q E s:=by
 obtain⟨ps,hps,htri,hcodes⟩:=(show uH X.prog X.w H s.heap P (.tb q) from I.hok P _ hP)
 have hg:s.heap.Ns mainGlobals X.mg:=I.ok.mod.glob.keeps I.bk
 have hbs:s.heap.BuiltinsAt X.mg P:=by
  obtain⟨bm,o,b1,b2,b3,b4,b5,b6⟩:=hb
  exact⟨bm,o,b1,b2,b3,b4,I.bk _ _ b5,b6⟩
 have CS:PySem.W.CodeHd s.heap c P:=C.keeps I.bk
 have LP:X.env.locals≠P:=fun z=>by rw[←z,I.free] at hP;cases hP
 refine PySem.W.kla_eval hdef ?_
 rw[hq]
 cases hf:codeAmong pos ps.toList with
 | none =>
  refine PySem.W.kla_makeFunction hcl I.ok.glob hg hcode CS hps htri hf hgP hbs fun c' ctv h' tk hx hge hlt hrec htb=>?_
  obtain⟨c2,oc,vs,t,e1,e2,e3,e4⟩:=hrec
  cases e1
  have Hc:H c'=none:=I.hok.fresh hge
  have hk2:∀b o,b≠P→s.heap.get? b=some o→(h'.push (oJ q params body scope clos ((X.mg "__name__").getD .none) (.ref c') ctv)).get? b=some o:=fun b o n e=>Heap.get?_push_of_some _ (hx b o n e)
  have nP:∀b,H b=none→b≠P:=fun b n z=>by rw[z,hP] at n;cases n
  have ltb:∀b o,s.heap.get? b=some o→b≠c':=fun b o e=>xlm (xlg (Heap.lt_size e) hge)
  have ext:∀a o,H a=some o→upd H c' (.frz oc (.own c')) a=some o:=fun a o e=>by rw[xY (xK e Hc)];exact e
  have Hg:upd H c' (.frz oc (.own c')) h'.objs.size=none:=by
   rw[xY (xll hlt)]
   exact I.hok.fresh (xld hge (xla hlt))
  refine k h'.objs.size (upd H c' (.frz oc (.own c'))) _ (.ref c') ctv _ ?_ ext (Heap.get?_push_size _ rfl) Hg (xld hge (xla hlt)) ⟨c',oc,vs,t,rfl,ya,e3,e4⟩ (fun a o v e _ n=>hk2 a o (nP a n) e)
  refine I.step (g':=s.gens) (d':=s.drawn) (ch:=[]) (fun b z=>absurd z (by simp)) (fun b o _ _ _ e n=>hk2 b o (nP b n) e) (fun b o _ _ _ e n=>⟨o.slots,hk2 b o (nP b n) e⟩) (fun b o _ e n=>by rw[xY (ltb b o e)];exact n)
   (fun b o _ e=>?_) (fun b xs e=>ext _ _ e) (fun b o u e=>ext _ _ e) (fun b p e=>⟨#[],by rw[ext _ _ e];simp⟩) (fun m hm=>?_) (fun b u e=>?_) I.bare
  ·by_cases z:b=P
   ·exact⟨_,by rw[z];exact Heap.get?_push_of_some _ htb⟩
   ·exact⟨o,hk2 b o z e⟩
  ·obtain⟨o,es,ep,ho,r⟩:=hm
   exact⟨o,es,ep,hk2 _ o LP ho,r⟩
  ·by_cases zc:b=c'
   ·subst zc
    rw[ya] at e;cases e
    exact⟨Heap.get?_push_of_some _ e2,_,Heap.get?_push_of_some _ e2⟩
   ·rw[xY zc] at e
    by_cases zP:b=P
    ·subst zP
     rw[hP] at e;cases e
     refine⟨_,Heap.get?_push_of_some _ htb,?_,fun pos' cv e'=>?_⟩
     ·rw[Array.toList_append]
      exact xfA _ (xlb _) htri (by unfold TriplesOk;unfold TriplesOk;trivial)
     ·rw[Array.toList_append] at e'
      rcases xcs _ (xlb _) htri e' with z | z
      ·obtain⟨c3,o3,v3,t3,y1,y2,y3⟩:=hcodes pos' cv z
       exact⟨c3,o3,v3,t3,y1,ext _ _ y2,y3⟩
      ·have z:codeAmong pos' [rawInt pos.line,rawInt pos.col,.ref c']=some cv:=z
       unfold codeAmong rawInt at z
       dsimp only at z
       split at z
       ·cases z;exact⟨c',oc,vs,t,rfl,ya,e3,e4⟩
       ·unfold codeAmong at z;cases z
    ·refine(I.hok b u e).stay (fun a v ha y=>hk2 a v ?_ y) (fun a y=>ext _ _ y) (fun a xs y=>ext _ _ y) fun a o u y=>ext _ _ y
     rcases ha with z | z
     ·rw[z];exact zP
     ·rintro rfl;rw[hP] at z;cases z
 | some cv =>
  refine PySem.W.kla_makeFunctionHit hcl I.ok.glob hg hcode CS hps htri hf hbs fun ctv h' tk hk hsz=>?_
  have hk2:∀b o,s.heap.get? b=some o→(h'.push (oJ q params body scope clos ((X.mg "__name__").getD .none) cv ctv)).get? b=some o:=fun b o e=>Heap.get?_push_of_some _ (hk b o e)
  refine k h'.objs.size H _ cv ctv _ ?_ (fun _ _ e=>e) (Heap.get?_push_size _ rfl) (I.hok.fresh hsz) hsz (hcodes pos cv hf) (fun a o v e _ _=>hk2 a o e)
  exact I.step (g':=s.gens) (d':=s.drawn) (ch:=[]) (fun b z=>absurd z (by simp)) (fun b o _ _ _ e _=>hk2 b o e) (fun b o _ _ _ e _=>⟨o.slots,hk2 b o e⟩) (fun b o _ _ n=>n) (fun b o _ e=>⟨o,hk2 b o e⟩) (fun _ _ e=>e) (fun _ _ _ e=>e)
   (fun b p e=>⟨#[],by rw[e];simp⟩) (fun m hm=>hm.keeps hk2) (I.hok.kept hk2) I.bare
end
end L2
namespace L2
open PySem PySem.Spec PySem.Calls PyProof.Rows
def xcc (h:Heap)(H:Hp)(fs:List Addr):Heap:=PySem.W.hideAll h (trk h H++fs)
theorem sI (e:h.get? b=some o)(n:H b=none)(nf:b∉fs):(xcc h H fs).get? b=some o:=PySem.W.hideAll_get _ e (fun z=>by
 rcases xkG.mp z with z | z
 ·obtain⟨_,z⟩:=xkM.mp z
  rw[n] at z;cases z
 ·exact nf z)
theorem xcL (e:(xcc h H fs).get? b=some o):h.get? b=some o∧H b=none:=by
 have e1:=PySem.W.of_hideAll _ e
 refine⟨e1,?_⟩
 cases q:H b with
 | none=>rfl
 | some u =>
  have:b∈trk h H++fs:=xkH _ (xkM.mpr ⟨xkT.mpr (Heap.lt_size e1),by rw[q];rfl⟩)
  rw[xcc,PySem.W.hideAll_none _ this] at e;cases e
theorem Mod.keeps {K:PySem.W.Frag}{mg:Str→Option Value}{base base':Heap}(m:Mod K mg base)(k:∀b o,base.get? b=some o→base'.get? b=some o):Mod K mg base' :=
 ⟨m.kin.keeps k,m.glob.keeps k,let ⟨mb,h1,h2⟩:=m.blt;⟨mb,h1.keeps k,h2⟩,m.nolimit.keeps k⟩
section
variable {X:Cx} {pins:List (Addr×Obj)} {σ:St} {H:Hp} {s:Shared}
theorem Inv.nstk (I:Inv X pins σ H s)(e:X.base.get? b=some o):b∉frs X.stack:=fun z=>by
 rcases xkJ.mp (I.stkSub b z) with z | z
 ·exact I.old (I.ok.bs b o e).1 z
 ·exact I.ok.nofr e z
theorem Inv.restE (I:Inv X pins σ H s):xdA X.prog X.w X.K X.mg (xcc s.heap H (frs X.stack)) X.A X.stack s H :=
 ⟨I.ok.frames,I.ok.mod.keeps fun b o e=>sI (I.bs b o e).1 (I.bs b o e).2 (I.nstk e),fun b o e=>xcL e,Nat.le_of_eq (PySem.W.hideAll_size _ _),PySem.W.funFrames_hide I.stack (fun env he a ha=>xkI _ (xkN.mpr ⟨env,he,ha⟩)),I.stkFree,I.hok,I.bare⟩
def xd9 (XN:List Str)(xs ls:Scope)(N:List Str)(tau:List Nat)(cn:List Str):Bool :=
 N.length == tau.length&&((N.zip tau).all fun p=>XN[p.2]? == some p.1&&xs.names.lookup p.1 == some .cell&&ls.names.lookup p.1 == some .free&&cn.contains p.1)&&ls.names.all (fun p=>p.2 != .cell&&(p.2 != .free || cn.contains p.1)) &&
  ls.kind == .function&&!ls.isCoroutine&&!ls.isGenerator
def xgq (cells:List (Str×Addr)):List (Str×Addr)→Prop
 | []=>True
 | p::r=>cells.lookup p.1=some p.2∧xgq cells r
theorem xgq.get:∀ {cl:List (Str×Addr)} {x:Str} {c:Addr},xgq cells cl→cl.lookup x=some c→cells.lookup x=some c
 | [],_,_,_,e=>by cases e
 | (y,d)::r,x,c,h,e=>by
  rw[xkB] at e
  split at e
  ·rename_i q
   cases e
   rw[beq_iff_eq.mp q];exact h.1
  ·exact xgq.get h.2 e
theorem qt {cl:List (Str×Addr)}{x:Str}(h:(cl.map (·.1)).contains x=true):∃c,cl.lookup x=some c:=by
 induction cl with
 | nil=>cases h
 | cons p r ih =>
  obtain⟨y,d⟩:=p
  rw[xkB]
  split
  ·exact⟨d,rfl⟩
  ·rename_i q
   refine ih ?_
   rw[xkD,List.contains_cons] at h
   have q':(x == y)=false:=by simpa using q
   rw[q',Bool.false_or] at h
   exact h
def nJ (P:Program)(w:World)(K:PySem.W.Frag)(mg:Str→Option Value)(base:Heap)(k:Nat)(g C:Addr)(H:Hp)(KX:Hp→Prop):Prop :=
 ∀A outer s,jg k A→xdA P w K mg base A outer s H→codeAny (model P w) A (.call (.ref g) ⟨[],[]⟩) (CR (CXE P w) outer P w H s (fun _ _=>False) fun c _ H'=>c=.ref C∧KX H') s
def xdt (P:Program)(w:World)(K:PySem.W.Frag)(mg:Str→Option Value)(base:Heap)(k:Nat)(C:Addr)(j:Int):Sp:=fun vs H Q _=>∃g KX,vs=[.ref g]∧PySem.W.FnAt g base∧nJ P w K mg base k g C H KX ∧
 ∀H' H2 a,KX H'→(∀b o,H' b=some o→H2 b=some o)→H' a=none→H2 a=some (.lst [.int j])→Q (.ref a) H2
def xiJ (P:Addr)(q:Str)(tau:List Nat)(te:XK→TE)(C:Addr)(j:Int):TE:=fun σ H Q=>H P=some (.tb q)∧∃vs:List V,vs.length=tau.length∧(∀(i t:Nat) (v:V),tau[i]? = some t→vs[i]? = some v→σ[t]? = some (some v)) ∧
 ∀H1,(∀a o,H a=some o→H1 a=some o)→∃KX:Hp→Prop,(∀E:XK,(∀H',KX H'→E (.ref C) none H')→te E (vs.map some) H1 fun _ _=>False) ∧
  ∀H' H2 a,KX H'→(∀b o,H' b=some o→H2 b=some o)→H' a=none→H2 a=some (.lst [.int j])→Q (.ref a) H2
theorem aZ {k kl jx:Nat}{c P C:Addr}{j:Int}{N cn:List Str}{tau:List Nat}{q x:Str}{params:Arguments}{body:Expr}{scope:Scope}{lp np cp:Pos}{clos:List (Str×Addr)}{te:XK→TE}
  (o:∀base,Mod X.K X.mg base→Own X.prog X.w X.K X.mg base jx x ["_law_call"] (xdt X.prog X.w X.K X.mg base kl C j)) (hr:jg k X.A)
  (hb:∀base g cdv cl A outer s H E,Mod X.K X.mg base→jg (kl-1) (A.deeper (PySem.W.envX q scope s.heap.objs.size g cdv cl))→PE (xbt X.prog X.w X.K X.mg base N q scope g cdv cl A outer s H E) body (te E))
  (hq:X.env.qual ++ "<lambda>" = q) (hcode:X.env.code=.ref c) (C0:PySem.W.CodeHd X.base c P) (hgP:mainGlobals≠P) (hbl:X.base.BuiltinsAt X.mg P) (hdef:defaultsOf params X.env=([],[])) (hcl:closureFor scope X.env=pure clos)
  (hcn:clos.map (·.1)=cn) (hchk:xd9 X.N X.env.scope scope N tau cn=true) (hac:xgq X.env.cells clos) (hfn:∀y,X.fn y=true)
  (hpar:∀pm cdv ct,bindArgs (PySem.W.kla_fn "<lambda>" q params body scope clos pm cdv ct) ⟨[],[]⟩=pure []) (hjk:jx≤k) (hk1:1≤kl) (hg:Gl X x) (hdb:(x == ("__debug__" : Str))=false)
  (he:starEach [.Lambda params body scope lp] X.env=[(false,eval (.Lambda params body scope lp) X.env)]) :
  PE X (.Call (.Name x np) [.Lambda params body scope lp] [] cp) (xiJ P q tau te C j):=by
 intro pins s σ H Q I h
 obtain⟨hP,vs,hvl,hvs,hh⟩:=h
 simp only[xd9,xjm,beq_iff_eq,xj1,Bool.not_eq_true',Bool.or_eq_true,bne_iff_ne,ne_eq] at hchk
 obtain⟨⟨⟨⟨⟨c1,c2⟩,c3⟩,c4⟩,c5⟩,c6⟩:=hchk
 obtain⟨fr,fdr,_,_,kpr,mr⟩:=(o X.base I.ok.mod).ex
 refine wpAny_Call_Name_kw (fW I hg mr ?_ hdb)
 refine PySem.W.callWith_K (h₀:=X.base) I.ok.mod.kin kpr ?_ he rfl
 rw[he]
 refine Calls.spliced_cons (xcF (q:=q) (clos:=clos) I hq hcode C0 hP hgP hbl hdef hcl fun g H1 s1 cdv ct pm I1 ext hgo hg0 hgs hck hcells=>?_)
 refine Calls.spliced_nil ⟨I1.kIn,?_⟩
 obtain⟨KX,hE,hQ⟩:=hh H1 ext
 let B:=xcc s1.heap H1 (frs X.stack)
 have e0:xdA X.prog X.w X.K X.mg B X.A X.stack s1 H1:=I1.restE
 obtain⟨f,fd,F,b,kp,m⟩:=((o B e0.mod).mono hjk).ex
 have ef:f=fr:=by rw[mr] at m;cases m;rfl
 subst ef
 have gns:g∉frs X.stack:=fun z=>by
  rcases xkJ.mp (I.stkSub g z) with z | z
  ·have:=I.lt;rw[←z] at this;exact absurd (xlg this hgs) (xle _)
  ·exact I.nofs hgs z
 have gB:B.get? g=some (oJ q params body scope clos pm cdv ct):=sI hgo hg0 gns
 have cellB:∀y c',X.env.cells.lookup y=some c'→∀v,s1.heap.IsCell c' v→B.IsCell c' v:=fun y c' e v ⟨o',ho,hd⟩=>by
  refine⟨o',sI ho (I1.freeC y c' e) fun z=>?_,hd⟩
  rcases xkJ.mp (I1.stkSub c' z) with z | z
  ·exact I1.cne y c' e z
  ·obtain⟨_,o2,ho2,_⟩:=I1.ok.funs.mem z
   exact absurd (xlg (Heap.lt_size ho2) (I1.ok.cab y c' (hfn y) e)) (xle _)
 have L:xgs B scope clos N vs:=by
  refine⟨c4,c5,c6,fun y hy=>(c3 y hy).1,fun y hy=>?_,fun y z c' h1 h2=>I.ok.inj y z c' (hac.get h1) (hac.get h2),fun y c' e=>?_,fun i y v h1 h2=>?_,by rw[hvl,c1]⟩
  ·have:=(c3 _ (PySem.mem_of_lookup hy)).2
   rcases this with z | z
   ·exact absurd rfl z
   ·rw[←hcn] at z;exact qt z
  ·obtain⟨v,q'⟩:=I1.cell y c' (hac.get e)
   exact⟨v,cellB y c' (hac.get e) v q'⟩
  ·have il:i<tau.length:=by rw[←hvl];exact(xkk.mp h2).1
   have ht:tau[i]? = some tau[i]:=xki il
   have hz:(y,tau[i])∈N.zip tau:=by
    refine xkR (i:=i) ?_
    rw[List.getElem?_zip_eq_some]
    exact⟨h1,ht⟩
   obtain⟨⟨⟨k1,k2⟩,k3⟩,k4⟩:=c2 _ hz
   obtain⟨m,_,hl⟩:=I1.loc
   obtain⟨u,r,l⟩:=hl tau[i] y v k1 (hvs i _ v ht h2) (.inr (.inl k2))
   rw[←hcn] at k4
   obtain⟨c',hc'⟩:=qt k4
   refine⟨k3,c',u,hc',r,?_⟩
   rcases l with ⟨z,_⟩ | ⟨_,c2',z1,z2⟩
   ·rw[show X.env.kindOf y=some .cell from k2] at z;cases z
   ·have:=hac.get hc'
    rw[z1] at this;cases this
    exact cellB y _ z1 _ z2
 have lr:nJ X.prog X.w X.K X.mg B kl g C H1 KX:=fun A outer s2 hr2 e2=>by
  obtain⟨k0,rfl⟩:∃k0,kl=k0+1:=⟨kl-1,by omega⟩
  exact xfJ (E:=fun c _ H'=>c=.ref C∧KX H') e2 hr2 gB (hck.rec e2.hok) (hpar _ _ _) L (hb B g cdv clos A outer s2 H1 _ e2.mod (hr2.deeper _)) (hE _ fun H' q=>⟨rfl,q⟩)
 have sp:xdt X.prog X.w X.K X.mg B kl C j [.ref g] H1 Q E0:=⟨g,KX,rfl,⟨_,_,_,_,gB⟩,lr,hQ⟩
 refine wpAny_call (codeAny_mono (F.run X.A X.stack s1 H1 ⟨[.ref g],[]⟩ [.ref g] [.ref g] Q E0 hr e0 ?_ (.cons rfl .nil) sp) fun r s' hq=>?_)
 ·exact b s1 [.ref g] I1.kIn rfl
 ·cases r with
  | error e=>exact False.elim hq
  | ok fl =>
   cases fl with
   | ret u=>exact I1.after hq
   | next=>exact False.elim hq
   | brk=>exact False.elim hq
   | cont=>exact False.elim hq
end
end L2
namespace L2
open PySem PySem.Spec PyProof.Rows
def spX (n:Nat)(C:Addr)(R:List Tr→Prop):Sp:=fun vs H _ E=>∃(F S:Addr→Prop) (ts:List Tr) (us:List V),vs=us∧(∀a,F a→H a≠none)∧(∀a,S a→F a)∧(∀a,S a→b_ a H)∧zU F H ts us∧ts.length=n∧R ts ∧
 ∀H',(∀a o,H a=some o→¬S a→H' a=some o)→(∀a,S a→b_ a H')→E (.ref C) none H'
section
variable {K:PySem.W.Frag} {B:FB} {φ:Phi} {σ:St} {τ:TSt} {H H' H'':Hp} {EX:Hp→Prop}
def RXE (K:PySem.W.Frag)(B:FB)(te:TE)(D:TSt→Prop):Prop:=∀ φ σ τ H Q,RS K B φ σ τ H→D τ→te σ H Q
def RXS (K:PySem.W.Frag)(B:FB)(T:TS)(D:TSt→Prop):Prop:=∀ φ σ τ H E,RS K B φ σ τ H→D τ→T E σ H
theorem xeD.on (R:RS K B φ σ τ H)(k:∀a o,H a=some o→¬SA B φ τ a→H' a=some o)(st:∀a,SA B φ τ a→b_ a H'):xeD B H':=(R.hx ⟨k,st⟩).extB
theorem xe7 (hE:∀H',xeD B H'→E (.ref C) none H')(ha:OkA K b n ta da):RXE K B (xe5 (spX n C R) E ta) (fun τ=>da τ R):=fun φ σ τ H Q R' hd =>
 ha B φ σ τ H _ _ R' hd fun ts vs H1 x1 k1 l1 r1=>⟨AvB b B φ τ,SA B φ τ,ts,vs,rfl,fun a z=>(R'.hx x1).domB z,fun a z=>R'.sB z,x1.st,r1,l1,k1,fun H2 k st=>hE _ (xeD.on (R'.hx x1) k st)⟩
theorem xdH (hE:∀H',xeD B H'→E (.ref C) none H')(ha:OkA K true n ta da)(hn:n≤100:=by decide):RXS K B (xdZ E C ta) (fun τ=>da τ fun _=>True):=fun φ σ τ H G R hd =>
 ha B φ σ τ H _ _ R hd fun ts vs H1 x1 k1 l1 r1=>⟨by rw[←r1.len,l1];exact xld hn (by decide),hE _ (R.hx x1).extB⟩
theorem xgM (h1:OkS K fr T1 D1)(h2:RXS K B T2 D2):RXS K B (xfS T1 T2) (fun τ=>D1 { nx:=D2,rt:=fun _=>False } τ):=fun φ σ τ H E R hd =>
 h1 B φ σ τ H _ _ R hd ⟨fun φ' σ' τ' H' R' k=>h2 φ' σ' τ' H' _ R' k,fun _ _ _ _ _ z=>z.elim,fun _ _ _ _ _ z=>z.elim,fun _ _ _ _ _ z=>z.elim⟩
theorem xhf (h:RXS K B T1 D):RXS K B (xfS T1 T2) D:=fun φ σ τ H E R hd=>h φ σ τ H _ R hd
theorem xhS (hc:OkT K tc dc)(h1:RXS K B T1 D1)(h2:RXS K B T2 D2):RXS K B (xhV tc T1 T2) (fun τ=>dc τ fun b=>if b=true then D1 τ else D2 τ):=fun φ σ τ H E R hd =>
 hc B φ σ τ H _ _ R hd fun b H1 x1 k=>by
  cases b with
  | true=>exact xat (h1 φ σ τ H1 _ (R.hx x1) (by simpa using k))
  | false=>exact pN (h2 φ σ τ H1 _ (R.hx x1) (by simpa using k))
theorem xcQ:RXS K B o9 (fun _=>False):=fun _ _ _ _ _ _ h=>h.elim
def dOb (j:Nat)(ea:Addr)(b:Bool):DE:=fun τ KK=>nth τ j=.ob ea∧KK (.bl b)
theorem qD:OkE K true (tCB (xhq ea c b) (vJ (rz j) (vJ (tC c) xab))) (dOb j ea b):=fun B φ σ τ H Q KK R hd q=>by
 obtain⟨h1,h2⟩:=hd
 have en:=R.ent j
 rw[h1] at en
 exact⟨.ref ea,en,rfl,q _ _ H (HX.refl R) h2 rfl⟩
def bnd:TV→Bool
 | .fz _=>true
 | .st=>true
 | _=>false
def xjf (tau:List Nat)(da:DA)(R:List Tr→Prop)(j:Int):DE:=fun τ KK=>(∃ns,nth τ 0=.sc ns)∧(tau.all fun t=>bnd (nth τ t))=true∧da (sT (tau.map some) τ) R∧KK (.lst [.int j])
theorem xfj (R:RS K B φ σ τ H)(h:bnd (nth τ t)=true):∃v,σ[t]? = some (some v):=by
 have en:=R.ent t
 cases e:nth τ t with
 | fz u=>rw[e] at en;obtain⟨v,h1,_⟩:=en;exact⟨v,h1⟩
 | st=>rw[e] at en;obtain⟨p,h1,_⟩:=en;exact⟨_,h1⟩
 | _=>rw[e] at h;cases h
theorem ae (ht:xfU K=some (P,q))(ha:OkA K b n ta da) :
  OkF K (xiJ P q tau (fun E=>xe5 (spX n C R) E ta) C j) (xjf tau da R j):=fun B φ σ τ H Q KK R' hd qq=>by
 obtain⟨⟨ns,h0⟩,hb,hda,hk⟩:=hd
 have en:=R'.ent 0
 rw[h0] at en
 obtain⟨_,_,_,_,tb⟩:=en
 have all:∀t∈tau,∃v,σ[t]? = some (some v):=fun t h=>xfj R' (xj1.mp hb t h)
 refine⟨tb P q ht,tau.map fun t=>((σ[t]?).getD none).getD .non,by rw[xkv],fun i t v e1 e2=>?_,fun H1 ext=>?_⟩
 ·rw[xkl,e1] at e2
  obtain⟨v',e3⟩:=all t (xkR e1)
  simp only[Option.map_some,e3,xlo] at e2;cases e2
  exact e3
 have x01:HX B φ τ H H1:=⟨fun a o e _=>ext a o e,fun a s=>by
  obtain⟨m,c,e,z⟩:=R'.sst a s
  exact⟨m,c,ext _ _ e,z⟩⟩
 have R1:=R'.hx x01
 have RI:=R1.inner (tau:=tau.map some)
 have es:mH (tau.map some) σ=(tau.map fun t=>((σ[t]?).getD none).getD .non).map some:=by
  unfold mH
  rw[xkE,xkE]
  refine List.map_congr_left fun t ht'=>?_
  obtain⟨v,e⟩:=all t ht'
  simp only[Function.comp,e,xlo]
 rw[es] at RI
 have hsa:∀a,SA (B.inner φ τ H1) (pQ (tau.map some) φ τ) (sT (tau.map some) τ) a→SA B φ τ a:=fun a z=>by
  rcases z with z | ⟨i,z,hj⟩
  ·exact z
  ·have en:=RI.ent i
   rw[hj] at en
   obtain⟨p,e1,e2,e3⟩:=en
   rw[z] at e2;cases e2
   rcases e3 with e3 | e3
   ·exact e3
   ·exact absurd e3 (RI.sst a (.inr ⟨i,z,hj⟩)).ne_none
 refine⟨fun H'=>(∀a o,H1 a=some o→¬SA B φ τ a→H' a=some o)∧∀a,SA B φ τ a→b_ a H',fun E hE=>?_,fun H' H2 a hkx e1 e2 e3=>?_⟩
 ·refine xe7 (B:=B.inner φ τ H1) (E:=E) (C:=C) (fun H' x=>hE H' ⟨fun a o e n=>x.ext a o e n,fun a s=>x.st a s⟩) ha _ _ _ H1 _ RI hda
 ·have x02:HX B φ τ H H2:=⟨fun a o e n=>e1 a o (hkx.1 a o (ext a o e) n),fun a s=>by
   obtain⟨m,c,e,z⟩:=hkx.2 a s
   exact⟨m,c,e1 _ _ e,z⟩⟩
  refine qq [.int j] a [.int j] H2 x02 hk ?_ e3 ⟨.int j,[],rfl,rfl,rfl⟩
  cases e:H a with
  | none=>rfl
  | some o =>
   by_cases s:SA B φ τ a
   ·exact absurd e2 (hkx.2 a s).ne_none
   ·rw[hkx.1 a o (ext a o e) s] at e2;cases e2
end
section
variable {P:Program} {w:World} {K:PySem.W.Frag} {mg:Str→Option Value} {base:Heap} {k n:Nat} {x qual:Str} {st:Stmt} {f:Addr} {fd:FuncData} {N ps:List Str} {C:Addr} {R:List Tr→Prop}
theorem xb2 (F:Fun K x qual st f fd)(S:xA N ps (xf st))(mgx:mg x=some (.ref f))(b:Binds K fd ps [])(hn:ps.length=n)
  (body:∀(cdv:Value) (A:Around) (outer:List Env) (s:Shared) (H:Hp) (E:XK),jg k (A.deeper (envOfC qual (xf st) s.heap.objs.size f cdv)) →
   ∃T,PSs (dm (CXE P w) P w K mg base N qual (xf st) f cdv A outer s H E) (zj st) T∧∀B:FB,(∀H',xeD B H'→E (.ref C) none H')→∃D,RXS K B T D∧∀ts,ts.length=n→R ts→D (startT N false ts)) :
  xd0 P w K mg base (k+1) x ps (spX n C R):=by
 have hpl:ps.length≤N.length:=by have:=xlq List.length S.pre;rw[xkA] at this;omega
 refine xeO F S mgx b (fun vs H Q E h=>?_) (fun cdv A outer s H vs Q E hr h=>?_)
 ·obtain⟨F',S',ts,us,e,_,_,_,r,l,_⟩:=h
  subst e
  rw[←r.len,l,hn]
 ·obtain⟨F',S',ts,us,e,hF,hS,hst,r,l,hR,q⟩:=h
  subst e
  obtain⟨T,ht,h⟩:=body cdv A outer s H E hr
  obtain⟨D,hd,hD⟩:=h ⟨F',S',H,[]⟩ fun H' x=>q H' x.ext x.st
  exact⟨T,ht,hd _ _ _ H _ (bX hF hS hst r (by omega)) (hD ts l hR)⟩
end
section
variable {K:PySem.W.Frag}
theorem tS:bootBuiltins "ValueError" = some (.type "ValueError"):=by decide +kernel
theorem xgW (hd:OkS K true T D)(h:D { nx:=fun _=>False,rt:=fun t=>t=.lst [.int j] } [.un,.ob ea,.un,.un])
  (q:∀H2 a,(∀b o,H b=some o→H2 b=some o)→H a=none→H2 a=some (.lst [.int j])→Q (.ref a) H2):T { nx:=fun _ H'=>Q .non H',rt:=Q } [some g,some (.ref ea),none,none] H:=by
 refine hd ⟨fun _=>False,fun _=>False,H,[]⟩ (fun _=>none) _ _ H _ _ ⟨fun _ z=>z.elim,fun _ z=>z.elim,fun a o e _=>e,fun a z=>?_,fun i j a ts _ z=>(nomatch z),fun i a z=>(nomatch z),rfl,fun i=>?_,fun p z=>absurd z (by simp)⟩ h ⟨fun _ _ _ _ _ z=>z.elim,fun _ _ _ _ _ z=>z.elim,fun _ _ _ _ _ z=>z.elim,fun t v H2 r x e fl=>?_⟩
 ·rcases z with z | ⟨i,z,_⟩
  ·exact z.elim
  ·cases z
 ·match i with
  | 0=>trivial
  | 1=>rfl
  | 2=>trivial
  | 3=>trivial
  | n+4=>trivial
 ·obtain⟨a,ts,ws,rfl,rfl,h1,h2,h3⟩:=fl rfl
  cases e
  obtain⟨v,vs,rfl,e1,e2⟩:=h3
  cases e1;cases e2
  exact q H2 a (fun b o e=>x.ext b o e fun z=>z) h1 h2
end
section
variable {X:Cx} {ea C D:Addr}
theorem zV (hp:(ea,oe)∈X.pn)(hc:oe.cls=.ref C)(Z:lZ X.K C)(e:PySem.W.kitOne X.K (.ref C) (.ref D)=some b):jA X (.builtin "isinstance") (xhq ea (.ref D) b) :=
 oh hp hc Z fun u r=>by cases (show u=Value.ref D from r);exact e
theorem xbE (hp:(ea,oe)∈X.pn)(hc:oe.cls=.ref C)(Z:lZ X.K C)(e:PySem.W.kitOne X.K (.ref C) (.type n)=some b):jA X (.builtin "isinstance") (xhq ea (.ty n) b) :=
 oh hp hc Z fun u r=>by cases (show u=Value.type n from r);exact e
end
end L2
namespace L2
open PySem PySem.Spec PyProof.Rows
theorem xam {K:PySem.W.Frag}{h:Heap}{mg:Str→Option Value}{x:Str}{C:Addr}{bm:List Value}{newId:String}(X:K.In h)(e:mg x=some (.ref C))(q:PySem.W.excIn K C bm newId=true):OwnCls x C bm newId mg h:=by
 refine⟨e,?_⟩
 unfold PySem.W.excIn at q
 split at q
 case h_2=>cases q
 rename_i dd cd sl ho
 split at q
 case h_2=>cases q
 rename_i C' tl k0 k1 k2 k3 n k5 hm hs
 simp only[xjm,beq_iff_eq,Bool.not_eq_true'] at q
 obtain⟨⟨⟨⟨⟨e1,e2⟩,hdel⟩,ht⟩,hok⟩,hni⟩:=q
 subst e1 e2
 have get:=X _ _ ho
 obtain⟨nm,bs,mro,ns,qn,hd,sn,sub,ab,col,del⟩:=cd
 obtain⟨sl⟩:=sl
 dsimp only at hm hdel hok hni hs
 subst hm hdel hs
 exact⟨tl,ns,nm,qn,bs,hd,sn,sub,ab,col,dd,k0,k1,k2,k3,k5,_,get,.of_isNs (PySem.W.isNs_of_in X hok),PySem.W.nsMap_none_of_in X hok hni,PySem.W.tail_of_in X ht⟩
theorem xbO {K:PySem.W.Frag}{h:Heap}{mg:Str→Option Value}{x:Str}{C:Addr}{bm:List Value}{newId:String}(M:Mod K mg h)(e:mg x=some (.ref C))(q:PySem.W.excIn K C bm newId=true):OwnCls x C bm newId mg h:=xam M.kin e q
abbrev xiO:List Value:=[.type "ValueError", .type "Exception", .type "BaseException", .type "object"]
def dR (K:PySem.W.Frag):Sp:=fun vs H Q _=>∃(a:Addr) (ns:List Int),vs=[.ref a]∧(xgQ H∧xfQ K H)∧SqL K H a (ns.map V.int)∧ns.length≤63∧∀H',(∀b o,H b=some o→H' b=some o)→Q (.bl true) H'
section
variable {P:Program} {w:World} {K:PySem.W.Frag} {mg:Str→Option Value} {base:Heap} {k:Nat} {x qual:Str} {st:Stmt} {f:Addr} {fd:FuncData} {N ps:List Str}
theorem xa1 (F:Fun K x qual st f fd)(hfd:fd.code=.ref c)(S:xA N ps (xf st))(hn:ps.length=1)
  (body:∀(A:Around) (outer:List Env) (s:Shared) (H:Hp) (E:XK),jg k (A.deeper (envOfC qual (xf st) s.heap.objs.size f (.ref c))) →
   ∃T D,PSs (dm CX0 P w K mg base N qual (xf st) f (.ref c) A outer s H E).nox (zj st) T∧OkS K false T D∧∀ns:List Int,ns.length≤63→D { nx:=fun _=>False,rt:=fun t=>t=.bl true } (.sc ns::List.replicate (N.length-1) .un)) :
  aM P w K mg base CX0 (k+1) f fd ps (dR K):=by
 have hpl:ps.length≤N.length:=by have:=xlq List.length S.pre;rw[xkA] at this;omega
 obtain⟨oc,od,kV,doc,pm,an,cdv,ct,osl,rfl,lk,hcd⟩:=F.ex
 cases (show cdv=.ref c from hfd)
 refine xe6 lk hcd S (fun vs H Q E h=>?_) fun A outer s H vs Q E hr h=>?_
 ·obtain⟨a,ns,rfl,_⟩:=h
  exact hn.symm
 ·obtain⟨a,ns,rfl,⟨hO,hT⟩,hS,hl,q⟩:=h
  obtain⟨T,D,ht,hd,h⟩:=body A outer s H E hr
  have so:xdB K H a ns:=by
   refine⟨?_,hT⟩
   rcases hS with (z | ⟨o,z⟩) | z
   ·exfalso
    rcases hO a with (y | ⟨o,xs,y⟩) | ⟨_,y⟩
    ·rw[y] at z;cases z
    ·rw[y] at z;cases z
    ·rw[y] at z;cases z
   ·exact .inl ⟨o,z⟩
   ·exact .inr fun _=>.inr z
  have R:RS K ⟨fun _=>False,fun _=>False,H,[]⟩ (fun _=>none) (start N [.ref a]) (.sc ns::List.replicate (N.length-1) .un) H:=by
   refine⟨fun _ z=>z.elim,fun _ z=>z,fun _ _ e _=>e,fun a s=>?_,fun i j a us _ e=>(by cases e),fun i a e=>(by cases e),?_,fun i=>?_,fun p hp=>absurd hp (by simp)⟩
   ·rcases s with s | ⟨i,s,_⟩
    ·exact s.elim
    ·cases s
   ·rw[dW (by simp;omega)]
    simp;omega
   ·cases i with
    | zero=>exact⟨a,jL rfl,hl,so⟩
    | succ i =>
     show Ent K _ _ H (i+1) _ (nth (List.replicate (N.length-1) .un) i)
     rcases gN (ts:=[]) (n:=N.length-1) (i:=i) rfl with e | ⟨t,h,e⟩
     ·rw[xkF,xkV] at e
      rw[e];trivial
     ·simp at h
  refine⟨T,ht.nox,hd _ _ _ _ H _ _ R (h ns hl) ⟨fun _ _ _ _ _ z=>z.elim,fun _ _ _ _ _ z=>z.elim,fun _ _ _ _ _ z=>z.elim,fun t v H1 r1 x k fl=>?_⟩⟩
  cases (show t=.bl true from k)
  cases (show v=.bl true from r1)
  exact q H1 fun b o e=>x.ext b o e fun z=>z
end
theorem xbi {P:Program}{w:World}{K:PySem.W.Frag}{mg mb:Str→Option Value}{k:Nat}{fa a T:Addr}{q:Str}{fd:FuncData}{x:Str}{s₁:Shared}{vs:List Value}{ns:List Int}
  (KX:K.In s₁.heap) (hns:s₁.heap.Ns mainGlobals mg) (hb:s₁.heap.Ns builtinsNs mb) (hbb:∀x:Str,x ≠ "__name__" → mb x=bootBuiltins x) (hlim:s₁.heap.NoLimit) (hg:s₁.gens = #[])
  (ha:s₁.heap.get? a=some { cls:=.type "list", data:=.seq vs.toArray }) (hi:IntsAre vs ns) (hl:ns.length≤63) (hr:jg k callerA)
  (hT:xfU K=some (T,q)) (hT0:s₁.heap.get? T=some { cls:=.none,data:=.fields #[] }) (hTK:K.lookup T=none) (hTC:isCodeTable s₁.heap T)
  (F:∀base:Heap,Mod K mg base→aM P w K mg base CX0 k fa fd [x] (dR K)) (hbind:∀(s:Shared) (u:Value),BindsTo s fd ⟨[u],[]⟩ [(x,u)]) :
  codeAny (model P w) callerA (.call (.ref fa) ⟨[.ref a],[]⟩) (fun r s'=>r=.ok (.ret (.bool true))∧OldK s₁.heap s'.heap∧s'.os=s₁.os∧AllBare s'.gens) s₁:=by
 have rv:=sC hi
 have lenV:=hi.length
 have hl2:ns.length≤sizeLine:=xld hl (by decide)
 have aT:a≠T:=fun z=>by subst z;rw[ha] at hT0;cases hT0
 have core:∀H:Hp,xgQ H→SqL K H a (ns.map V.int)→HOk P w H s₁.heap→(∀b,H b≠none→b=a∨b=T)→H T=some (.tb q)→(H a≠none→K.lookup a=none) →
   codeAny (model P w) callerA (.call (.ref fa) ⟨[.ref a],[]⟩) (fun r s'=>r=.ok (.ret (.bool true))∧OldK s₁.heap s'.heap∧s'.os=s₁.os∧AllBare s'.gens) s₁:=by
  intro H hO hS hok hA hHT hK
  have base_of:∀ {b:Addr} {o:Obj},s₁.heap.get? b=some o→H b=none→(o7 s₁.heap H).get? b=some o:=fun e n=>o8 e n
  have noA:∀ {b:Addr} {o:Obj} {es:Array DictEntry} {ep:Nat},s₁.heap.get? b=some o→o.data=.dict es ep→H b=none:=fun {b o es ep} e d=>by
   cases q:H b with
   | none=>rfl
   | some u =>
    rcases hA b (by rw[q];simp) with e' | e'
    ·subst e'
     rw[ha] at e;cases e
     cases (show Data.seq vs.toArray _=Data.dict es ep from d)
    ·subst e'
     rw[hT0] at e;cases e
     cases (show Data.fields #[]=Data.dict es ep from d)
  have nsK:∀ {b:Addr} {m:Str→Option Value},s₁.heap.Ns b m→(o7 s₁.heap H).Ns b m:=fun {b m} ⟨o,es,ep,e,d,r⟩=>⟨o,es,ep,base_of e (noA e d),d,r⟩
  have hKb:K.In (o7 s₁.heap H):=fun b o e=>base_of (KX b o e) (by
   cases q:H b with
   | none=>rfl
   | some u =>
    rcases hA b (by rw[q];simp) with e' | e'
    ·subst e'
     rw[hK (by rw[q];simp)] at e;cases e
    ·subst e'
     rw[hTK] at e;cases e)
  have hM:Mod K mg (o7 s₁.heap H):=⟨hKb,nsK hns,⟨mb,nsK hb,hbb⟩,let ⟨mc,h1,h2⟩:=hlim;⟨mc,nsK h1,h2⟩⟩
  have e0:xdA P w K mg (o7 s₁.heap H) callerA [] s₁ H:=⟨rfl,hM,fun b o e=>xcb e,Nat.le_of_eq (mS _ _),trivial,fun b hb=>absurd (show b∈([]:List Addr) from hb) (by simp),hok,.of_eq hg⟩
  have tab:xfQ K H:=fun T' q' e=>by rw[hT] at e;cases e;exact hHT
  have sp:dR K [.ref a] H (fun v H'=>v=.bl true∧∀b o,H b=some o→H' b=some o) (fun _ _ _=>False):=⟨a,ns,rfl,⟨hO,tab⟩,hS,hl,fun H' k=>⟨rfl,k⟩⟩
  refine codeAny_mono ((F _ hM).run callerA [] s₁ H ⟨[.ref a],[]⟩ [.ref a] [.ref a] _ _ hr e0 (hbind s₁ (.ref a)) (.cons rfl .nil) sp) fun r s' h=>?_
  cases r with
  | error e=>exact False.elim h
  | ok fl =>
   cases fl with
   | next=>exact False.elim h
   | brk=>exact False.elim h
   | cont=>exact False.elim h
   | ret u =>
    obtain⟨v,H',os,bare,un,hok',r',qv,qk⟩:=h
    subst qv
    obtain rfl:u=Value.bool true:=r'
    refine⟨rfl,⟨fun b o e=>?_,fun b o e=>un.there b o e (by simp)⟩,os,bare⟩
    cases q:H b with
    | none=>exact .inl (un.keep b o e q (by intro z;exact absurd (show b∈([]:List Addr) from z) (by simp)) (by simp))
    | some u =>
     rcases hO b with (z | ⟨ob,xs,z⟩) | ⟨q',z⟩
     ·rw[q] at z;cases z
     ·have z2:=un.frzs b ob _ z
      obtain⟨e1,_⟩:=hok b _ z
      obtain⟨e2,_⟩:=hok' b _ z2
      rw[e] at e1;cases e1
      exact .inl e2
     ·have ebT:b=T:=by
       rcases hA b (by rw[q];simp) with y | y
       ·subst y
        obtain⟨ps,e1,_⟩:=hok b _ z
        rw[ha] at e1;cases e1
       ·exact y
      subst ebT
      obtain⟨ps,e1,_⟩:=hok' b _ (qk b _ z)
      rw[hT0] at e;cases e
      exact .inr (.inl ⟨hTC,rfl,#[],ps,rfl,by rw[e1];simp⟩)
 have okT:∀H:Hp,uH P w H s₁.heap T (.tb q):=fun H=>⟨#[],hT0,trivial,fun pos cv e=>by cases e⟩
 cases hk:K.lookup a with
 | some o =>
  have e:=KX a o hk
  rw[ha] at e
  cases e
  refine core (fun b=>if b=T then some (.tb q) else none) (fun b=>?_) (.inr ⟨_,vs.toArray,_,hk,rfl,rfl,rfl,by rw[xk2,lenV];exact hl2,by simpa using rv⟩) (fun b u z=>?_) (fun b z=>?_) (if_pos rfl) fun z=>absurd (if_neg aT) z
  ·by_cases hb:b=T
   ·exact .inr ⟨q,if_pos hb⟩
   ·exact .inl (.inl (if_neg hb))
  ·by_cases hb:b=T
   ·have z':=(if_pos hb).symm.trans z
    cases z'
    subst hb
    exact okT _
   ·have z':=(if_neg hb).symm.trans z
    cases z'
  ·by_cases hb:b=T
   ·exact .inr hb
   ·exact absurd (if_neg hb) z
 | none =>
  have eT:(fun b=>if b=T then some (HO.tb q) else if b=a then some (.frz { cls:=.type "list", data:=.seq vs.toArray } (.lst (ns.map V.int))) else none) T=some (.tb q):=if_pos rfl
  have ea:(fun b=>if b=T then some (HO.tb q) else if b=a then some (.frz { cls:=.type "list", data:=.seq vs.toArray } (.lst (ns.map V.int))) else none) a=some (.frz { cls:=.type "list", data:=.seq vs.toArray } (.lst (ns.map V.int))):=by
   show(if a=T then _ else _)=_
   rw[if_neg aT,if_pos rfl]
  have en:∀b,b≠T→b≠a→(fun b=>if b=T then some (HO.tb q) else if b=a then some (.frz { cls:=.type "list", data:=.seq vs.toArray } (.lst (ns.map V.int))) else none) b=none:=fun b n1 n2=>by
   show(if b=T then _ else _)=_
   rw[if_neg n1,if_neg n2]
  generalize (fun b=>if b=T then some (HO.tb q) else if b=a then some (.frz { cls:=.type "list", data:=.seq vs.toArray } (.lst (ns.map V.int))) else none)=H at eT ea en
  refine core H (fun b=>?_) (.inl (.inr ⟨{ cls:=.type "list", data:=.seq vs.toArray },ea⟩)) (fun b u z=>?_) (fun b z=>?_) eT fun _=>hk
  ·by_cases hb:b=T
   ·subst hb;exact .inr ⟨q,eT⟩
   ·by_cases hb2:b=a
    ·subst hb2;exact .inl (.inr ⟨_,_,ea⟩)
    ·exact .inl (.inl (en b hb hb2))
  ·by_cases hb:b=T
   ·subst hb
    rw[eT] at z;cases z
    exact okT _
   ·by_cases hb2:b=a
    ·subst hb2
     rw[ea] at z;cases z
     exact⟨ha,by rw[xkv];exact hl2,vs,_,rv,ha⟩
    ·rw[en b hb hb2] at z;cases z
  ·by_cases hb:b=T
   ·exact .inr hb
   ·by_cases hb2:b=a
    ·exact .inl hb2
    ·exact absurd (en b hb hb2) z
theorem xc7 {l:PySem.W.OpenLaw}{k:Nat}{p:Program}{loose:List Str}{XP:(Str→Option Value)→Heap→Prop}{YP:World→Heap→Prop}{d:DefRec}{K:Params→PySem.W.Frag}{x q:Str}{T:Addr}
  (hn:l.most=some 63) (hdf:d.params.defaults=[]) (hr:jg k callerA)
  (hY:∀(w:World) (h:Heap),YP w h→(K w.params).In h) (hT:∀P,xfU (K P)=some (T,q)) (hT0:∀(w:World) (h:Heap),YP w h→h.get? T=some { cls:=.none,data:=.fields #[] }) (hTK:∀P,(K P).lookup T=none)
  (hTC:∀(w:World) (h:Heap),(K w.params).In h→isCodeTable h T)
  (F:∀(w:World) (mg:Str→Option Value) (fa:Addr) (h:Heap),(K w.params).In h→h.Ns mainGlobals mg→mg d.name=some (.ref fa) →
   ∃fd:FuncData,(∀(s:Shared) (u:Value),BindsTo s fd ⟨[u],[]⟩ [(x,u)]) ∧
    ∀base:Heap,Mod (K w.params) mg base→aM l.prog w (K w.params) mg base CX0 k fa fd [x] (dR (K w.params))) :
  PySem.W.WalkO p loose XP YP l.row.toRowW d [] (fun f vs=>PySem.call f vs):=by
 refine Att.dJ hn hdf fun w s₀ s₁ mg mb fa o pm cd doc a vs ns G Y ho hd hcd hmg hobj hints hlen hg=>?_
 have KX:=hY w _ Y
 obtain⟨fd,hb,hF⟩:=F w mg fa _ KX G.T.g hmg
 exact xbi KX G.T.g G.T.b G.T.builtins G.T.nolimit hg hobj hints hlen hr (hT _) (hT0 w _ Y) (hTK _) (hTC w _ KX) hF hb
end L2
theorem PySem.W.CodeHd.isTable {h:PySem.Heap}{c P:PySem.Addr}(x:PySem.W.CodeHd h c P):PySem.isCodeTable h P:=let ⟨o,vs,_,_,_,_,_,_,_,h1,h2,h3,h4,_⟩:=x;⟨c,o,vs,h1,h2,h3,h4⟩
namespace L2
open PySem
def drT (a b:Int):Tr:=.tup [.int a,.int b]
def k7:Tr→Bool
 | .tup [.int a,.int b]=>!decide (a=0) || !decide (b=0)
 | _=>false
theorem sd (h:k7 t=true):∃x y:Int,t=drT x y:=by
 unfold k7 at h
 split at h
 ·exact⟨_,_,rfl⟩
 ·cases h
def xhD (t:Tr):Prop:=∀us,t=.tup us→us.length<sizeLine
def tn (a b c d:Int):Int:=a*d-b*c
def L24 (i:Int):Prop:=-(10 ^ 24)≤i∧i≤10 ^ 24
theorem L24.bd (h:L24 i):Bd i:=cG (by unfold L24 at h;omega) (by unfold L24 at h;omega)
def L4 (a b c d:Int):Prop:=(L24 a∧L24 b)∧L24 c∧L24 d
theorem og {a b:Int}{m n:Nat}(h1:-(m:Int)≤a∧a≤m)(h2:-(n:Int)≤b∧b≤n):-((m*n:Nat):Int)≤a*b∧a*b≤((m*n:Nat):Int):=by
 have h:=xjT a b
 have h3:a.natAbs≤m:=by omega
 have h4:b.natAbs≤n:=by omega
 have h5:=xlj h3 h4
 omega
theorem xic (h:L4 a b c d):Bd (tn a b c d):=by
 obtain⟨⟨h1,h2⟩,h3,h4⟩:=h
 have x:=og (m:=10 ^ 24) (n:=10 ^ 24) h1 h4
 have y:=og (m:=10 ^ 24) (n:=10 ^ 24) h2 h3
 unfold tn
 refine cG ?_ ?_<;>omega
def xee:TSp:=fun ts KK=>∃t,ts=[t]∧xhD t∧KK (.bl (k7 t))
def fV:TSp:=fun ts KK=>∃a b c d:Int,ts=[drT a b,drT c d]∧L4 a b c d∧0<tn a b c d∧KK (.int (tn a b c d))
def xcP (n d:Int):Tr:=frT (mZ n d) (rp n d)
def fh (a b c d:Int):Tr→Tr
 | .tup [.int x,.int y]=>if x=0∧y=0 then .non else if tn x y c d<0∨tn a b x y<0 then .non else .tup [xcP (tn x y c d) (tn a b c d),xcP (tn a b x y) (tn a b c d)]
 | _=>.non
theorem xcA (h:0<d):xcP n d=fT (lfr n d):=by rw[uD h];rfl
def xi2:Tr→Prop
 | .tup [.int x,.int y]=>L24 x∧L24 y
 | _=>True
def xeo:TSp:=fun ts KK=>∃(a b c d:Int) (t:Tr),ts=[drT a b,drT c d,t]∧L4 a b c d∧xhD t∧xi2 t∧0<tn a b c d∧KK (fh a b c d t)
theorem xdo (h:us.length≤100000):xhD (.tup us):=fun vs e=>by cases e;exact sqz (by omega)
theorem xc5 (x y:Int):xhD (drT x y):=xdo (by simp)
theorem oH (j:Int):xen (.lst [.int j]) (.lst [.int j]):=⟨rfl,rfl,by show min 1 1≤64;decide⟩
end L2
namespace L2
open PySem
end L2
namespace L2
open PySem PySem.Spec PyProof.Rows
section
variable {X:Cx} {pos:Pos}
def xhl (i j k:Nat)(ta:TA):TS:=fun D σ H=>ta σ H fun vs H1=>∃u v w,vs=[u,v,w]∧D.nx (((σ.set i (some u)).set j (some v)).set k (some w)) H1
theorem xbP (hc:X.calm=true)(hN:X.N.Nodup)(hi:X.N[i]? = some x)(hj:X.N[j]? = some y)(hk:X.N[k]? = some z)(hij:i≠j∧i≠k∧j≠k)
  (hx:X.env.scope.names.lookup x=some .local) (hy:X.env.scope.names.lookup y=some .local) (hz:X.env.scope.names.lookup z=some .local) (ha:PA X [a,b,c] ta)
  (hw:swappedStores [.Tuple [.Name x px,.Name y py,.Name z pz] kt pt] (.Tuple [a,b,c] k2 pt2) X.env=pure (some [x,y,z]))
  (hs:swapsWithSole [.Tuple [.Name x px,.Name y py,.Name z pz] kt pt] (.Tuple [a,b,c] k2 pt2) pos.line X.env=pure false:=by rfl) :
  PS X (.Assign [.Tuple [.Name x px,.Name y py,.Name z pz] kt pt] (.Tuple [a,b,c] k2 pt2) pos) (xhl i j k ta):=by
 intro pins s σ H D I h
 rw[exec_Assign_arm]
 refine wpAny_bind (wpAny_standAt ?_)
 rw[hs]
 refine wpAny_bind (wpAny_pure ?_)
 rw[if_neg (by decide)]
 refine wpAny_bind (Tuple_ (thn (@ha _ pins s σ H _ I h) fun us s1 ⟨vs,H1,I1,r1,q1⟩=>?_))
 obtain⟨v,w,t,e1,q1⟩:=q1
 subst e1
 obtain⟨u1,u2,u3,rfl,rv,rw',rt⟩:∃u1 u2 u3,us=[u1,u2,u3]∧RelV v u1∧RelV w u2∧RelV t u3:=by
  cases r1 with
  | cons p q =>
   cases q with
   | cons p' q' =>
    cases q' with
    | cons p2 q2 =>
     cases q2
     exact⟨_,_,_,rfl,p,p',p2⟩
 refine wpAny_newObj_type ?_ (by show 3≤sizeLine;decide)
 have I2:Inv X pins σ H1 { s1 with heap:=s1.heap.push { cls:=.type "tuple", data:=.seq [u1,u2,u3].toArray } }:=I1.kept (t':=s1.toks) fun b o e=>Heap.get?_push_of_some _ e
 rw[hw]
 refine wpAny_bind (wpAny_pure ?_)
 show wpAny (model X.prog X.w) X.A (do rule "assign.swapped-stores"; let items ←unpackItems (.ref s1.heap.objs.size) 3 none;assignInOrder [fun v=>bindName X.env z v,fun v=>bindName X.env y v,fun v=>bindName X.env x v] items.reverse;pure Flow.next) _ _ _
 refine wpAny_bind (wpAny_rule (wpAny_bind (unpackItems_tuple (items := #[u1,u2,u3]) (I.ok.hd hc) (IsTup.new s1.heap _) fun h' hx'=>?_)))
 have I3:=I2.kept (h':=h') (t':=s1.toks) fun b o e=>hx' b o (xlm (Heap.lt_size e)) e
 show wpAny _ _ (assignInOrder [fun v=>bindName X.env z v,fun v=>bindName X.env y v,fun v=>bindName X.env x v] [u3,u2,u1] >>= fun _=>pure Flow.next) _ _ _
 refine wpAny_bind (assignInOrder_cons (wpAny_bindName (vb I3 hN hk (.inl hz) rt (fun s2 I4=>?_) (.inr hz))))
 refine assignInOrder_cons (wpAny_bindName (vb I4 hN hj (.inl hy) rw' (fun s3 I5=>?_) (.inr hy)))
 refine assignInOrder_cons (wpAny_bindName (vb I5 hN hi (.inl hx) rv (fun s4 I6=>assignInOrder_nil (wpAny_pure ?_)) (.inr hx)))
 rw[List.set_comm _ _ (Ne.symm hij.1),List.set_comm _ _ (Ne.symm hij.2.1),List.set_comm _ _ (Ne.symm hij.2.2)] at I6
 exact⟨_,H1,I6,q1⟩
end
section
variable {K:PySem.W.Frag} {fr:Bool}
def xh6 (i j k:Nat)(d:DA):DS:=fun G τ=>d τ fun ts=>match ts with | [t,u,v]=>G.nx (((τ.set i (.fz t)).set j (.fz u)).set k (.fz v)) | _=>False
theorem xhU (h:zU F H [t,u,x] vs):∃v w y,vs=[v,w,y]∧Rep F H t v∧Rep F H u w∧Rep F H x y:=by
 obtain⟨v,vs,rfl,h1,h2⟩:=h
 obtain⟨w,y,rfl,h3,h4⟩:=xbH h2
 exact⟨v,w,y,rfl,h1,h3,h4⟩
theorem oC (h:OkA K true n ta da):OkS K fr (xhl i j k ta) (xh6 i j k da):=fun B φ σ τ H E G R hd e =>
 h B φ σ τ H _ _ R hd fun ts vs H1 x1 k1 l1 r1=>by
  match ts,k1,r1 with
  | [t,u,z],k1,r1 =>
   obtain⟨v,w,y,rfl,h1,h2,h3⟩:=xhU r1
   have m:∀ {φ':Phi} {i:Nat} {t:Tr} {v:V},Rep (Av B φ') H1 t v→Rep (Av B (φ'.del i)) H1 t v:=fun r=>yD (fun a o e n=>⟨e,fun z=>n (k6 z)⟩) _ _ r
   exact⟨v,w,y,rfl,e.nx _ _ _ H1 ((((R.hx x1).setFz h1).setFz (m h2)).setFz (m (m h3))) k1⟩
end
end L2
namespace L2
open PySem
def lY:Tr→Bool
 | .tup [.int a,.int b]=>decide (1≤b)&&decide (Int.gcd a b=1)
 | _=>false
structure Wt (w:F2):Prop where
 pos:0<w.2
 cop:Int.gcd w.1 w.2=1
 nn:0≤w.1
 sm:Fk 40 w
def Cop (f:F2):Prop:=0<f.2∧Int.gcd f.1 f.2=1
theorem p5 (h:0<b):Cop (lfr t b):=by rw[uD h];exact⟨Fra.wm h,Fra.dZ h⟩
theorem Sd.low (h:Sd f N D)(c:Cop f):L2.lfr N D=f:=by
 rw[uD h.pd]
 have:=Fra.rB (Fra.dZ h.pd) c.2 (Fra.wm h.pd) c.1 (by
  have e:=h.e
  have l:=Fra.uP N D
  generalize (Fra.low N D).1=x at *
  generalize (Fra.low N D).2=y at *
  have hD:=h.pd
  have:(x*f.2)*D=(f.1*y)*D:=by grind
  exact xju (by omega) this)
 exact Prod.ext this.1 this.2
theorem Sd.plusD (h:Sd f N D)(h':Sd g M D):Sd (sP f g) (N+M) D:=by
 refine Sd.lfr (Pol.pp h.pf h'.pf) h.pd ?_ rfl
 have:=h.e;have:=h'.e
 grind
def fq (k:Pol.R3→Int)(f:F2)(x:Pol.R3×F2):F2:=sP f (aS x.2 (k x.1,1))
def wsum (k:Pol.R3→Int)(l:List (Pol.R3×F2)):F2:=l.foldl (fq k) (0,1)
theorem ma (k:Pol.R3→Int)(l:List (Pol.R3×F2))(h:∀x∈l,0<x.2.2):Cop (wsum k l):=by
 unfold wsum
 have go:∀(l:List (Pol.R3×F2)) (f:F2),Cop f→(∀x∈l,0<x.2.2)→Cop (l.foldl (fq k) f):=fun l=>by
  induction l with
  | nil=>exact fun f c _=>c
  | cons x l ih =>
   intro f c h
   refine ih _ ?_ fun y hy=>h y (xkK _ hy)
   have hx:=h x xkL
   have:0<(aS x.2 (k x.1,1)).2:=xem (by show x.2.2*1≠0;omega)
   exact p5 (Pol.pp c.1 this)
 exact go l (0,1) ⟨by decide,by decide⟩ h
theorem xbe (hw:0<w.2)(hD:0<D)(e:w.2*q=D):Sd (aS w (r,1)) (q*w.1*r) D:=by
 refine Sd.lfr (by show 0<w.2*1;omega) hD ?_ rfl
 show w.1*r*D=q*w.1*r*(w.2*1)
 rw[←e];grind
theorem Fk.plus2 (h:Fk k f)(h':Fk m g):Fk (k+m+1) (sP f g):=by
 unfold sP
 refine sA (by have:=Pol.pp h.pos h'.pos;omega) ?_ ?_
 ·exact(h.top.mul h'.bot).add ((h'.top.mul h.bot).mono (by omega))
 ·exact(h.bot.mul h'.bot).mono (by omega)
theorem Fk.timI (h:Fk k f)(hr:Bk m r):Fk (k+m) (aS f (r,1)):=by
 unfold aS
 refine sA (by have:=h.pos;show f.2*1≠0;omega) (h.top.mul hr) ?_
 show Bk (k+m) (f.2*1)
 rw[xjR]
 exact h.bot.mono (by omega)
theorem xa4 (k:Pol.R3→Int):∀(l:List (Pol.R3×F2)),(∀x∈l,Fk 40 x.2∧Bk 10 (k x.1))→Fk (1+51*l.length) (wsum k l):=by
 have go:∀(l:List (Pol.R3×F2)) (f:F2) (n:Nat),Fk n f→(∀x∈l,Fk 40 x.2∧Bk 10 (k x.1))→Fk (n+51*l.length) (l.foldl (fq k) f):=fun l=>by
  induction l with
  | nil=>exact fun f n c _=>c
  | cons x l ih =>
   intro f n c h
   have hx:=h x xkL
   have:=ih (fq k f x) (n+51) (c.plus2 (hx.1.timI hx.2)) fun y hy=>h y (xkK _ hy)
   rw[xkr]
   exact this.mono (by omega)
 exact fun l h=>go l (0,1) 1 ⟨by unfold Bk;decide,by unfold Bk;decide,by decide⟩ h
theorem wsum_snoc (k:Pol.R3→Int)(l:List (Pol.R3×F2))(x:Pol.R3×F2):wsum k (l++[x])=fq k (wsum k l) x:=by unfold wsum;rw[xkd];rfl
def k0 (r:Pol.R3):Int:=r.1
def k1 (r:Pol.R3):Int:=r.2.1
def k2 (r:Pol.R3):Int:=r.2.2
def xij (l:List (Pol.R3×F2)):Tr:=.tup [fT (wsum k0 l),fT (wsum k1 l),fT (wsum k2 l)]
structure WS (rows:List Pol.R3)(ws:List F2):Prop where
 len:rows.length=ws.length
 l100:rows.length≤8
 sm:∀r∈rows,B3k 10 r
 wt:∀w∈ws,Wt w
theorem WS.zip (h:WS rows ws)(hx:x∈rows.zip ws):B3k 10 x.1∧Wt x.2:=by
 obtain⟨a,b⟩:=x
 have:=xkZ hx
 exact⟨h.sm a this.1,h.wt b this.2⟩
def bN:TSp:=fun ts KK=>∃(rows:List Pol.R3) (ws:List F2),ts=[.tup (rows.map trR),.tup (ws.map fT)]∧WS rows ws ∧
 ∀a b c D:Int,Sd (wsum k0 (rows.zip ws)) a D→Sd (wsum k1 (rows.zip ws)) b D→Sd (wsum k2 (rows.zip ws)) c D→Bd D→KK (.tup [.lst [.int a,.int b,.int c],.int D])
def xd5:TSp:=fun ts KK=>∃(rows:List Pol.R3) (ws:List F2),ts=[.tup (rows.map trR),.tup (ws.map fT)]∧WS rows ws∧KK (xij (rows.zip ws))
def n9 (a b:F2):Prop:=a.2=1∧b.2=1∧¬(a.1=0∧b.1=0)
def xek:TSp:=fun ts KK=>∃a b c:F2,ts=[.tup [fT a,fT b,fT c]]∧(0<c.2∧Bd c.2)∧n9 a b∧KK (trR (a.1,b.1,c.1.fdiv c.2))
def oN:TSp:=fun ts KK=>∃(rows:List Pol.R3) (ws:List F2),ts=[.tup (rows.map trR),.tup (ws.map fT)]∧WS rows ws∧KK (xij (rows.zip ws))
theorem t8 (f:α→Tr)(g:β→Tr):∀(l:List α) (m:List β),xan (l.map f) (m.map g)=(l.zip m).map fun x=>.tup [f x.1,g x.2]
 | [],_=>rfl
 | _::_,[]=>rfl
 | x::l,y::m=>by show Tr.tup [f x,g y]::xan (l.map f) (m.map g)=_;rw[t8 f g l m];rfl
theorem xgp (ht:0≤t∧t≤1000000)(hb:1≤b∧b≤1000000):Wt (lfr t b):=by
 have c:=p5 (t:=t) (b:=b) (by omega)
 have s:Sd (lfr t b) t b:=by rw[uD (by omega)];exact nX (by omega)
 refine⟨c.1,c.2,?_,sA (by omega) (by unfold Bk;omega) (by unfold Bk;omega)⟩
 refine xjV.mp fun z=>?_
 have:=s.neg.mp z
 omega
theorem Cop.lfr (c:Cop f):L2.lfr f.1 f.2=f:=Sd.low (xbC c.1) c
def rwT (x:Pol.R3×F2):Tr:=.tup [trR x.1,fT x.2]
def ar (x:Pol.R3×F2):Bool := !decide (x.2.1=0)
theorem lR (c:Cop f)(h:Wt x.2)(hz:x.2.1=0):fq k f x=f:=by
 have e:x.2=(0,1):=by
  have g:=h.cop
  rw[hz,Int.gcd_zero_left] at g
  have p:=h.pos
  exact Prod.ext hz (by show x.2.2=1;omega)
 unfold fq
 rw[e]
 have e2:aS (0,1) (k x.1,1)=(0,1):=by
  unfold aS
  show L2.lfr (0*k x.1) (1*1)=(0,1)
  rw[Int.zero_mul];decide
 rw[e2]
 unfold sP
 show L2.lfr (f.1*1+0*f.2) (f.2*1)=f
 rw[xjR,Int.zero_mul,Int.add_zero,xjR]
 exact c.lfr
theorem sO (k:Pol.R3→Int)(l:List (Pol.R3×F2))(h:∀x∈l,Wt x.2):wsum k (l.filter ar)=wsum k l:=by
 have go:∀(l:List (Pol.R3×F2)) (f:F2),Cop f→(∀x∈l,Wt x.2)→(l.filter ar).foldl (fq k) f=l.foldl (fq k) f:=fun l=>by
  induction l with
  | nil=>exact fun f c _=>rfl
  | cons x l ih =>
   intro f c h
   have hx:=h x xkL
   have hl:=fun y hy=>h y (xkK x hy)
   have c':Cop (fq k f x):=p5 (Pol.pp c.1 (xem (by have:=hx.pos;show x.2.2*1≠0;omega)))
   by_cases z:x.2.1=0
   ·rw[xj_ (by simp[ar,z]),ih f c hl,xke,lR c hx z]
   ·rw[xka (by simp[ar,z]),xke,xke,ih _ c' hl]
 exact go l (0,1) ⟨by decide,by decide⟩ h
theorem xc6 (hD:0<D)(hw:0<w):0<D / (Int.gcd D w:Nat)*w∧D ∣ D / (Int.gcd D w:Nat)*w∧w ∣ D / (Int.gcd D w:Nat)*w∧(D / (Int.gcd D w:Nat)*w).natAbs≤(D*w).natAbs:=by
 have g0:(0:Int)<(Int.gcd D w:Nat):=by have:=xjA D (show w≠0 by omega);omega
 have dl:=xjx D w
 have dr:=xjy D w
 generalize ((Int.gcd D w:Nat):Int)=g at *
 obtain⟨q,rfl⟩:=dl
 obtain⟨p,rfl⟩:=dr
 rw[Int.mul_ediv_cancel_left q (show g≠0 by omega)]
 have q0:0<q:=xjW hD g0
 refine⟨Pol.pp q0 hw,⟨p,by grind⟩,Int.dvd_mul_left ..,?_⟩
 rw[xjT,xjT (g*q)]
 refine xlk _ ?_
 have:1*q≤g*q:=xjN (by omega) (by omega)
 omega
theorem oO (x:α):∀n:Nat,(List.replicate n [x]).flatten=List.replicate n x
 | 0=>rfl
 | n+1=>by rw[xk0,xkc,oO x n];rfl
theorem lC {α:Type}{f:α→Tr}{i n:Nat}{di:DE}{τ:TSt}{KK:TSt→Prop}{l:List α}{w:α}(h:nth τ i=.ow (l.map f))(hn:n<l.length)(hd:∀KK':Tr→Prop,KK' (.int n)→di τ KK')(k:KK (τ.set i (.ow ((l.set n w).map f)))):xht i di (f w) τ KK:=by
 unfold xht
 rw[h]
 refine hd _ ?_
 have e:xhi (l.map f) (f w) (n:Int)=some ((l.set n w).map f):=by
  show(if n<(l.map f).length then some ((l.map f).set n (f w)) else none)=_
  rw[if_pos (by rw[xkv];exact hn),List.map_set]
 show match xhi (l.map f) (f w) (n:Int) with | some us=>KK (τ.set i (.ow us)) | none=>False
 rw[e]
 exact k
instance (a b:F2):Decidable (n9 a b):=by unfold n9;infer_instance
def xbv (l:List (Pol.R3×F2)):Tr:=trR ((wsum k0 l).1,(wsum k1 l).1,(wsum k2 l).1.fdiv (wsum k2 l).2)
def xgv:TSp:=fun ts KK=>∃(rows:List Pol.R3) (ws:List F2),ts=[.tup (rows.map trR),.tup (ws.map fT)]∧WS rows ws∧KK (if n9 (wsum k0 (rows.zip ws)) (wsum k1 (rows.zip ws)) then xbv (rows.zip ws) else .non)
theorem WS.bot (H:WS rows ws):0<(wsum k2 (rows.zip ws)).2∧Bd (wsum k2 (rows.zip ws)).2:=by
 have f:=xa4 k2 (rows.zip ws) fun x hx=>⟨(H.zip hx).2.sm,(H.zip hx).1.2⟩
 have:(rows.zip ws).length≤8:=by rw[List.length_zip];have:=H.l100;omega
 exact⟨f.pos,(f.bot.mono (show 1+51*(rows.zip ws).length≤500 by omega)).bd⟩
def wsT (ws:List F2):Tr:=.tup (ws.map fT)
def GW (n:Nat)(ws:List F2):Prop:=ws.length=n∧∀w∈ws,Wt w
end L2
namespace Trn
abbrev D2:=Int×Int
def cr (p q:D2):Int:=p.1*q.2-p.2*q.1
def sc (m:Int)(p:D2):D2:=(m*p.1,m*p.2)
def ad (p q:D2):D2:=(p.1+q.1,p.2+q.2)
def sb (p q:D2):D2:=(p.1-q.1,p.2-q.2)
theorem zB (p:D2):cr p p=0:=by unfold cr;grind
theorem vU (p q:D2):cr q p = - cr p q:=by unfold cr;grind
theorem br (w p q:D2):cr w (ad p q)=cr w p+cr w q:=by unfold cr ad;grind
theorem kU (w p:D2)(m:Int):cr w (sc m p)=m*cr w p:=by unfold cr sc;grind
theorem lN (w p q:D2):cr w (sb p q)=cr w p-cr w q:=by unfold cr sb;grind
theorem xeU (w p q:D2):cr (ad p q) w=cr p w+cr q w:=by unfold cr ad;grind
theorem mJ (w p:D2)(m:Int):cr (sc m p) w=m*cr p w:=by unfold cr sc;grind
theorem m_ (w p q:D2):cr (sb p q) w=cr p w-cr q w:=by unfold cr sb;grind
theorem oU (h:cr p q=1)(x:D2):x=ad (sc (cr x q) p) (sc (cr p x) q):=by
 have e1:cr x q*p.1+cr p x*q.1=x.1*cr p q:=by unfold cr;grind
 have e2:cr x q*p.2+cr p x*q.2=x.2*cr p q:=by unfold cr;grind
 rw[h] at e1 e2
 apply Prod.ext
 ·show x.1=cr x q*p.1+cr p x*q.1;omega
 ·show x.2=cr x q*p.2+cr p x*q.2;omega
structure Chn (h:List D2):Prop where
 one:∀i p q,h[i]? = some p→h[i+1]? = some q→cr p q=1
 mid:∀i p q r,h[i]? = some p→h[i+1]? = some q→h[i+2]? = some r→∃m,2≤m∧ad p r=sc m q
theorem xbz {m a:Int}(h:2≤m)(ha:0≤a):2*a≤m*a:=xjN h ha
theorem Chn.right {h:List D2}(C:Chn h)(w:D2){i:Nat}{p0 q0:D2}(hp:h[i]? = some p0)(hq:h[i+1]? = some q0)(h0:0≤cr w q0)(h1:cr w p0≤cr w q0) :
  ∀k p q,h[i+k]? = some p→h[i+k+1]? = some q→0≤cr w q∧cr w p≤cr w q
 | 0,p,q,ep,eq=>by
  rw[show i+0=i from rfl] at ep eq
  rw[hp] at ep;rw[hq] at eq;cases ep;cases eq
  exact⟨h0,h1⟩
 | k+1,p,q,ep,eq=>by
  have il:i+k<h.length:=by have:=(xkk.mp ep).1;omega
  obtain⟨a,b⟩:=C.right w hp hq h0 h1 k h[i+k] p (xki il) ep
  obtain⟨m,hm,e⟩:=C.mid (i+k) _ p q (xki il) ep eq
  have e':=xlq (cr w) e
  rw[br,kU] at e'
  have:=xbz hm a
  omega
theorem Chn.left {h:List D2}(C:Chn h)(w:D2){i:Nat}{p0 q0:D2}(hp:h[i]? = some p0)(hq:h[i+1]? = some q0)(h0:0≤cr w p0)(h1:cr w q0≤cr w p0) :
  ∀k j p q,j+k=i→h[j]? = some p→h[j+1]? = some q→0≤cr w p∧cr w q≤cr w p
 | 0,j,p,q,e,ep,eq=>by
  cases (show j=i by omega)
  rw[hp] at ep;rw[hq] at eq;cases ep;cases eq
  exact⟨h0,h1⟩
 | k+1,j,p,q,ej,ep,eq=>by
  have il:j+2<h.length:=by have:=(xkk.mp hq).1;omega
  obtain⟨a,b⟩:=C.left w hp hq h0 h1 k (j+1) q h[j+2] (by omega) eq (xki il)
  obtain⟨m,hm,e⟩:=C.mid j p q _ ep eq (xki il)
  have e':=xlq (cr w) e
  rw[br,kU] at e'
  have:=xbz hm a
  omega
theorem Chn.ge1 {h:List D2}(C:Chn h){i:Nat}{p q:D2}(hp:h[i]? = some p)(hq:h[i+1]? = some q){j:Nat}{x:D2}(hx:h[j]? = some x):1≤cr (sb p q) x:=by
 have one:=C.one i p q hp hq
 have gp:cr (sb p q) p=1:=by rw[m_,zB,vU p q];omega
 have gq:cr (sb p q) q=1:=by rw[m_,zB];omega
 have jl:=(xkk.mp hx).1
 have ql:=(xkk.mp hq).1
 have R:∀k y,h[i+k+1]? = some y→1≤cr (sb p q) y:=fun k=>by
  induction k with
  | zero=>intro y ey;rw[hq] at ey;cases ey;omega
  | succ k ih =>
   intro y ey
   have il:i+k+1<h.length:=by have:=(xkk.mp ey).1;omega
   have a:=ih _ (xki il)
   have b:=C.right (sb p q) hp hq (by omega) (by omega) (k+1) _ y (xki il) ey
   omega
 have L:∀k j y,j+k=i→h[j]? = some y→1≤cr (sb p q) y:=fun k=>by
  induction k with
  | zero=>intro j y ej ey;cases (show j=i by omega);rw[hp] at ey;cases ey;omega
  | succ k ih =>
   intro j y ej ey
   have il:j+1<h.length:=by omega
   have a:=ih (j+1) _ (by omega) (xki il)
   have b:=C.left (sb p q) hp hq (by omega) (by omega) (k+1) j y _ ej ey (xki il)
   omega
 by_cases c:j≤i
 ·exact L (i-j) j x (by omega) hx
 ·exact R (j-i-1) x (by rw[show i+(j-i-1)+1=j by omega];exact hx)
theorem Chn.order {h:List D2}(C:Chn h){i j:Nat}{p x:D2}(hp:h[i]? = some p)(hx:h[j]? = some x)(hij:i<j):1≤cr p x:=by
 have jl:=(xkk.mp hx).1
 have il:i+1<h.length:=by omega
 have hq:=xki il
 have one:=C.one i p _ hp hq
 have R:∀k y,h[i+k+1]? = some y→1≤cr p y:=fun k=>by
  induction k with
  | zero=>intro y ey;rw[hq] at ey;cases ey;omega
  | succ k ih =>
   intro y ey
   have il:i+k+1<h.length:=by have:=(xkk.mp ey).1;omega
   have a:=ih _ (xki il)
   have b:=C.right p hp hq (by omega) (by rw[zB];omega) (k+1) _ y (xki il) ey
   omega
 exact R (j-i-1) x (by rw[show i+(j-i-1)+1=j by omega];exact hx)
def InC (u v x:D2):Prop:=0≤cr u x∧0≤cr x v
theorem Chn.made (C:Chn h)(h2:2≤h.length)(hf:h[0]? = some f)(hl:h[h.length-1]? = some l)(hx:InC f l x) :
  ∃i p q,h[i]? = some p∧h[i+1]? = some q∧0≤cr x q∧0≤cr p x:=by
 have go:∀k i p,i+k=h.length-1→h[i]? = some p→0≤cr p x→i<h.length-1→∃i p q,h[i]? = some p∧h[i+1]? = some q∧0≤cr x q∧0≤cr p x:=fun k=>by
  induction k with
  | zero=>intro i p e _ _ z;omega
  | succ k ih =>
   intro i p e hp h0 il
   have jl:i+1<h.length:=by omega
   have hq:=xki jl
   by_cases c:0≤cr x h[i+1]
   ·exact⟨i,p,_,hp,hq,c,h0⟩
   ·have s:=vU h[i+1] x
    by_cases d:i+1=h.length-1
    ·have e2:h[i+1]=l:=by rw[←d,hq] at hl;cases hl;rfl
     rw[e2] at c
     exact absurd hx.2 c
    ·exact ih (i+1) _ (by omega) hq (by omega) (by omega)
 exact go (h.length-1) 0 f (by omega) hf hx.1 (by omega)
theorem Chn.get_pair {h:List D2}(h2:2≤h.length){j:Nat}{x:D2}(hx:h[j]? = some x):∃i p q,h[i]? = some p∧h[i+1]? = some q∧(x=p∨x=q):=by
 have jl:=(xkk.mp hx).1
 by_cases c:j+1<h.length
 ·exact⟨j,x,_,hx,xki c,.inl rfl⟩
 ·have il:j-1<h.length:=by omega
  exact⟨j-1,_,x,xki il,by rw[show j-1+1=j by omega];exact hx,.inr rfl⟩
theorem lE {a b:Int}(ha:0≤a)(hb:0≤b):0≤a*b:=Int.mul_nonneg ha hb
theorem td {a b:Int}(ha:0≤a)(hb:1≤b):a≤a*b:=by
 have:=xjM hb ha
 omega
theorem Chn.pos {h:List D2}(C:Chn h){f l x:D2}(h2:2≤h.length)(hf:h[0]? = some f)(hl:h[h.length-1]? = some l)(hx:InC f l x)(nz:x≠(0,0)){i:Nat}{p q:D2}(hp:h[i]? = some p)(hq:h[i+1]? = some q) :
  1≤cr (sb p q) x:=by
 obtain⟨j,a,b,ha,hb,c1,c2⟩:=C.made h2 hf hl hx
 have e:=oU (C.one j a b ha hb) x
 have g1:=C.ge1 hp hq ha
 have g2:=C.ge1 hp hq hb
 have e':=xlq (cr (sb p q)) e
 rw[br,kU,kU] at e'
 have m1:=td c1 g1
 have m2:=td c2 g2
 have:¬(cr x b=0∧cr a x=0):=fun z=>by
  rw[z.1,z.2] at e
  apply nz
  rw[e];simp[ad,sc]
 omega
def xc8 (u v x:D2):Prop:=(InC u v x∧x≠(0,0))∧∀y z,InC u v y→InC u v z→y≠(0,0)→z≠(0,0)→x≠ad y z
theorem Chn.inC {h:List D2}(C:Chn h){f l x:D2}(hf:h[0]? = some f)(hl:h[h.length-1]? = some l){j:Nat}(hx:h[j]? = some x):InC f l x:=by
 have jl:=(xkk.mp hx).1
 constructor
 ·by_cases c:j=0
  ·subst c;rw[hf] at hx;cases hx;rw[zB];omega
  ·have:=C.order hf hx (by omega);omega
 ·by_cases c:j=h.length-1
  ·rw[←c] at hl;rw[hl] at hx;cases hx;rw[zB];omega
  ·have:=C.order hx hl (by omega);omega
theorem Chn.nz {h:List D2}(C:Chn h)(h2:2≤h.length){j:Nat}{x:D2}(hx:h[j]? = some x):x≠(0,0):=fun z=>by
 obtain⟨i,p,q,hp,hq,e⟩:=Chn.get_pair h2 hx
 have:=C.one i p q hp hq
 rcases e with rfl | rfl<;>rw[z] at this<;>simp[cr] at this
theorem Chn.least {h:List D2}(C:Chn h){f l x:D2}(h2:2≤h.length)(hf:h[0]? = some f)(hl:h[h.length-1]? = some l):(∃j:Nat,h[j]? = some x)↔xc8 f l x:=by
 constructor
 ·rintro⟨j,hx⟩
  refine⟨⟨C.inC hf hl hx,C.nz h2 hx⟩,fun y z hy hz ny nz' e=>?_⟩
  obtain⟨i,p,q,hp,hq,ex⟩:=Chn.get_pair h2 hx
  have one:=C.one i p q hp hq
  have gx:cr (sb p q) x=1:=by
   rcases ex with rfl | rfl
   ·rw[m_,zB,vU x q];omega
   ·rw[m_,zB];omega
  have g1:=C.pos h2 hf hl hy ny hp hq
  have g2:=C.pos h2 hf hl hz nz' hp hq
  rw[e,br] at gx
  omega
 ·rintro⟨⟨hc,nz⟩,hs⟩
  obtain⟨j,a,b,ha,hb,c1,c2⟩:=C.made h2 hf hl hc
  have e:=oU (C.one j a b ha hb) x
  have ca:=C.inC hf hl ha
  have cb:=C.inC hf hl hb
  generalize cr x b=al at e c1
  generalize cr a x=be at e c2
  have inc:∀s t:Int,0≤s→0≤t→InC f l (ad (sc s a) (sc t b)):=fun s t hs ht=>by
   refine⟨?_,?_⟩
   ·rw[br,kU,kU]
    have:=lE hs ca.1;have:=lE ht cb.1;omega
   ·rw[xeU,mJ,mJ]
    have:=lE hs ca.2;have:=lE ht cb.2;omega
  have one:=C.one j a b ha hb
  have nz2:∀s t:Int,ad (sc s a) (sc t b)=(0,0)→s=0∧t=0:=fun s t z=>by
   have z1:cr (ad (sc s a) (sc t b)) b=0:=by rw[z];simp[cr]
   have z2:cr a (ad (sc s a) (sc t b))=0:=by rw[z];simp[cr]
   rw[xeU,mJ,mJ,zB,one] at z1
   rw[br,kU,kU,zB,one] at z2
   omega
  by_cases c:al+be≤1
  ·have:(al=0∧be=0)∨(al=1∧be=0)∨(al=0∧be=1):=by omega
   rcases this with ⟨rfl,rfl⟩ | ⟨rfl,rfl⟩ | ⟨rfl,rfl⟩
   ·exact absurd (by rw[e];simp[ad,sc]) nz
   ·exact⟨j,by rw[ha,e];simp[ad,sc]⟩
   ·exact⟨j+1,by rw[hb,e];simp[ad,sc]⟩
  ·exfalso
   by_cases d:1≤al
   ·refine hs a (ad (sc (al-1) a) (sc be b)) ca (inc _ _ (by omega) c2) (C.nz h2 ha) (fun z=>?_) ?_
    ·have:=nz2 _ _ z;omega
    ·rw[e];simp only[ad,sc];apply Prod.ext<;>simp only<;>grind
   ·refine hs b (ad (sc al a) (sc (be-1) b)) cb (inc _ _ c1 (by omega)) (C.nz h2 hb) (fun z=>?_) ?_
    ·have:=nz2 _ _ z;omega
    ·rw[e];simp only[ad,sc];apply Prod.ext<;>simp only<;>grind
end Trn
namespace Trn
theorem Chn.snoc (C:Chn (h0++[p,q]))(hm:2≤m):Chn (h0++[p,q]++[sb (sc m q) p]):=by
 have ep:(h0++[p,q])[h0.length]? = some p:=by simp
 have eq':(h0++[p,q])[h0.length+1]? = some q:=by rw[xkh (by omega)];simp[show h0.length+1-h0.length=1 by omega]
 have one:=C.one _ _ _ ep eq'
 have new:∀ {i x},(h0++[p,q]++[sb (sc m q) p])[i]? = some x→(i<h0.length+2∧(h0++[p,q])[i]? = some x)∨(i=h0.length+2∧x=sb (sc m q) p):=fun {i x} h=>by
  have l2:(h0++[p,q]).length=h0.length+2:=by simp
  by_cases c:i<h0.length+2
  ·rw[xkg (by omega)] at h;exact .inl ⟨c,h⟩
  ·rw[xkh (by omega),l2] at h
   have il:=(xkk.mp h).1
   simp at il
   have:i=h0.length+2:=by omega
   rw[this] at h;simp at h;exact .inr ⟨this,h.symm⟩
 refine⟨fun i x y hx hy=>?_,fun i x y z hx hy hz=>?_⟩
 ·rcases new hy with ⟨c,hy⟩ | ⟨c,rfl⟩
  ·rcases new hx with ⟨_,hx⟩ | ⟨d,_⟩
   ·exact C.one i x y hx hy
   ·omega
  ·rcases new hx with ⟨_,hx⟩ | ⟨d,_⟩
   ·rw[show i=h0.length+1 by omega,eq'] at hx;cases hx
    rw[lN,kU,zB,vU p q];omega
   ·omega
 ·rcases new hz with ⟨c,hz⟩ | ⟨c,rfl⟩
  ·rcases new hx with ⟨_,hx⟩ | ⟨d,_⟩
   ·rcases new hy with ⟨_,hy⟩ | ⟨d,_⟩
    ·exact C.mid i x y z hx hy hz
    ·omega
   ·omega
  ·rcases new hx with ⟨_,hx⟩ | ⟨d,_⟩
   ·rcases new hy with ⟨_,hy⟩ | ⟨d,_⟩
    ·rw[show i=h0.length by omega,ep] at hx;cases hx
     rw[show i+1=h0.length+1 by omega,eq'] at hy;cases hy
     exact⟨m,hm,by apply Prod.ext<;>simp only[ad,sb,sc]<;>omega⟩
    ·omega
   ·omega
def Bx (n:Int)(p:D2):Prop:=(-n≤p.1∧p.1≤n)∧-n≤p.2∧p.2≤n
theorem xhA (hD:0<D)(e:x*D=T*a+S*b)(hT:0≤T∧T≤D)(hS:0≤S∧S≤D)(ha:-M≤a∧a≤M)(hb:-M≤b∧b≤M):-(2*M)≤x∧x≤2*M:=by
 have hM:0≤M:=by omega
 have t1:T*a≤D*M:=Int.le_trans (xjM ha.2 hT.1) (xjN hT.2 hM)
 have s1:S*b≤D*M:=Int.le_trans (xjM hb.2 hS.1) (xjN hS.2 hM)
 have t2:-(D*M)≤T*a:=by
  have:=xjM ha.1 hT.1
  have:=xjN hT.2 hM
  rw[Int.mul_neg] at *
  omega
 have s2:-(D*M)≤S*b:=by
  have:=xjM hb.1 hS.1
  have:=xjN hS.2 hM
  rw[Int.mul_neg] at *
  omega
 constructor
 ·refine xjD (a:=D) ?_ hD
  rw[e,Int.neg_mul,show 2*M*D=D*M+D*M by grind];omega
 ·refine xjD (a:=D) ?_ hD
  rw[e,show 2*M*D=D*M+D*M by grind];omega
theorem sZ (f l x:D2):x.1*cr f l=cr x l*f.1+cr f x*l.1∧x.2*cr f l=cr x l*f.2+cr f x*l.2:=by
 unfold cr;constructor<;>grind
structure Run (f l:D2)(M:Int)(h0:List D2)(p q:D2):Prop where
 chn:Chn (h0++[p,q])
 fst:(h0++[p,q])[0]? = some f
 s:0≤cr f p∧cr f p<cr f q
 t:0≤cr q l∧cr q l<cr p l∧cr p l≤cr f l
 len:(h0.length:Int)+cr q l≤cr f l
 bd:∀x∈h0++[p,q],Bx (2*M) x
theorem Run.one (R:Run f l M h0 p q):cr p q=1:=by
 refine R.chn.one h0.length p q (by simp) ?_
 rw[xkh (by omega)];simp[show h0.length+1-h0.length=1 by omega]
theorem cdiv (hb:0<b):0≤-((-a).fdiv b)*b-a∧-((-a).fdiv b)*b-a<b:=by
 rw[xjv _ (by omega)]
 have h1:=xjt (-a) (show b≠0 by omega)
 have h2:=xjs (-a) hb
 have h3:=Int.mul_ediv_add_emod (-a) b
 rw[Int.neg_mul,xjI]
 omega
theorem Run.step (R:Run f l M h0 p q)(hf:Bx M f)(hl:Bx M l)(h0':0<cr q l)(em:m = -((-(cr p l)).fdiv (cr q l))) :
  2≤m∧m≤cr f l∧Run f l M (h0++[p]) q (sb (sc m q) p)∧cr (sb (sc m q) p) l<cr q l:=by
 obtain⟨t1,t2,t3⟩:=R.t
 obtain⟨s1,s2⟩:=R.s
 obtain⟨d1,d2⟩:=cdiv (a:=cr p l) h0'
 rw[←em] at d1 d2
 have m2:2≤m:=by
  refine xjV.mp fun z=>?_
  have:m*cr q l≤1*cr q l:=xjN (by omega) (by omega)
  omega
 have mD:m≤cr f l:=by
  refine xjV.mp fun z=>?_
  have a:(cr f l+1)*cr q l≤m*cr q l:=xjN (by omega) (by omega)
  have b:cr f l*1≤cr f l*cr q l:=xjM (by omega) (by omega)
  rw[Int.add_mul] at a
  omega
 have sr:cr f (sb (sc m q) p)=m*cr f q-cr f p:=by rw[lN,kU]
 have tr:cr (sb (sc m q) p) l=m*cr q l-cr p l:=by rw[m_,mJ]
 have sg:=xbz m2 (show 0≤cr f q by omega)
 have C:=R.chn.snoc m2
 rw[show h0++[p,q]++[sb (sc m q) p]=(h0++[p])++[q,sb (sc m q) p] by simp] at C
 have key:Chn (h0++[p]++[q,sb (sc m q) p])∧(0≤cr f q∧cr f q<cr f (sb (sc m q) p))∧(0≤cr (sb (sc m q) p) l∧cr (sb (sc m q) p) l<cr q l∧cr q l≤cr f l) :=
  ⟨C,⟨by omega,by omega⟩,by omega,by omega,by omega⟩
 have one':cr q (sb (sc m q) p)=1:=by rw[lN,kU,zB,vU p q,R.one];omega
 have sle:cr f (sb (sc m q) p)≤cr f l:=by
  have e:=xlq (cr f) (oU one' l)
  rw[br,kU,kU,vU (sb (sc m q) p) l] at e
  have a:(cr (sb (sc m q) p) l+1)*cr f (sb (sc m q) p)≤cr q l*cr f (sb (sc m q) p):=xjN (by omega) (by omega)
  have b:cr (sb (sc m q) p) l*cr f q≤cr (sb (sc m q) p) l*cr f (sb (sc m q) p):=xjM (by omega) (by omega)
  rw[Int.add_mul] at a
  rw[Int.neg_mul] at e
  omega
 refine⟨m2,mD,⟨C,?_,key.2.1,key.2.2,?_,fun x hx=>?_⟩,by omega⟩
 ·have e:h0++[p]++[q,sb (sc m q) p]=(h0++[p,q])++[sb (sc m q) p]:=by simp
  rw[e,xkg (by simp)];exact R.fst
 ·have:=R.len;simp only[xkq,xkz];omega
 ·have e:h0++[p]++[q,sb (sc m q) p]=(h0++[p,q])++[sb (sc m q) p]:=by simp
  rw[e] at hx
  rcases xkG.mp hx with hx | hx
  ·exact R.bd x hx
  ·rw[xkU.mp hx]
   obtain⟨e1,e2⟩:=sZ f l (sb (sc m q) p)
   exact⟨xhA (by omega) e1 ⟨by omega,by omega⟩ ⟨by omega,sle⟩ hf.1 hl.1,xhA (by omega) e2 ⟨by omega,by omega⟩ ⟨by omega,sle⟩ hf.2 hl.2⟩
theorem Run.stop (R:Run f l M h0 p q)(hg:Int.gcd l.1 l.2=1):cr q l=0↔q=l:=by
 constructor
 ·intro z
  have e:=oU R.one l
  rw[vU q l,z] at e
  have e1:l.1=cr p l*q.1:=by have:=xlq Prod.fst e;simp only[ad,sc] at this;omega
  have e2:l.2=cr p l*q.2:=by have:=xlq Prod.snd e;simp only[ad,sc] at this;omega
  have d:cr p l ∣ ((Int.gcd l.1 l.2:Nat):Int):=xjo ⟨q.1,e1⟩ ⟨q.2,e2⟩
  rw[hg] at d
  have t:=R.t
  have:cr p l=1:=Int.eq_one_of_dvd_one (by omega) d
  rw[this] at e1 e2
  exact Prod.ext (by omega) (by omega)
 ·intro e;rw[e,zB]
end Trn
namespace Trn
def gd (p:D2):Int:=(Int.gcd p.1 p.2:Nat)
def und (p:D2):D2:=(p.1 / gd p,p.2 / gd p)
theorem vf (h:p≠(0,0)):0<gd p:=by
 unfold gd
 have:0<Int.gcd p.1 p.2:=Int.gcd_pos_iff.mpr (by
  by_cases c:p.1=0
  ·exact .inr fun z=>h (Prod.ext c z)
  ·exact .inl c)
 omega
theorem fi (h:p≠(0,0)):p=sc (gd p) (und p):=by
 apply Prod.ext
 ·exact(xjK (xjx p.1 p.2)).symm
 ·exact(xjK (xjy p.1 p.2)).symm
theorem xcg (h:p≠(0,0)):Int.gcd (und p).1 (und p).2=1:=by
 have g0:=vf h
 unfold gd at g0
 exact Int.gcd_ediv_gcd_ediv_gcd (by omega)
theorem xeb (h:p≠(0,0))(b:Bx n p):Bx n (und p):=by
 have g0:=vf h
 have e:=fi h
 have k:∀ {a c g:Int},a=g*c→0<g→(-n≤a∧a≤n)→-n≤c∧c≤n:=fun {a c g} e hg hb=>by
  by_cases z:0≤c
  ·have:1*c≤g*c:=xjN (by omega) z
   omega
  ·have:g*c≤1*c:=Int.mul_le_mul_of_nonpos_right (by omega) (by omega)
   omega
 exact⟨k (xlq Prod.fst e) g0 b.1,k (xlq Prod.snd e) g0 b.2⟩
theorem xbw (h:0<cr u v):u≠(0,0)∧v≠(0,0):=by
 constructor<;>intro z<;>rw[z] at h<;>simp[cr] at h
theorem xey (h:0<cr u v):cr u v=gd u*(gd v*cr (und u) (und v))∧0<cr (und u) (und v):=by
 obtain⟨hu,hv⟩:=xbw h
 have e:cr u v=gd u*(gd v*cr (und u) (und v)):=by
  conv=>lhs;rw[fi hu,fi hv]
  rw[mJ,kU]
 refine⟨e,?_⟩
 have a:=vf hu
 have b:=vf hv
 rw[e] at h
 exact xjW (xjW h a) b
theorem xbA {g a:Int}(h:0<g):0≤g*a↔0≤a:=by
 constructor
 ·intro z
  refine xjV.mp fun c=>?_
  have:=xjQ h c
  omega
 ·exact fun z=>Int.mul_nonneg (xjB h) z
theorem gm {u v x:D2}(h:0<cr u v):InC (und u) (und v) x↔InC u v x:=by
 obtain⟨hu,hv⟩:=xbw h
 unfold InC
 have e1:cr u x=gd u*cr (und u) x:=(xlq (fun y=>cr y x) (fi hu)).trans (mJ _ _ _)
 have e2:cr x v=gd v*cr x (und v):=(xlq (fun y=>cr x y) (fi hv)).trans (kU _ _ _)
 rw[e1,e2,xbA (vf hu),xbA (vf hv)]
def inS (u v x:D2):Bool:=decide (((0≤cr x v∧cr x v≤cr u v)∧0≤cr u x∧cr u x≤cr u v)∧x≠(0,0))
theorem xc8.parts (h:0<cr f l)(L:xc8 f l x):cr x l≤cr f l∧cr f x≤cr f l:=by
 obtain⟨⟨⟨c1,c2⟩,nz⟩,hs⟩:=L
 obtain⟨nf,nl⟩:=xbw h
 have e:∀a b:D2,a=ad b (sb a b):=fun a b=>by apply Prod.ext<;>simp only[ad,sb]<;>omega
 constructor
 ·refine xjV.mp fun z=>hs f (sb x f) ⟨by rw[zB];omega,by omega⟩ ⟨by rw[lN,zB];omega,by rw[m_];omega⟩ nf (fun w=>?_) (e x f)
  have:cr (sb x f) l=0:=by rw[w];simp[cr]
  rw[m_] at this;omega
 ·refine xjV.mp fun z=>hs l (sb x l) ⟨by omega,by rw[zB];omega⟩ ⟨by rw[lN];omega,by rw[m_,zB];omega⟩ nl (fun w=>?_) (e x l)
  have:cr f (sb x l)=0:=by rw[w];simp[cr]
  rw[lN] at this;omega
theorem dE (h:inS u v x=true):InC u v x∧x≠(0,0):=by
 have h:=xlx h
 exact⟨⟨h.1.2.1,h.1.1.1⟩,h.2⟩
theorem xb5 (h:0<cr u v):(inS u v x=true∧∀p,inS u v p=true→inS u v (sb x p)=true→False)↔xc8 (und u) (und v) x:=by
 obtain⟨eD,hD⟩:=xey h
 obtain⟨hu,hv⟩:=xbw h
 constructor
 ·rintro⟨hx,hs⟩
  refine⟨⟨(gm h).mpr (dE hx).1,(dE hx).2⟩,fun y z hy hz ny nz e=>?_⟩
  have hy:=(gm h).mp hy
  have hz:=(gm h).mp hz
  have hx:=xlx hx
  have ez:sb x y=z:=by rw[e];apply Prod.ext<;>simp only[ad,sb]<;>omega
  have e1:cr x v=cr y v+cr z v:=by rw[e,xeU]
  have e2:cr u x=cr u y+cr u z:=by rw[e,br]
  obtain⟨hy1,hy2⟩:=hy
  obtain⟨hz1,hz2⟩:=hz
  refine hs y (xlt ⟨⟨⟨hy2,by omega⟩,hy1,by omega⟩,ny⟩) ?_
  rw[ez]
  exact xlt ⟨⟨⟨hz2,by omega⟩,hz1,by omega⟩,nz⟩
 ·intro L
  obtain⟨p1,p2⟩:=L.parts hD
  have c:=(gm h).mp L.1.1
  have e1:cr x v=gd v*cr x (und v):=(xlq (fun y=>cr x y) (fi hv)).trans (kU _ _ _)
  have e2:cr u x=gd u*cr (und u) x:=(xlq (fun y=>cr y x) (fi hu)).trans (mJ _ _ _)
  have gu:=vf hu
  have gv:=vf hv
  have b1:cr x v≤cr u v:=by
   rw[e1,eD]
   have a1:gd v*cr x (und v)≤gd v*cr (und u) (und v):=xjM p1 (by omega)
   have a2:=td (a:=gd v*cr (und u) (und v)) (b:=gd u) (Int.mul_nonneg (by omega) (by omega)) (by omega)
   rw[xjI _ (gd u)] at a2
   omega
  have b2:cr u x≤cr u v:=by
   rw[e2,eD]
   have a1:gd u*cr (und u) x≤gd u*cr (und u) (und v):=xjM p2 (by omega)
   have a2:=td (a:=cr (und u) (und v)) (b:=gd v) (by omega) (by omega)
   rw[xjI _ (gd v)] at a2
   have a3:=xjM a2 (show 0≤gd u by omega)
   omega
  refine⟨xlt ⟨⟨⟨c.2,b1⟩,c.1,b2⟩,L.1.2⟩,fun p hp hq=>?_⟩
  have hp:=dE hp
  have hq:=dE hq
  refine L.2 p (sb x p) ((gm h).mpr hp.1) ((gm h).mpr hq.1) hp.2 hq.2 ?_
  apply Prod.ext<;>simp only[ad,sb]<;>omega
structure xaf (u v:D2)(h:List D2):Prop where
 chn:Chn h
 l2:2≤h.length
 len:h.length≤100000
 fst:h[0]? = some (und u)
 lst:h[h.length-1]? = some (und v)
 bd:∀x∈h,Bx 1000 x
theorem xaf.mem {u v x:D2}{h:List D2}(hD:0<cr u v)(B:xaf u v h):x∈h↔(inS u v x=true∧∀p,inS u v p=true→inS u v (sb x p)=true→False):=by
 rw[xb5 hD,←B.chn.least B.l2 B.fst B.lst]
 exact List.mem_iff_getElem?
end Trn
namespace L2
open PySem Trn
def drD (p:D2):Tr:=drT p.1 p.2
theorem xgg (hn:n≤1000000)(hu:Bx n u)(hv:Bx n v):L4 u.1 u.2 v.1 v.2:=by
 unfold Bx at hu hv;unfold L4 L24;omega
theorem l9 (hn:n≤1000000)(hu:Bx n u):Bd u.1∧Bd u.2:=⟨wK (by unfold Bx at hu;omega),wK (by unfold Bx at hu;omega)⟩
theorem _root_.Trn.Bx.mono (h:Bx n u)(hm:n≤m):Bx m u:=by unfold Bx at *;omega
theorem xc2 (hu:Bx n u)(hv:Bx n v):-(2*(n*n))≤cr u v∧cr u v≤2*(n*n):=by
 obtain⟨k,rfl⟩:∃k:Nat,n=(k:Int):=⟨n.toNat,by unfold Bx at hu;omega⟩
 have a:=og hu.1 hv.2
 have b:=og hu.2 hv.1
 rw[Int.natCast_mul] at a b
 unfold cr;omega
def xev:TSp:=fun ts KK=>∃p:D2,ts=[drD p]∧p≠(0,0)∧Bx 1000 p∧KK (drD (und p))
def bV:TSp:=fun ts KK=>∃a b:Int,ts=[.int a,.int b]∧((-200≤a∧a≤200)∧-200≤b∧b≤200)∧Int.gcd a b=1∧∀p q:Int,a*p+b*q=1→Bk 1700 p→Bk 1700 q→KK (.tup [.int p,.int q])
def rE:TSp:=fun ts KK=>∃f l:D2,ts=[drD f,drD l]∧Bx 200 f∧Bx 200 l∧Int.gcd f.1 f.2=1∧0<cr f l∧∀q:D2,cr f q=1→0≤cr q l→cr q l<cr f l→KK (drD q)
def s_:TSp:=fun ts KK=>∃p q l:D2,ts=[drD p,drD q,drD l]∧(Bx 1000 p∧Bx 1000 q∧Bx 1000 l)∧0<cr q l∧KK (drD (sb (sc (-((-(cr p l)).fdiv (cr q l))) q) p))
def lB:TSp:=fun ts KK=>∃u v:D2,ts=[drD u,drD v]∧Bx 200 u∧Bx 200 v∧0<cr u v∧∀h,xaf u v h→KK (.lst (h.map drD))
theorem xbI (p q:D2):teq (drD p) (drD q)=decide (p=q):=dB p q
theorem xc1 (p q:D2):xen (drD p) (drD q):=⟨rfl,rfl,by show min 1 1≤64;decide⟩
theorem oQ {a b:Int}(hb:b≠0):(a.fmod b).natAbs<b.natAbs:=by
 rw[Int.fmod_eq_emod]
 have h1:=xjt a hb
 have h2:=Int.emod_lt a hb
 split
 ·omega
 ·rename_i c
  have hn:¬0≤b:=fun z=>c (.inl z)
  have:a % b≠0:=fun z=>c (.inr (Int.dvd_of_emod_eq_zero z))
  omega
theorem fG {a b:Int}(hb:b≠0):(a.fdiv b).natAbs≤a.natAbs+1:=by
 have e:=Int.mul_fdiv_add_fmod a b
 have m:=oQ (a:=a) hb
 have e2:(b*a.fdiv b).natAbs=b.natAbs*(a.fdiv b).natAbs:=xjT _ _
 have e3:(b*a.fdiv b).natAbs≤a.natAbs+b.natAbs:=by omega
 rw[e2] at e3
 refine Nat.not_lt.mp fun z=>?_
 have h1:b.natAbs*(a.natAbs+2)≤b.natAbs*(a.fdiv b).natAbs:=Nat.mul_le_mul_left _ (by omega)
 have h2:1*a.natAbs≤b.natAbs*a.natAbs:=xlk _ (by omega)
 rw[Nat.mul_add] at h1
 omega
theorem fmod_eq (a b:Int):a-a.fdiv b*b=a.fmod b:=by
 have e:=Int.mul_fdiv_add_fmod a b
 rw[xjI] at e
 omega
theorem xdQ (a b:Int):Int.gcd b (a.fmod b)=Int.gcd a b:=by
 rw[←fmod_eq,Int.gcd_comm a b]
 apply Nat.dvd_antisymm
 ·refine Int.dvd_gcd (xjx _ _) ?_
  have h1:=xjx b (a-a.fdiv b*b)
  have h2:=xjy b (a-a.fdiv b*b)
  have:=Int.dvd_add h2 (Int.dvd_mul_of_dvd_right (b:=a.fdiv b) h1)
  rwa [show a-a.fdiv b*b+a.fdiv b*b=a by omega] at this
 ·exact Int.dvd_gcd (xjx _ _) (Int.dvd_sub (xjy _ _) (Int.dvd_mul_of_dvd_right (xjx _ _)))
theorem xbK (ts:List α)(x y:α):atT (ts++[x,y]) (-2)=some x:=by
 show(if 1<(ts++[x,y]).length then getT (ts++[x,y]) ((ts++[x,y]).length-1-1) else none)=_
 have e:(ts++[x,y]).length=ts.length+2:=by simp
 rw[e,if_pos (by omega),dw,show ts.length+2-1-1=ts.length by omega]
 simp
end L2
namespace L2
open PySem Trn
def wJ (rows:List Pol.R3)(i:Nat):Pol.R3:=rows.getD i (0,0,0)
def yg (rows:List Pol.R3)(i:Nat):D2:=((wJ rows i).1,(wJ rows i).2.1)
theorem fQ (h:i<rows.length):rows[i]? = some (wJ rows i):=by
 unfold wJ
 rw[xkf,xki h];rfl
theorem fH (h:i<rows.length):wJ rows i∈rows:=xkR (fQ h)
def wy (rows:List Pol.R3)(n:Nat)(acc:Option Nat)(o:Nat):Option Nat :=
 if 0<cr (yg rows n) (yg rows o) then(match acc with | none=>some o | some m=>if 0<cr (yg rows o) (yg rows m) then some o else some m) else acc
def lW (rows:List Pol.R3)(nums:List Nat)(n:Nat):Option Nat:=nums.foldl (wy rows n) none
theorem cq:∀(nums:List Nat) (acc:Option Nat),(∀m,acc=some m→0<cr (yg rows n) (yg rows m)) →
  (∀m,nums.foldl (wy rows n) acc=some m→0<cr (yg rows n) (yg rows m)∧(m∈nums∨acc=some m))∧((acc≠none∨∃o∈nums,0<cr (yg rows n) (yg rows o))→nums.foldl (wy rows n) acc≠none)
 | [],acc,h=>⟨fun m e=>⟨h m e,.inr e⟩,fun z=>z.elim id fun⟨o,ho,_⟩=>absurd ho (by simp)⟩
 | o::nums,acc,h=>by
  have h':∀m,wy rows n acc o=some m→0<cr (yg rows n) (yg rows m)∧(m=o∨acc=some m):=fun m e=>by
   unfold wy at e
   split at e
   ·rename_i c
    cases acc with
    | none=>cases e;exact⟨c,.inl rfl⟩
    | some k =>
     dsimp only at e
     split at e
     ·cases e;exact⟨c,.inl rfl⟩
     ·cases e;exact⟨h _ rfl,.inr rfl⟩
   ·exact⟨h m e,.inr e⟩
  obtain⟨g1,g2⟩:=cq nums (wy rows n acc o) fun m e=>(h' m e).1
  refine⟨fun m e=>?_,fun z=>g2 ?_⟩
  ·obtain⟨p,q⟩:=g1 m e
   refine⟨p,?_⟩
   rcases q with q | q
   ·exact .inl (xkK _ q)
   ·rcases(h' m q).2 with r | r
    ·exact .inl (by rw[r];exact xkL)
    ·exact .inr r
  ·have keep:acc≠none→wy rows n acc o≠none:=fun a=>by
    unfold wy
    split
    ·cases acc with
     | none=>exact absurd rfl a
     | some k=>dsimp only;split<;>exact fun z=>nomatch z
    ·exact a
   rcases z with z | ⟨o',ho,c⟩
   ·exact .inl (keep z)
   ·rcases xkJ.mp ho with rfl | ho
    ·left
     unfold wy
     rw[if_pos c]
     cases acc with
     | none=>exact fun z=>nomatch z
     | some k=>dsimp only;split<;>exact fun z=>nomatch z
    ·exact .inr ⟨o',ho,c⟩
def vI (rows:List Pol.R3)(nums:List Nat):List (Nat×Nat):=nums.filterMap fun n=>(lW rows nums n).map fun m=>(n,m)
theorem vD (h:ij∈vI rows nums):ij.1∈nums∧ij.2∈nums∧0<cr (yg rows ij.1) (yg rows ij.2):=by
 obtain⟨n,hn,e⟩:=xkN.mp h
 cases q:lW rows nums n with
 | none=>rw[q] at e;cases e
 | some m =>
  rw[q] at e;cases e
  obtain⟨p,r⟩:=(cq (rows:=rows) (n:=n) nums none (fun m e=>nomatch e)).1 m q
  exact⟨hn,r.resolve_right (fun z=>nomatch z),p⟩
theorem sN (hi:i∈nums)(hj:j∈nums)(h:0<cr (yg rows i) (yg rows j)):∃m,(i,m)∈vI rows nums:=by
 have:=(cq (rows:=rows) (n:=i) nums none (fun m e=>nomatch e)).2 (.inr ⟨j,hj,h⟩)
 cases q:lW rows nums i with
 | none=>exact absurd q this
 | some m=>exact⟨m,xkN.mpr ⟨i,hi,by rw[q];rfl⟩⟩
def xet (n i j:Nat)(p q:Int):List Int:=((List.replicate n (0:Int)).set i p).set j q
def wtw (n i j:Nat)(p q T:Int):List F2:=(xet n i j p q).map fun m=>lfr m T
def lin (k:Pol.R3→Int)(rows:List Pol.R3)(ns:List Int):Int:=((rows.zip ns).map fun x=>x.2*k x.1).sum
theorem oE (k:Pol.R3→Int):∀(rows:List Pol.R3) (n:Nat),lin k rows (List.replicate n 0)=0
 | [],n=>by simp[lin]
 | r::rows,0=>by simp[lin]
 | r::rows,n+1=>by
  have:=oE k rows n
  unfold lin at *
  simp only[xk0,xk9,xkD,List.sum_cons]
  omega
theorem cI (k:Pol.R3→Int):∀(rows:List Pol.R3) (ns:List Int) (i:Nat) (p:Int),i<ns.length→i<rows.length→lin k rows (ns.set i p)=lin k rows ns+(p-ns.getD i 0)*k (wJ rows i)
 | [],_,_,_,_,h=>by simp at h
 | _::_,[],_,_,h,_=>by simp at h
 | r::rows,m::ns,0,p,_,_=>by
  simp only[lin,List.set_cons_zero,xk9,xkD,List.sum_cons,wJ,List.getD_cons_zero]
  rw[Int.sub_mul];omega
 | r::rows,m::ns,i+1,p,h1,h2=>by
  have:=cI k rows ns i p (by simpa using h1) (by simpa using h2)
  simp only[lin,List.set_cons_succ,xk9,xkD,List.sum_cons,wJ,List.getD_cons_succ] at *
  omega
theorem xft (k:Pol.R3→Int)(p q:Int)(hi:i<rows.length)(hj:j<rows.length)(ne:i≠j):lin k rows (xet rows.length i j p q)=p*k (wJ rows i)+q*k (wJ rows j):=by
 unfold xet
 rw[cI k rows _ j q (by simp;omega) hj,cI k rows _ i p (by simp;omega) hi,oE]
 have e1:(List.replicate rows.length (0:Int)).getD i 0=0:=by rw[xkf,xkm,if_pos hi];rfl
 have e2:((List.replicate rows.length (0:Int)).set i p).getD j 0=0:=by
  rw[xkf,xkn ne,xkm,if_pos hj];rfl
 rw[e1,e2,Int.sub_zero,Int.sub_zero]
 omega
theorem xgP (hT:0<T):Sd (lfr m T) m T:=by rw[uD hT];exact nX hT
theorem xeL (h:Sd w n D):Sd (aS w (r,1)) (n*r) D:=by
 refine Sd.lfr (by have:=h.pf;show 0<w.2*1;omega) h.pd ?_ rfl
 have:=h.e
 show w.1*r*D=n*r*(w.2*1)
 grind
theorem xfy (k:Pol.R3→Int)(hT:0<T)(rows:List Pol.R3)(ns:List Int):Sd (wsum k (rows.zip (ns.map fun m=>lfr m T))) (lin k rows ns) T:=by
 have go:∀(rows:List Pol.R3) (ns:List Int) (f:F2) (N:Int),Sd f N T→Sd ((rows.zip (ns.map fun m=>lfr m T)).foldl (fq k) f) (N+lin k rows ns) T:=fun rows=>by
  induction rows with
  | nil=>intro ns f N h;simpa [lin] using h
  | cons r rows ih =>
   intro ns f N h
   cases ns with
   | nil=>simpa [lin] using h
   | cons m ns =>
    have:=ih ns (fq k f (r,lfr m T)) (N+m*k r) (h.plusD (xeL (xgP hT)))
    rw[xkD,xk9,xke]
    have e:N+lin k (r::rows) (m::ns)=N+m*k r+lin k rows ns:=by
     simp only[lin,xk9,xkD,List.sum_cons];omega
    rw[e];exact this
 have:=go rows ns (0,1) 0 ⟨by decide,hT,by show(0:Int)*T=0*1;omega⟩
 rw[xjY] at this
 exact this
theorem Sd.floor (h:Sd f N D):f.1 / f.2=N / D:=by
 have e:=h.e
 have a:f.1 / f.2=(f.1*D) / (f.2*D):=(Int.mul_ediv_mul_of_pos_left f.1 f.2 h.pd).symm
 rw[a,e,xjI f.2 D]
 exact Int.mul_ediv_mul_of_pos_left N D h.pf
theorem cN (n:Int):Cop (n,1):=⟨by show(0:Int)<1;decide,by show Int.gcd n 1=1;simp⟩
end L2
namespace L2
open PySem PySem.Spec PyProof.Rows
open Builtin.SmallTypes (nextOf)
section
variable {prog:Program} {w:World} {A:Around} {E:Value→Shared→Prop} {s:Shared} {z ti to i1 i2 i3 a1 a2 a3:Addr} {vs us ws:List Value} {t1 t2 t3:Nat→Heap→Prop} {s1 s2 s3:Heap→Prop}
end
end L2
namespace L2
open PySem PySem.Spec PyProof.Rows
section
variable {prog:Program} {w:World} {A:Around} {E:Value→Shared→Prop} {s:Shared}
end
section
variable {P:Program} {w:World} {K:PySem.W.Frag} {z ti to i1 i2 i3 a1 a2 a3:Addr} {b c' e':Bool}
end
section
variable {X:Cx}
end
section
variable {K:PySem.W.Frag}
end
end L2
namespace L2
open PySem PySem.Spec PyProof.Rows
open Builtin.SmallTypes (nextOf)
section
variable {prog:Program} {w:World} {A:Around} {E:Value→Shared→Prop} {s:Shared} {z ti to i1 i2 a1 a2:Addr} {vs us:List Value} {t1 t2:Nat→Heap→Prop} {s1 s2:Heap→Prop}
end
section
variable {P:Program} {w:World} {K:PySem.W.Frag} {z ti to i1 i2 a1 a2:Addr} {b c':Bool}
end
section
variable {X:Cx}
end
end L2
namespace L2
open PySem Trn
theorem cO (nz:x≠(0,0))(c:InC u v x):fh u.1 u.2 v.1 v.2 (drD x)=.tup [xcP (cr x v) (cr u v),xcP (cr u x) (cr u v)]:=by
 have e1:fh u.1 u.2 v.1 v.2 (drD x)=if x.1=0∧x.2=0 then .non else if tn x.1 x.2 v.1 v.2<0∨tn u.1 u.2 x.1 x.2<0 then .non else .tup [xcP (tn x.1 x.2 v.1 v.2) (tn u.1 u.2 v.1 v.2),xcP (tn u.1 u.2 x.1 x.2) (tn u.1 u.2 v.1 v.2)]:=rfl
 rw[e1,if_neg (fun z=>nz (Prod.ext z.1 z.2)),if_neg]
 ·rfl
 ·have a:tn x.1 x.2 v.1 v.2=cr x v:=rfl
  have b:tn u.1 u.2 x.1 x.2=cr u x:=rfl
  rw[a,b]
  have:=c.1;have:=c.2
  omega
theorem xf2 (hn:n≤1000000)(hu:Bx n u):L24 u.1∧L24 u.2:=by unfold Bx at hu;unfold L24;omega
end L2
namespace L2
open PySem PySem.Spec PySem.Calls PyProof.Rows
section
variable {X:Cx} {pins:List (Addr×Obj)} {σ:St} {H H':Hp} {s s':Shared} {ea C:Addr}
end
end L2
namespace L2
open PySem PySem.Spec PyProof.Rows
section
variable {X:Cx} {a b:Expr} {rest:List Expr} {ta tb:TE} {pos:Pos}
end
section
variable {K:PySem.W.Frag} {fr:Bool}
end
section
variable {P:Program} {w:World} {K:PySem.W.Frag} {mg:Str→Option Value} {base:Heap} {k n:Nat} {x qual:Str} {st:Stmt} {f:Addr} {fd:FuncData} {N ps:List Str} {fr:Bool} {sp:TSp}
end
end L2
namespace L2
open PySem
theorem af.ws {rows:List Pol.R3}{ws:List F2}(hf:xu rows=true)(h:GW rows.length ws):WS rows ws:=⟨h.1.symm,(af hf).1.2,fun r hr=>uv ((af hf).2.1 r hr).2,h.2⟩
def xd6:TSp:=fun ts KK=>∃t,ts=[t]∧KK (.bl (lY t))
end L2
namespace Pol
def sw (p:R3):R3:=(p.2.1,p.1,p.2.2)
end Pol
namespace L2
open PySem PySem.Spec PyProof.Rows
structure PSd (p:P2)(v:Pol.R3):Prop where
 x:Sd p.1 v.1 v.2.2
 y:Sd p.2 v.2.1 v.2.2
theorem xeW (h:0<v.2.2):PSd (plc v) v:=⟨sdx h,sdy h⟩
theorem PSd.val (h:PSd p v)(r:Pol.R3):Sd (n6 r p) (r.1*v.1+r.2.1*v.2.1) v.2.2:=by
 refine Sd.lfr (Pol.pp h.x.pf h.y.pf) h.x.pd ?_ rfl
 have:=h.x.e;have:=h.y.e
 grind
def mid (p q:P2)(f:F2):P2:=(sP (aS p.1 (fmin (1,1) f)) (aS q.1 f),sP (aS p.2 (fmin (1,1) f)) (aS q.2 f))
theorem rC (h:0<v.2.2):qw r (plc v)=true↔Pol.val r v=0:=by
 unfold qw
 rw[xlu]
 have s:=(xeW h).val r
 have e:=s.eq (xbC (f:=(r.2.2,1)) (by show(0:Int)<1;decide))
 simp only[xjR] at e
 rw[e]
 unfold Pol.val
 omega
section
variable {rows:List Pol.R3} (FR:uE rows) {r v:Pol.R3} (hr:r∈rows) (hv:v∈uo rows) (ht:qw r (plc v)=true)
include FR hr
include hv ht
end
end L2
namespace L2
open PySem Trn
abbrev SX:=(Nat×Nat)×D2
def jn (rows:List Pol.R3)(x:SX):List F2:=wtw rows.length x.1.1 x.1.2 (cr x.2 (yg rows x.1.2)) (cr (yg rows x.1.1) x.2) (cr (yg rows x.1.1) (yg rows x.1.2))
def sE (rows:List Pol.R3)(x:SX):Pol.R3:=((wsum k0 (rows.zip (jn rows x))).1,(wsum k1 (rows.zip (jn rows x))).1,(wsum k2 (rows.zip (jn rows x))).1.fdiv (wsum k2 (rows.zip (jn rows x))).2)
def xcD (rows:List Pol.R3)(x:SX):Tr:=.tup [wsT (jn rows x),trR (sE rows x)]
structure uz (rows:List Pol.R3)(x:SX):Prop where
 i1:x.1.1<rows.length
 i2:x.1.2<rows.length
 pos:0<cr (yg rows x.1.1) (yg rows x.1.2)
 inc:InC (yg rows x.1.1) (yg rows x.1.2) x.2
 nz:x.2≠(0,0)
 bx:Bx 1000 x.2
theorem vQ (hf:xu rows=true)(h:i<rows.length):Bx 30 (yg rows i):=by
 obtain⟨⟨a,b⟩,_⟩:=((af hf).2.1 _ (fH h)).2
 exact⟨a,b⟩
theorem uz.ne (G:uz rows x):x.1.1≠x.1.2:=fun e=>by
 have:=G.pos
 rw[e,zB] at this
 omega
theorem xdP (h:m∈xet n i j p q):m=0∨m=p∨m=q:=by
 unfold xet at h
 rcases List.mem_or_eq_of_mem_set h with h | h
 ·rcases List.mem_or_eq_of_mem_set h with h | h
  ·exact .inl (List.mem_replicate.mp h).2
  ·exact .inr (.inl h)
 ·exact .inr (.inr h)
theorem t7 (hu:Bx 30 u)(hv:Bx 1000 v):-60000≤cr u v∧cr u v≤60000:=by
 have go:∀ {a b:Int},(-30≤a∧a≤30)→(-1000≤b∧b≤1000)→-30000≤a*b∧a*b≤30000:=fun {a b} ha hb=>by
  have h1:(a*b).natAbs≤30*1000:=by
   rw[xjT]
   exact xlj (by omega) (by omega)
  omega
 have:=go hu.1 hv.2
 have:=go hu.2 hv.1
 unfold cr
 omega
theorem uz.sm (hf:xu rows=true)(G:uz rows x):(cr x.2 (yg rows x.1.2)≤60000∧cr (yg rows x.1.1) x.2≤60000)∧cr (yg rows x.1.1) (yg rows x.1.2)≤60000:=by
 have a:=t7 (vQ hf G.i2) G.bx
 have b:=t7 (vQ hf G.i1) G.bx
 have c:=t7 (vQ hf G.i1) ((vQ hf G.i2).mono (by decide))
 rw[vU] at a
 omega
theorem uz.gw (hf:xu rows=true)(G:uz rows x):GW rows.length (jn rows x):=by
 refine⟨by simp[jn,wtw,xet],fun w hw=>?_⟩
 obtain⟨m,hm,rfl⟩:=xkP.mp hw
 have S:=G.sm hf
 have p:=G.pos
 have i:=G.inc
 refine xgp ?_ (by omega)
 unfold InC at i
 rcases xdP hm with rfl | rfl | rfl<;>omega
theorem uz.lin (G:uz rows x)(k:Pol.R3→Int):Sd (wsum k (rows.zip (jn rows x))) (cr x.2 (yg rows x.1.2)*k (wJ rows x.1.1)+cr (yg rows x.1.1) x.2*k (wJ rows x.1.2)) (cr (yg rows x.1.1) (yg rows x.1.2)):=by
 have:=xfy k G.pos rows (xet rows.length x.1.1 x.1.2 (cr x.2 (yg rows x.1.2)) (cr (yg rows x.1.1) x.2))
 rw[xft k _ _ G.i1 G.i2 G.ne] at this
 exact this
theorem oy (h:Sd f (n*T) T)(c:Cop f):f=(n,1):=by
 have a:=h.low c
 have b:=(⟨Int.zero_lt_one,h.pd,by show n*T=n*T*1;omega⟩:Sd (n,1) (n*T) T).low (cN n)
 rw[←a,b]
theorem uz.pos2 (hf:xu rows=true)(G:uz rows x):∀y∈rows.zip (jn rows x),0<y.2.2:=fun y hy=>((G.gw hf).2 _ (xkZ hy).2).pos
theorem uz.a (hf:xu rows=true)(G:uz rows x):wsum k0 (rows.zip (jn rows x))=(x.2.1,1):=by
 refine oy (T:=cr (yg rows x.1.1) (yg rows x.1.2)) ?_ (ma _ _ (G.pos2 hf))
 have:=G.lin k0
 have e:=(sZ (yg rows x.1.1) (yg rows x.1.2) x.2).1
 rw[e];exact this
theorem uz.b {rows:List Pol.R3}{x:SX}(hf:xu rows=true)(G:uz rows x):wsum k1 (rows.zip (jn rows x))=(x.2.2,1):=by
 refine oy (T:=cr (yg rows x.1.1) (yg rows x.1.2)) ?_ (ma _ _ (G.pos2 hf))
 have:=G.lin k1
 have e:=(sZ (yg rows x.1.1) (yg rows x.1.2) x.2).2
 rw[e];exact this
theorem uz.cut (hf:xu rows=true)(G:uz rows x):n9 (wsum k0 (rows.zip (jn rows x))) (wsum k1 (rows.zip (jn rows x))):=by
 rw[G.a hf,G.b hf]
 exact⟨rfl,rfl,fun z=>G.nz (Prod.ext z.1 z.2)⟩
theorem uz.whole (hf:xu rows=true)(G:uz rows x)(hz:0<v.2.2)(h1:Pol.val (wJ rows x.1.1) v=0)(h2:Pol.val (wJ rows x.1.2) v=0)(hk:wD (sE rows x) (plc v)=true):v.2.2 ∣ x.2.1*v.1+x.2.2*v.2.1:=by
 have S:=G.lin k2
 have F:=S.floor
 generalize hT:cr (yg rows x.1.1) (yg rows x.1.2)=T at S F
 have pT:0<T:=by rw[←hT];exact G.pos
 generalize hN:cr x.2 (yg rows x.1.2)*k2 (wJ rows x.1.1)+cr (yg rows x.1.1) x.2*k2 (wJ rows x.1.2)=N at S F
 have er:sE rows x=(x.2.1,x.2.2,N / T):=by
  unfold sE
  rw[G.a hf,G.b hf,xjv _ (by have:=S.pf;omega),F]
 rw[er,hJ _ hz] at hk
 have hk:=xlx hk
 have e1:=(sZ (yg rows x.1.1) (yg rows x.1.2) x.2)
 rw[hT] at e1
 have eq:N*v.2.2=T*(x.2.1*v.1+x.2.2*v.2.1):=by
  have ea:=e1.1;have eb:=e1.2
  generalize cr x.2 (yg rows x.1.2)=p at *
  generalize cr (yg rows x.1.1) x.2=q at *
  have d1:(yg rows x.1.1)=((wJ rows x.1.1).1,(wJ rows x.1.1).2.1):=rfl
  have d2:(yg rows x.1.2)=((wJ rows x.1.2).1,(wJ rows x.1.2).2.1):=rfl
  rw[d1,d2] at ea eb
  generalize wJ rows x.1.1=r at *
  generalize wJ rows x.1.2=s at *
  rw[←hN]
  simp only[Pol.val,k2] at *
  have z1:r.2.2*v.2.2=r.1*v.1+r.2.1*v.2.1:=by omega
  have z2:s.2.2*v.2.2=s.1*v.1+s.2.1*v.2.1:=by omega
  grind
 simp only[Pol.val] at hk
 have f1:N / T*T≤N:=Int.ediv_mul_le N (by omega)
 generalize hV:x.2.1*v.1+x.2.2*v.2.1=V at *
 generalize N / T=F' at *
 refine⟨F',?_⟩
 have g1:F'*T*v.2.2≤N*v.2.2:=xjN f1 (by omega)
 rw[eq] at g1
 have g2:T*(F'*v.2.2)≤T*V:=by
  have:F'*T*v.2.2=T*(F'*v.2.2):=by grind
  omega
 have g3:=xjC g2 pT
 rw[xjI v.2.2 F']
 omega
theorem xbp (hb:0<b)(h:b ∣ t):(Fra.low t b).2=1:=by
 obtain⟨k,rfl⟩:=h
 have:=(⟨Int.zero_lt_one,hb,by show k*b=b*k*1;rw[xjR,xjI]⟩:Sd (k,1) (b*k) b).low (cN k)
 rw[uD hb] at this
 rw[this]
structure xfT (rows:List Pol.R3)(S:List (Nat×Nat))(L:List SX):Prop where
 good:∀x∈L,x.1∈S∧uz rows x
 all:∀ij∈S,∃h,xaf (yg rows ij.1) (yg rows ij.2) h∧∀d∈h,(ij,d)∈L
 len:L.length≤S.length*100000
theorem tE (hi:i<rows.length)(hj:j<rows.length)(hp:0<cr (yg rows i) (yg rows j))(B:xaf (yg rows i) (yg rows j) h)(hd:d∈h):uz rows ((i,j),d):=by
 have c:=dE ((B.mem hp).mp hd).1
 exact⟨hi,hj,hp,c.1,c.2,B.bd d hd⟩
theorem kO (hz:0<v.2.2):i∈mI rows (plc v)↔i<rows.length∧Pol.val (wJ rows i) v=0:=by
 unfold mI
 rw[xkM,xkT]
 exact and_congr_right fun _=>rC hz
theorem pe (h:i∈mI rows p):i<rows.length:=xkT.mp (xkM.mp h).1
theorem m7 (FR:uE rows)(hv:v∈uo rows):∃ij,ij∈vI rows (mI rows (plc v)):=by
 obtain⟨⟨hz,_,C⟩,_⟩:=FR.corner hv
 obtain⟨s,hs,t,ht,s0,t0,hn⟩:=C.two
 obtain⟨i,hi,rfl⟩:=xkO.mp hs
 obtain⟨j,hj,rfl⟩:=xkO.mp ht
 have ei:wJ rows i=rows[i]:=by have:=fQ hi;rw[xki hi] at this;exact(xlp this).symm
 have ej:wJ rows j=rows[j]:=by have:=fQ hj;rw[xki hj] at this;exact(xlp this).symm
 have mi:i∈mI rows (plc v):=(kO hz).mpr ⟨hi,by rw[ei];exact s0⟩
 have mj:j∈mI rows (plc v):=(kO hz).mpr ⟨hj,by rw[ej];exact t0⟩
 have ec:cr (yg rows i) (yg rows j)=Pol.turn rows[i] rows[j]:=by rw[←ei,←ej];rfl
 by_cases c:0<cr (yg rows i) (yg rows j)
 ·obtain⟨m,hm⟩:=sN mi mj c
  exact⟨_,hm⟩
 ·obtain⟨m,hm⟩:=sN (rows:=rows) (i:=j) (j:=i) mj mi (by rw[vU];omega)
  exact⟨_,hm⟩
theorem xaq (hf:xu rows=true)(FR:uE rows)(hv:v∈uo rows)(hb:brk v=true)(hL:xfT rows (vI rows (mI rows (plc v))) L):∃x∈L,wD (sE rows x) (plc v)=false:=by
 obtain⟨⟨hz,_,_⟩,_⟩:=FR.corner hv
 refine Classical.byContradiction fun no=>?_
 have all:∀x∈L,wD (sE rows x) (plc v)=true:=fun x hx=>by
  cases e:wD (sE rows x) (plc v) with
  | true=>rfl
  | false=>exact absurd ⟨x,hx,e⟩ no
 obtain⟨⟨i,j⟩,hij⟩:=m7 FR hv
 obtain⟨m1,m2,hp⟩:=vD hij
 obtain⟨i1,v1⟩:=(kO hz).mp m1
 obtain⟨i2,v2⟩:=(kO hz).mp m2
 obtain⟨h,B,hm⟩:=hL.all _ hij
 have l2:=B.l2
 have n0:h[0]? = some h[0]:=xki (by omega)
 have n1:h[0+1]? = some h[1]:=xki (by omega)
 have one:=B.chn.one 0 _ _ n0 n1
 have d0:h[0]∈h:=xkp _
 have d1:h[1]∈h:=xkp _
 have w0:=(tE i1 i2 hp B d0).whole hf hz v1 v2 (all _ (hm _ d0))
 have w1:=(tE i1 i2 hp B d1).whole hf hz v1 v2 (all _ (hm _ d1))
 simp only at w0 w1
 generalize h[0]=d at *
 generalize h[1]=e at *
 have x1:v.2.2 ∣ v.1:=by
  have:v.1=(d.1*v.1+d.2*v.2.1)*e.2-(e.1*v.1+e.2*v.2.1)*d.2:=by
   have:=xlq (fun z=>z*v.1) one
   simp only[cr] at this
   grind
  rw[this]
  exact Int.dvd_sub (xjr w0 (xjp _ _)) (xjr w1 (xjp _ _))
 have x2:v.2.2 ∣ v.2.1:=by
  have:v.2.1=(e.1*v.1+e.2*v.2.1)*d.1-(d.1*v.1+d.2*v.2.1)*e.1:=by
   have:=xlq (fun z=>z*v.2.1) one
   simp only[cr] at this
   grind
  rw[this]
  exact Int.dvd_sub (xjr w1 (xjp _ _)) (xjr w0 (xjp _ _))
 have y1:(plc v).1.2=1:=xbp hz x1
 have y2:(plc v).2.2=1:=xbp hz x2
 unfold brk at hb
 rw[y1,y2] at hb
 simp at hb
theorem jH {rows:List Pol.R3}{i:Nat}(h:i<rows.length):atT (rows.map trR) (i:Int)=some (trR (wJ rows i)):=by rw[jf,xkl,fQ h];rfl
theorem af.bd {rows:List Pol.R3}(hf:xu rows=true){i:Nat}(h:i<rows.length):Bd (wJ rows i).1∧Bd (wJ rows i).2.1:=l9 (n:=30) (by decide) (vQ hf h)
theorem t5:(mI rows p).length≤rows.length:=by
 have:=xku (fun i=>qw (rows.getD i (0,0,0)) p) (List.range rows.length)
 rw[List.length_range] at this
 exact this
theorem aD:(vI rows nums).length≤nums.length:=List.length_filterMap_le _ _
theorem pR {rows:List Pol.R3}{nums:List Nat}{i n:Nat}(h:nums[i]? = some n)(F:Nat→Option (Nat×Nat)):(nums.take (i+1)).filterMap F=(nums.take i).filterMap F++(F n).toList:=by
 rw[xk8,h,List.filterMap_append]
 cases e:F n<;>simp[e]
theorem af.b200 {rows:List Pol.R3}(hf:xu rows=true):∀r∈rows,B3k 200 r:=fun r hr=>(uv ((af hf).2.1 r hr).2).mono (by decide)
theorem xdc (h:0<T):lfr 0 T=(0,1):=(⟨Int.zero_lt_one,h,by show(0:Int)*T=0*1;omega⟩:Sd (0,1) 0 T).low (cN 0)
theorem xel (h:0<T):wtw n i j p q T=((List.replicate n ((0:Int),(1:Int))).set i (lfr p T)).set j (lfr q T):=by
 unfold wtw xet
 rw[List.map_set,List.map_set,List.map_replicate,xdc h]
theorem uz.r200 (hf:xu rows=true)(G:uz rows x):B3k 200 (sE rows x):=by
 have S:=G.lin k2
 have F:=S.floor
 have sm:=G.sm hf
 have i:=G.inc
 have c1:=((af hf).2.1 _ (fH G.i1)).2.2
 have c2:=((af hf).2.1 _ (fH G.i2)).2.2
 have bx:=G.bx
 have go:∀ {a c:Int},(0≤a∧a≤60000)→(-1000≤c∧c≤1000)→-60000000≤a*c∧a*c≤60000000:=fun {a c} ha hb=>by
  have h1:(a*c).natAbs≤60000*1000:=by
   rw[xjT]
   exact xlj (by omega) (by omega)
  omega
 have u1:=go (a:=cr x.2 (yg rows x.1.2)) ⟨i.2,sm.1.1⟩ c1
 have u2:=go (a:=cr (yg rows x.1.1) x.2) ⟨i.1,sm.1.2⟩ c2
 have er:sE rows x=(x.2.1,x.2.2,(cr x.2 (yg rows x.1.2)*k2 (wJ rows x.1.1)+cr (yg rows x.1.1) x.2*k2 (wJ rows x.1.2)) / cr (yg rows x.1.1) (yg rows x.1.2)):=by
  unfold sE
  rw[G.a hf,G.b hf,xjv _ (by have:=S.pf;omega),F]
 rw[er]
 have pT:=G.pos
 have e2:k2 (wJ rows x.1.1)=(wJ rows x.1.1).2.2:=rfl
 have e3:k2 (wJ rows x.1.2)=(wJ rows x.1.2).2.2:=rfl
 rw[e2,e3]
 have u3:-120000000≤cr x.2 (yg rows x.1.2)*(wJ rows x.1.1).2.2+cr (yg rows x.1.1) x.2*(wJ rows x.1.2).2.2∧cr x.2 (yg rows x.1.2)*(wJ rows x.1.1).2.2+cr (yg rows x.1.1) x.2*(wJ rows x.1.2).2.2≤120000000:=by omega
 generalize cr x.2 (yg rows x.1.2)*(wJ rows x.1.1).2.2+cr (yg rows x.1.1) x.2*(wJ rows x.1.2).2.2=N at *
 generalize cr (yg rows x.1.1) (yg rows x.1.2)=T at *
 have f1:=fG (a:=N) (b:=T) (by omega)
 rw[xjv _ (by omega)] at f1
 unfold Bx at bx
 refine⟨⟨?_,?_⟩,?_⟩<;>unfold Bk<;>simp only<;>omega
theorem xfT.snoc (P:xfT rows A L)(hi:i<rows.length)(hj:j<rows.length)(hp:0<cr (yg rows i) (yg rows j))(B:xaf (yg rows i) (yg rows j) h):xfT rows (A++[(i,j)]) (L++h.map fun d=>((i,j),d)) where
 good:=fun x hx=>by
  rcases xkG.mp hx with hx | hx
  ·exact⟨xkH _ (P.good x hx).1,(P.good x hx).2⟩
  ·obtain⟨d,hd,rfl⟩:=xkP.mp hx
   exact⟨xkI _ xkL,tE hi hj hp B hd⟩
 all:=fun ij hij=>by
  rcases xkG.mp hij with hij | hij
  ·obtain⟨h',B',m'⟩:=P.all ij hij
   exact⟨h',B',fun d hd=>xkH _ (m' d hd)⟩
  ·rw[xkU.mp hij]
   exact⟨h,B,fun d hd=>xkI _ (xkP.mpr ⟨d,hd,rfl⟩)⟩
 len:=by
  have:=P.len
  have:=B.len
  simp only[xkq,xkv,xkr,xkw]
  omega
theorem xbn (h:d t τ fun τ'=>r us τ' KK):xcO d r (t::us) τ KK:=h
theorem xgo {l:List Nat}(nd:l.Nodup){a b:Nat}(h:∀t∈l,t=a∨t=b):l.length≤2:=by
 match l,nd,h with
 | [],_,_=>simp
 | [_],_,_=>simp
 | [_,_],_,_=>simp
 | u::v::w::r,nd,h =>
  have hu:=h u (by simp)
  have hv:=h v (by simp)
  have hw:=h w (by simp)
  simp only[xkX,xkJ,not_or] at nd
  omega
theorem bJ (G:uz rows x)(hj:j<rows.length)(h1:j≠x.1.1)(h2:j≠x.1.2):(jn rows x)[j]? = some (0,1):=by
 unfold jn
 rw[xel G.pos,xkn (Ne.symm h2),xkn (Ne.symm h1),xkm,if_pos hj]
theorem Wt.isFr (h:Wt w):lY (fT w)=true:=by
 show(decide (1≤w.2)&&decide (Int.gcd w.1 w.2=1))=true
 rw[xlt (show 1≤w.2 by have:=h.pos;omega),xlt h.cop];rfl
def j5 (ij:Nat×Nat):Tr:=.tup [aG ij.1,aG ij.2]
def optN:Option Nat→Tr
 | none=>.non
 | some m=>aG m
def mO:TSp:=fun ts KK=>∃(rows:List Pol.R3) (nums:List Nat) (n:Nat),ts=[.tup (rows.map trR),.tup (nums.map aG),aG n]∧xu rows=true∧(∀m∈nums,m<rows.length)∧n<rows.length∧KK (optN (lW rows nums n))
def s9:TSp:=fun ts KK=>∃(rows:List Pol.R3) (nums:List Nat),ts=[.tup (rows.map trR),.tup (nums.map aG)]∧xu rows=true∧(∀m∈nums,m<rows.length)∧nums.length≤1000∧KK (.lst ((vI rows nums).map j5))
def oj:TSp:=fun ts KK=>∃(rows:List Pol.R3) (p:P2),ts=[.tup (rows.map trR),pT p]∧xu rows=true∧Pk 600 p∧KK (.lst ((vI rows (mI rows p)).map j5))
def xcl:TSp:=fun ts KK=>∃(a b:Int) (x:List Tr),ts=[.tup (.int a::.int b::x)]∧KK (drT a b)
def xhg:TSp:=fun ts KK=>∃(rows:List Pol.R3) (x:SX),ts=[.tup (rows.map trR),j5 x.1,drD x.2]∧xu rows=true∧uz rows x∧KK (wsT (jn rows x))
def ou:TSp:=fun ts KK=>∃(rows:List Pol.R3) (ws:List F2),ts=[.tup (rows.map trR),wsT ws]∧WS rows ws∧n9 (wsum k0 (rows.zip ws)) (wsum k1 (rows.zip ws))∧KK (.tup [wsT ws,xbv (rows.zip ws)])
def bG:TSp:=fun ts KK=>∃(rows:List Pol.R3) (p:P2),ts=[.tup (rows.map trR),pT p]∧xu rows=true∧Pk 600 p∧∀L,xfT rows (vI rows (mI rows p)) L→KK (.lst (L.map (xcD rows)))
def ff:TSp:=fun ts KK=>∃(rows:List Pol.R3) (n:Nat) (v:Pol.R3),ts=[.tup (rows.map trR),aG n]∧xu rows=true∧uE rows∧((uo rows).filter brk)[n]? = some v∧∀x:SX,x.1∈vI rows (mI rows (plc v))→uz rows x→wD (sE rows x) (plc v)=false→KK (xcD rows x)
def xhT (n:Nat):Tr→Bool
 | .int k=>decide (k<0∨(n:Int)≤k)
 | _=>true
def gU (ts:List Tr):Prop:=∃(rows:List Pol.R3) (t:Tr),ts=[.tup (rows.map trR),t]∧xu rows=true∧uE rows∧xhT ((uo rows).filter brk).length t=true
def xax:TSp:=fun ts KK=>∃(rows:List Pol.R3) (v:Pol.R3) (x:SX),ts=[.tup (rows.map trR),yT v,xcD rows x]∧xu rows=true∧uE rows∧v∈uo rows∧x.1∈vI rows (mI rows (plc v))∧uz rows x∧wD (sE rows x) (plc v)=false∧KK (.bl true)
end L2
namespace L2
open PySem
theorem xn (K:PySem.W.Frag)(i:Nat)(e:X.K=K:=by rfl)(hN:X.N[i]? = some x:=by rfl)(hv:Vis X.env.scope x:=by first | exact Or.inl rfl | exact Or.inr (Or.inl rfl) | exact Or.inr (Or.inr rfl))(hd:(x == ("__debug__" : Str))=false:=by decide)
  (hcd:(x == ("__classdict__" : Str))=false:=by decide):PE X (.Subscript (.Name x p) (.Constant (.int n) j q) r) (tOp (rIx K) (rz i) (tC (.int n))):=y4 (yj K e) (pv i hN hv hd hcd) xh (fun _ _=>rfl)
theorem xo:OkE K true (tOp (rIx K) (rz i) (tC (.int n))) (d2 fIx (cf i) (dC (Tr.int n))):=w_ xa (xae (t:=Tr.int _))
theorem yL (a:PE X e te)(h:starEach [e] X.env=(false,eval e X.env)::starEach [] X.env:=by rfl):PA X [e] (vJ te xab):=xM a uF h
theorem xS (a:PE X e te)(b:PE X f tf)(h:starEach [f] X.env=(false,eval f X.env)::starEach [] X.env:=by rfl)(g:starEach [e,f] X.env=(false,eval e X.env)::starEach [f] X.env:=by rfl):PA X [e,f] (vJ te (vJ tf xab)):=xM a (xM b uF h) g
theorem xV (h:OkE K b te de):OkA K b 1 (vJ te xab) (tZ de xes):=xJ h ud
theorem xw (h:OkE K b te de)(g:OkE K b tf df):OkA K b 2 (vJ te (vJ tf xab)) (tZ de (tZ df xes)):=xJ h (xJ g ud)
theorem xr:OkE K true (tC (.int i)) (dC (.int i)):=xae
theorem qx:OkE K true (tC (.bl i)) (dC (.bl i)):=xae
theorem ye (h:sc.kind=.function∧sc.isCoroutine=false∧sc.isGenerator=false∧N.Nodup∧N.take P.length=P∧(∀x∈P,sc.names.lookup x=some .local∨sc.names.lookup x=some .cell)∧∀y∈sc.names,y.2≠.free:=by decide +kernel):xA N P sc:=⟨h.1,h.2.1,h.2.2.1,h.2.2.2.1,h.2.2.2.2.1,h.2.2.2.2.2.1,h.2.2.2.2.2.2⟩
theorem yq (i:Nat)(hN:X.N.Nodup)(hi:X.N[i]? = some x:=by rfl)(hx:X.env.scope.names.lookup x=some .local:=by rfl):PG X (.Name x pos) (dz i):=yb hN hi (.inl hx) (.inr hx)
theorem yI (i:Nat)(hN:X.N.Nodup)(he:PE X e te)(hi:X.N[i]? = some x:=by rfl)(hx:X.env.scope.names.lookup x=some .local:=by rfl)(hs:swapsWith e (some (.Name x pos')) pos.line X.env=pure false:=by rfl):PS X (.Assign [.Name x pos'] e pos) (xed te (dz i)):=wx hN hi (.inl hx) he hs (.inr hx)
end L2
namespace K19
open PySem L2 Trn
def top (i:Nat):Stmt:=PySem.Challenge.pw_roundcuts_k19_papers_of_broken_corners.main.body.getD i (.Pass ⟨0,0,0,0⟩)
abbrev gS:Stmt:=top 13
abbrev vO:Stmt:=top 14
abbrev wC:Stmt:=top 15
abbrev rY:Stmt:=top 16
abbrev xb9:Stmt:=top 17
abbrev pE:Stmt:=top 18
abbrev vn:Stmt:=top 21
abbrev qU:Stmt:=top 22
abbrev gG:Stmt:=top 23
abbrev qf:Stmt:=top 24
abbrev jE:Stmt:=top 25
abbrev rN:Stmt:=top 26
abbrev wI:Stmt:=top 27
abbrev qQ:Stmt:=top 28
abbrev gL:Stmt:=top 29
abbrev mx:Stmt:=top 31
abbrev pY:Stmt:=top 32
abbrev pU:Stmt:=top 33
abbrev gE:Stmt:=top 34
abbrev dP:Stmt:=top 35
abbrev gC:Stmt:=top 36
abbrev gM:Stmt:=top 37
abbrev vZ:Stmt:=top 38
abbrev vK:Stmt:=top 40
abbrev vi:Stmt:=top 41
abbrev j3:Stmt:=top 42
abbrev km:Stmt:=top 43
abbrev sV:Stmt:=top 45
abbrev wF:Stmt:=top 46
abbrev fN:Stmt:=top 47
abbrev jm:Stmt:=top 48
abbrev cA:Stmt:=top 50
abbrev ja:Stmt:=top 51
abbrev vz:Stmt:=top 52
abbrev se:Stmt:=top 53
abbrev jo:Stmt:=top 54
abbrev ko:Stmt:=top 55
abbrev vS:Stmt:=top 56
abbrev jG:Stmt:=top 57
abbrev hZ:Stmt:=top 59
abbrev qi:Stmt:=top 60
abbrev wN:Stmt:=top 61
abbrev vh:Stmt:=top 62
abbrev ue:Stmt:=top 63
abbrev fF:Stmt:=top 65
abbrev uQ:Stmt:=top 66
abbrev r9:Stmt:=top 67
abbrev gj:Stmt:=top 68
abbrev ju:Stmt:=top 70
abbrev zX:Stmt:=top 71
abbrev vp:Stmt:=top 73
abbrev qB:Stmt:=top 74
abbrev jq:Stmt:=top 75
abbrev ux:Stmt:=top 76
abbrev vj:Stmt:=top 77
abbrev gO:Stmt:=top 78
abbrev u4:Stmt:=top 79
abbrev qP:Stmt:=top 80
abbrev qX:Stmt:=top 81
abbrev je:Stmt:=top 82
abbrev qE:Stmt:=top 83
abbrev qZ:Stmt:=top 84
abbrev qK:Stmt:=top 85
abbrev wW:Stmt:=top 86
abbrev wq:Stmt:=top 87
abbrev uj:Stmt:=top 88
abbrev uW:Stmt:=top 89
abbrev jB:Stmt:=top 90
abbrev vR:Stmt:=top 91
abbrev gk:Stmt:=top 92
abbrev q8:Stmt:=top 93
abbrev wH:Stmt:=top 94
abbrev uk:Stmt:=top 95
abbrev wk:Stmt:=top 96
abbrev du:Stmt:=top 97
theorem cH:xA ["thing"] ["thing"] (xf gS):=ye
theorem mT:xA ["things"] ["things"] (xf vO):=ye
theorem z_:xA ["one", "other"] ["one", "other"] (xf wC):=ye
theorem nH:xA ["top", "bottom", "shared"] ["top", "bottom"] (xf rY):=ye
theorem xeQ:xA ["one", "other"] ["one", "other"] (xf xb9):=ye
theorem xdw:xA ["whole", "fraction"] ["whole", "fraction"] (xf pE):=ye
theorem dI:xA ["rows"] ["rows"] (xf vn):=ye
theorem rG:xA ["rows"] ["rows"] (xf qU):=ye
theorem jc:xA ["piece", "rows", "row"] ["piece", "rows"] (xf gG):=ye
theorem bQ:xA ["piece"] ["piece"] (xf qf):=ye
theorem wj:xA ["piece", "row", "left", "at", "corner", "before", "crossing"] ["piece", "row"] (xf jE):=ye
theorem uU:xA ["row", "corner", "a", "b", "c", "x", "y", "bottom"] ["row", "corner"] (xf rN):=ye
theorem yK:xA ["row", "one", "other", "one_off", "other_off", "x", "y", "bottom", "shared"] ["row", "one", "other"] (xf wI):=ye
theorem wO:xA ["piece", "start", "at", "corner"] ["piece"] (xf qQ):=ye
theorem cS:xA ["one", "other"] ["one", "other"] (xf gL):=ye
theorem xaO:xA ["thing"] ["thing"] (xf mx):=ye
theorem xdD:xA ["row", "place"] ["row", "place"] (xf pY):=ye
theorem t_:xA ["row", "place", "top", "bottom"] ["row", "place"] (xf pU):=ye
theorem jh:xA ["row", "place", "top", "bottom"] ["row", "place"] (xf gE):=ye
theorem xah:xA ["one", "other"] ["one", "other"] (xf dP):=ye
theorem qc:xA ["rows", "first", "left", "right"] ["rows"] (xf gC):=ye
theorem v5:xA ["first", "rows", "sign", "last", "row"] ["first", "rows", "sign"] (xf gM):=ye
theorem kY:xA ["first", "rows", "row"] ["first", "rows"] (xf vZ):=ye
theorem cE:xA ["thing"] ["thing"] (xf vK):=ye
theorem wA:xA ["thing", "a", "b", "c"] ["thing"] (xf vi):=ye
theorem lX:xA ["place"] ["place"] (xf j3):=ye
theorem mF:xA ["thing"] ["thing"] (xf km):=ye
theorem lK:xA ["field"] ["field"] (xf sV):=ye
theorem fj:xA ["rows", "place"] ["rows", "place"] (xf wF):=ye
theorem xbs:xA ["field"] ["field"] (xf fN):=ye
theorem qG:xA ["place", "x", "y"] ["place"] (xf jm):=ye
theorem tM:xA ["one", "other", "thing", "turn", "of_one", "of_other"] ["one", "other", "thing"] (xf cA):=ye
theorem gT:xA ["one", "other", "turn"] ["one", "other"] (xf ja):=ye
theorem dH:xA ["thing"] ["thing"] (xf vz):=ye
theorem gI:xA ["one", "other", "first", "last", "found"] ["one", "other"] (xf se):=ye
theorem u_:xA ["direction", "a", "b", "shared"] ["direction"] (xf jo):=ye
theorem zN:xA ["first", "last", "a", "b", "p", "q", "back"] ["first", "last"] (xf ko):=ye
theorem kZ:xA ["before", "here", "last", "many"] ["before", "here", "last"] (xf vS):=ye
theorem zD:xA ["a", "b", "here", "p", "q", "ahead", "next_p", "next_q", "many"] ["a", "b"] (xf jG):=ye
theorem pH:xA ["field", "place"] ["field", "place"] (xf hZ):=ye
theorem uq:xA ["rows", "numbers", "pairs", "number", "beside"] ["rows", "numbers"] (xf qi):=ye
theorem zm:xA ["rows", "numbers", "number", "nearest", "other"] ["rows", "numbers", "number"] (xf wN):=ye
theorem dG:xA ["row"] ["row"] (xf vh):=ye
theorem yV:xA ["field", "pair", "direction", "one", "other", "shares", "weights"] ["field", "pair", "direction"] (xf ue):=ye
theorem sM:xA ["rows", "weights", "tops", "bottom"] ["rows", "weights"] (xf fF):=ye
theorem yF:xA ["rows", "weights", "used", "bottom", "row", "weight", "tops", "many"] ["rows", "weights"] (xf uQ):=ye
theorem j7:xA ["totals", "a", "b", "c"] ["totals"] (xf r9):=ye
theorem pC:xA ["field", "weights"] ["field", "weights"] (xf gj):=ye
theorem wd:xA ["field", "place", "papers", "pair", "one", "other", "direction"] ["field", "place"] (xf ju):=ye
theorem y_:xA ["field", "number", "places", "place", "against"] ["field", "number"] (xf zX):=ye
theorem aa:xA ["_law_script", "_law_k"] ["_law_script", "_law_k"] (xf vp):=ye
theorem jP:xA ["_law_script", "_law_k", "_law_cell"] ["_law_script", "_law_k"] (xf qB):=ye
theorem vd:xA ["_law_state_here", "_law_many", "_law_found", "_law_stirred"] ["_law_state_here", "_law_many"] (xf jq):=ye
theorem xX:xA ["_law_state_here", "_law_way", "_law_rows", "_law_a", "_law_b", "_law_by", "_law_turn", "_law_near", "_law_k", "_law_some", "_law_u", "_law_v"] ["_law_state_here"] (xf ux):=ye
theorem qO:xA ["_law_one", "_law_other"] ["_law_one", "_law_other"] (xf vj):=ye
theorem jt:xA ["_law_top", "_law_bottom", "_law_by"] ["_law_top", "_law_bottom"] (xf gO):=ye
theorem uB:xA ["_law_one", "_law_other", "_law_by", "_law_x"] ["_law_one", "_law_other"] (xf u4):=ye
theorem qd:xA ["_law_row", "_law_place", "_law_x", "_law_y"] ["_law_row", "_law_place"] (xf qP):=ye
theorem jO:xA ["_law_row", "_law_place", "_law_here"] ["_law_row", "_law_place"] (xf qX):=ye
theorem n8:xA ["_law_one", "_law_other"] ["_law_one", "_law_other"] (xf je):=ye
theorem mq:xA ["_law_one", "_law_other"] ["_law_one", "_law_other"] (xf qE):=ye
theorem tx:xA ["_law_one", "_law_other"] ["_law_one", "_law_other"] (xf qZ):=ye
theorem jK:xA ["_law_one", "_law_other", "_law_third", "_law_first"] ["_law_one", "_law_other", "_law_third"] (xf qK):=ye
theorem yX:xA ["_law_places", "_law_some", "_law_place", "_law_ahead", "_law_found", "_law_k", "_law_here"] ["_law_places"] (xf wW):=ye
theorem fE:xA ["_law_here", "_law_place", "_law_some"] ["_law_here", "_law_place", "_law_some"] (xf wq):=ye
theorem zE:xA ["_law_rows", "_law_found", "_law_at", "_law_other", "_law_place"] ["_law_rows"] (xf uj):=ye
theorem fo:xA ["_law_row", "_law_place"] ["_law_row", "_law_place"] (xf uW):=ye
theorem bH:xA ["_law_one", "_law_other"] ["_law_one", "_law_other"] (xf jB):=ye
theorem zZ:xA ["_law_rows", "_law_weights", "_law_found", "_law_row", "_law_weight", "_law_at"] ["_law_rows", "_law_weights"] (xf vR):=ye
theorem vX:xA ["_law_rows", "_law_weights", "_law_a", "_law_b", "_law_c"] ["_law_rows", "_law_weights"] (xf gk):=ye
theorem tK:xA ["_law_thing"] ["_law_thing"] (xf q8):=ye
theorem jz:xA ["_law_thing"] ["_law_thing"] (xf wH):=ye
theorem y9:xA ["_law_call", "_law_error", "e", "_law_kinds"] ["_law_call"] (xf uk):=ye
theorem j2:xA ["_law_field_here", "_law_place", "_law_thing", "_law_some"] ["_law_field_here", "_law_place", "_law_thing"] (xf wk):=ye
theorem fb:xA ["_law_script", "_law_k", "_law_state_here", "_law_field_here", "_law_some", "_law_number", "_law_place", "_law_bad"] ["_law_script"] (xf du):=ye
abbrev bn:List Str:=["len", "range", "max", "min", "abs", "isinstance", "tuple", "list", "int", "bool", "str", "dict", "all", "zip", "enumerate", "ValueError"]
section
variable {P:Program} {w:World} {K:PySem.W.Frag} {mg:Str→Option Value} {base:Heap} {f:Addr} {fd:FuncData}
theorem fX (B:Blt mg bn)(F:Fun K "_law_cell_at" "_law_cell_at" vp f fd)(m:mg "_law_cell_at" = some (.ref f))(b:Binds K fd ["_law_script", "_law_k"] []):Own P w K mg base 1 "_law_cell_at" ["_law_script", "_law_k"] (xef K):=by
 refine aJ F aa m b (fun vs H Q E h=>?_) (fun cdv A outer s H vs Q E hr h=>?_)
 ·obtain⟨a,ns,k,rfl,_⟩:=h
  rfl
 obtain⟨a,ns,k,rfl,hS,h63,h0,q⟩:=h
 refine⟨_,(xc (yR (xN xge (pv 1) (xG (yl K) rfl (B.get "len") zO (xM (pv 0) uF)) (xO _)) (xi (xE (y4 (vc K) (pv 0) (pv 1) (fun _ _=>rfl)))) xZ)
  (xi (xE xh))),?_⟩
 refine⟨_,rfl,_,rfl,a,_,rfl,.inl hS,_,_,rfl,rfl,_,rfl,?_⟩
 have hl:(ns.map V.int).length=ns.length:=xkv _
 refine xiE (fun c=>?_) (fun c=>?_)
 ·have c':=xlx c
  rw[hl] at c'
  obtain⟨v,hv⟩:=xdg h0 c'
  exact⟨_,rfl,_,rfl,a,_,_,_,rfl,rfl,hS,hv,q v⟩
 ·exact q 0
theorem tY (F:Fun K "_law_state" "_law_state" qB f fd)(m:mg "_law_state" = some (.ref f))(b:Binds K fd ["_law_script", "_law_k"] [])(vq:Own P w K mg base 1 "_law_cell_at" ["_law_script", "_law_k"] (xef K)) :
  Own P w K mg base 2 "_law_state" ["_law_script", "_law_k"] (pW K):=by
 refine aJ F jP m b (fun vs H Q E h=>?_) (fun cdv A outer s H vs Q E hr h=>?_)
 ·obtain⟨a,ns,k,rfl,_⟩:=h
  rfl
 obtain⟨a,ns,k,rfl,hS,h63,h0,q⟩:=h
 refine⟨_,(xc (wx (i:=2) jP.nd rfl (Or.inl rfl) (xm vq hr (xM (pv 0) (xM (pv 1) uF))))
  (xc (yR (xN xhQ (pv 2) (xD xcv xh xh) (xO _)) (xi (xE (yU (xM (xD zb (pv 2) (xD xcv xh xh)) (xM vF uF))))) xZ)
  (xi (xE (yU (xM (xD aV (pv 2) xh) (xM vF uF))))))),?_⟩
 refine⟨_,rfl,_,rfl,a,ns,k,rfl,hS,h63,h0,fun n=>?_⟩
 have pw:xhp 10 18:=⟨by decide,by decide,by decide⟩
 refine⟨_,rfl,_,_,rfl,rfl,pw,_,_,rfl,rfl,_,rfl,?_⟩
 refine xiE (fun c=>?_) (fun c=>?_)
 ·have c':n≥10 ^ (18:Int).toNat:=xlx c
  refine⟨_,rfl,_,_,rfl,rfl,pw,_,_,rfl,rfl,(by show 2≤sizeLine;decide),fun p hp=>q p _ _ hp ⟨?_,fun z=>by cases z⟩⟩
  show 0≤n-10 ^ (18:Int).toNat
  omega
 ·refine⟨_,rfl,_,_,rfl,rfl,(by show(0:Int)<2147483647;decide),(by show 2≤sizeLine;decide),fun p hp=>q p _ _ hp ⟨?_,fun _=>?_⟩⟩
  ·show 0≤n % 2147483647
   omega
  ·show n % 2147483647<2147483647
   omega
theorem nA (F:Fun K "_law_take" "_law_take" jq f fd)(m:mg "_law_take" = some (.ref f))(b:Binds K fd ["_law_state_here", "_law_many"] []):Own P w K mg base 1 "_law_take" ["_law_state_here", "_law_many"] xep:=by
 refine aJ F vd m b (fun vs H Q E h=>?_) (fun cdv A outer s H vs Q E hr h=>?_)
 ·obtain⟨p,k,rfl,_⟩:=h
  rfl
 obtain⟨p,many,rfl,⟨n,bb,hp,hn,hb⟩,h0,h1,q⟩:=h
 refine⟨_,(xc (yR (yO (y4 (vc K) (pv 0) xh (fun _ _=>rfl))) (xc (wx (i:=2) vd.nd rfl (Or.inl rfl) (xD aV (y4 (vc K) (pv 0) xh (fun _ _=>rfl)) (pv 1)))
  (xc (zR (xD lz (y4 (vc K) (pv 0) xh (fun _ _=>rfl)) (pv 1)) (nZ (pv 0) xh set_list))
  (xi (xE (pv 2))))) xZ)
  (xc (zR (xD aV (xD wc (xD nQ (y4 (vc K) (pv 0) xh (fun _ _=>rfl)) xh) xh) xh) (nZ (pv 0) xh set_list))
  (xc (wx (i:=3) vd.nd rfl (Or.inl rfl) (xD aV (xD wc (xD wc (xD nQ (y4 (vc K) (pv 0) xh (fun _ _=>rfl)) (y4 (vc K) (pv 0) xh (fun _ _=>rfl))) (xD nQ xh (y4 (vc K) (pv 0) xh (fun _ _=>rfl)))) xh) xh))
  (xc (wx (i:=3) vd.nd rfl (Or.inl rfl) (xD aV (xD wc (xD nQ (pv 3) (pv 3)) (xD nQ xh (pv 3))) xh))
  (xi (xE (xD aV (xD lz (pv 3) xh) (pv 1)))))))),?_⟩
 refine⟨_,rfl,p,_,_,_,rfl,rfl,SqL.of hp,rfl,bb,rfl,?_⟩
 have fin:∀(r n':Int),0≤r→r<many→xih n' bb→Q (.int r) (upd H p (.lst [.int n',.bl bb])):=fun r n' h2 h3 h4=>q r _ h2 h3 ⟨fun b o hb k=>by rw[xY hb];exact k,n',bb,ya,h4⟩
 cases bb with
 | true =>
  refine xat ?_
  refine⟨_,rfl,p,_,_,_,rfl,rfl,SqL.of hp,rfl,_,rfl,_,_,rfl,rfl,h0,?_⟩
  refine⟨_,rfl,p,_,_,_,rfl,rfl,SqL.of hp,rfl,_,rfl,_,_,rfl,rfl,sj h0 h1,?_⟩
  refine⟨_,rfl,p,_,_,0,rfl,rfl,hp,rfl,?_⟩
  refine⟨_,rfl,?_⟩
  exact fin _ _ (xjt _ (by omega)) (xjs _ h0) ⟨Int.ediv_nonneg hn (by omega),fun z=>by cases z⟩
 | false =>
  refine pN ?_
  have hb':=hb rfl
  have cm:∀(i j:Int),0≤i→i<2147483700→xhr i j:=fun i j a b=>.inl ⟨by omega,by omega⟩
  refine⟨_,rfl,p,_,_,_,rfl,rfl,SqL.of hp,rfl,_,_,rfl,rfl,cm _ _ hn (by omega),_,_,rfl,rfl,_,_,rfl,rfl,(by show(0:Int)<2147483647;decide),?_⟩
  refine⟨_,rfl,p,_,_,0,rfl,rfl,hp,rfl,?_⟩
  have hz:∃z:Int,(n*48271+29) % 2147483647=z∧0≤z∧z<2147483647:=⟨_,rfl,by omega,by omega⟩
  obtain⟨z,ez,z0,z1⟩:=hz
  have hp':(upd H p (.lst [.int z,.bl false])) p=some (.lst [.int z,.bl false]):=ya
  show xfS _ _ _ _ (upd H p (.lst [.int ((n*48271+29) % 2147483647),.bl false]))
  rw[ez]
  refine⟨_,rfl,p,_,_,_,rfl,rfl,SqL.of hp',rfl,_,rfl,p,_,_,_,rfl,rfl,SqL.of hp',rfl,_,_,rfl,rfl,cm _ _ z0 (by omega),?_⟩
  refine⟨_,rfl,p,_,_,_,rfl,rfl,SqL.of hp',rfl,_,_,rfl,rfl,.inl ⟨by decide,by decide⟩,_,_,rfl,rfl,_,_,rfl,rfl,_,_,rfl,rfl,(by show(0:Int)<2147483629;decide),?_⟩
  have hy:∃y:Int,(z*z+39373*z+7) % 2147483629=y∧0≤y∧y<2147483629:=⟨_,rfl,xjt _ (by decide),xjs _ (by decide)⟩
  obtain⟨y,ey,y0,y1⟩:=hy
  show xfS _ _ _ [_,_,_,some (.int ((z*z+39373*z+7) % 2147483629))] _
  rw[ey]
  refine⟨_,rfl,_,rfl,_,_,rfl,rfl,cm _ _ y0 (by omega),_,rfl,_,_,rfl,rfl,.inl ⟨by decide,by decide⟩,_,_,rfl,rfl,_,_,rfl,rfl,(by show(0:Int)<2147483587;decide),?_⟩
  refine⟨_,rfl,_,_,rfl,rfl,sj (by decide) (by decide),_,rfl,_,_,rfl,rfl,h0,?_⟩
  exact fin _ _ (xjt _ (by omega)) (xjs _ h0) ⟨z0,fun _=>z1⟩
end
end K19
namespace K19
open PySem L2 Trn
section
variable {P:Program} {w:World} {K:PySem.W.Frag} {mg:Str→Option Value} {base:Heap} {f:Addr} {fd:FuncData}
theorem sJ {kl j:Nat}(B:Blt mg bn)(F:Fun K "_law_refused" "_law_refused" uk f fd)(m:mg "_law_refused" = some (.ref f))(b:Binds K fd ["_law_call"] [])(hj:j<10){C a_CutError:Addr}(Z:lZ K C)(m_CutError:mg "CutError" = some (.ref a_CutError))(i_CutError:PySem.W.exmOne K (.ref C) (.ref a_CutError)=some true)(i_ValueError:PySem.W.kitOne K (.ref C) (.type "ValueError")=some true)
  {a_NoField:Addr} (m_NoField:mg "NoField" = some (.ref a_NoField)) (i_NoField:PySem.W.kitOne K (.ref C) (.ref a_NoField)=some (decide (j=0)))
  {a_NoWeights:Addr} (m_NoWeights:mg "NoWeights" = some (.ref a_NoWeights)) (i_NoWeights:PySem.W.kitOne K (.ref C) (.ref a_NoWeights)=some (decide (j=1)))
  {a_NoCut:Addr} (m_NoCut:mg "NoCut" = some (.ref a_NoCut)) (i_NoCut:PySem.W.kitOne K (.ref C) (.ref a_NoCut)=some (decide (j=2)))
  {a_Nothing:Addr} (m_Nothing:mg "Nothing" = some (.ref a_Nothing)) (i_Nothing:PySem.W.kitOne K (.ref C) (.ref a_Nothing)=some (decide (j=3)))
  {a_NoTurn:Addr} (m_NoTurn:mg "NoTurn" = some (.ref a_NoTurn)) (i_NoTurn:PySem.W.kitOne K (.ref C) (.ref a_NoTurn)=some (decide (j=4)))
  {a_NoCorner:Addr} (m_NoCorner:mg "NoCorner" = some (.ref a_NoCorner)) (i_NoCorner:PySem.W.kitOne K (.ref C) (.ref a_NoCorner)=some (decide (j=5)))
  {a_NoNumber:Addr} (m_NoNumber:mg "NoNumber" = some (.ref a_NoNumber)) (i_NoNumber:PySem.W.kitOne K (.ref C) (.ref a_NoNumber)=some (decide (j=6)))
  {a_NoText:Addr} (m_NoText:mg "NoText" = some (.ref a_NoText)) (i_NoText:PySem.W.kitOne K (.ref C) (.ref a_NoText)=some (decide (j=7)))
  {a_NoLine:Addr} (m_NoLine:mg "NoLine" = some (.ref a_NoLine)) (i_NoLine:PySem.W.kitOne K (.ref C) (.ref a_NoLine)=some (decide (j=8)))
  {a_NoDeed:Addr} (m_NoDeed:mg "NoDeed" = some (.ref a_NoDeed)) (i_NoDeed:PySem.W.kitOne K (.ref C) (.ref a_NoDeed)=some (decide (j=9))) :
  Own P w K mg base (kl+1) "_law_refused" ["_law_call"] (xdt P w K mg base kl C j):=by
 refine aJ F y9 m b (fun vs H Q E h=>?_) (fun cdv A outer s H vs Q E hr h=>?_)
 ·obtain⟨g,KX,rfl,_⟩:=h
  rfl
 obtain⟨g,KX,rfl,hfn,hl,q⟩:=h
 refine⟨_,xc (yI 1 y9.nd j6) (xfD (i:=2) (j:=1) (c:=0) (C:=C) (g:=g) (LP:=fun H1=>H1=H) (KX:=fun _ H1=>KX H1) rfl rfl y9.nd rfl rfl rfl rfl (Or.inl rfl) (Or.inl rfl) rfl rfl m_CutError i_CutError rfl rfl rfl rfl rfl rfl rfl hfn
  (fun pins σ H1 s1 I e=>by cases e;exact hl _ _ _ hr I.env0) (fun ea oe hcl =>
  (xc (wx (i:=3) y9.nd rfl (Or.inr rfl) (yU (xM (xG (zV (ea:=ea) xkL hcl Z i_NoField) (by rfl) (B.get "isinstance") xR (xS (pv 1) (zA (v:=V.ref a_NoField) (by rfl) m_NoField rfl))) (xS (xG (zV (ea:=ea) xkL hcl Z i_NoWeights) (by rfl) (B.get "isinstance") xR (xS (pv 1) (zA (v:=V.ref a_NoWeights) (by rfl) m_NoWeights rfl))) (xG (zV (ea:=ea) xkL hcl Z i_NoCut) (by rfl) (B.get "isinstance") xR (xS (pv 1) (zA (v:=V.ref a_NoCut) (by rfl) m_NoCut rfl)))))))
  (xc (wx (i:=3) y9.nd rfl (Or.inr rfl) (xD aL (pv 3) (yU (xM (xG (zV (ea:=ea) xkL hcl Z i_Nothing) (by rfl) (B.get "isinstance") xR (xS (pv 1) (zA (v:=V.ref a_Nothing) (by rfl) m_Nothing rfl))) (xS (xG (zV (ea:=ea) xkL hcl Z i_NoTurn) (by rfl) (B.get "isinstance") xR (xS (pv 1) (zA (v:=V.ref a_NoTurn) (by rfl) m_NoTurn rfl))) (xG (zV (ea:=ea) xkL hcl Z i_NoCorner) (by rfl) (B.get "isinstance") xR (xS (pv 1) (zA (v:=V.ref a_NoCorner) (by rfl) m_NoCorner rfl))))))))
  (xc (wx (i:=3) y9.nd rfl (Or.inr rfl) (xD aL (pv 3) (yU (xM (xG (zV (ea:=ea) xkL hcl Z i_NoNumber) (by rfl) (B.get "isinstance") xR (xS (pv 1) (zA (v:=V.ref a_NoNumber) (by rfl) m_NoNumber rfl))) (xS (xG (zV (ea:=ea) xkL hcl Z i_NoText) (by rfl) (B.get "isinstance") xR (xS (pv 1) (zA (v:=V.ref a_NoText) (by rfl) m_NoText rfl))) (xG (zV (ea:=ea) xkL hcl Z i_NoLine) (by rfl) (B.get "isinstance") xR (xS (pv 1) (zA (v:=V.ref a_NoLine) (by rfl) m_NoLine rfl))))))))
  (xc (ub (dN PySem.F.plainAttrs_list PySem.F.slot_list_append PySem.F.type_list_append zY (pv 3) (yL (xG (zV (ea:=ea) xkL hcl Z i_NoDeed) (by rfl) (B.get "isinstance") xR (xS (pv 1) (zA (v:=V.ref a_NoDeed) (by rfl) m_NoDeed rfl))))))
  (xc (yR (zf (yO (xG (xbE (ea:=ea) xkL hcl Z i_ValueError) (by rfl) (B.get "isinstance") xR (xS (pv 1) (uV (v:=V.ty "ValueError") (by rfl) (B.get "ValueError") tS rfl))))) gi xZ)
  (xi (xE (zC (yf (N:=["_law_k", "_law_kinds"]) (tau:=[none,some 3]) (XN:=["_law_call", "_law_error", "e", "_law_kinds"]) (xs:=xf uk) (by decide +kernel) rfl rfl) rfl (zS rfl) (u5 rfl (B.get "range") (yL xh)) (fun _ _ _ _=>(yb (i:=0) (show(["_law_k", "_law_kinds"]:List Str).Nodup by decide +kernel) rfl (Or.inl rfl))) (fun _ _ _ _=>(wu (yO (y4 (yj K) (pv 1) (pv 0) (fun _ _=>rfl))))) (fun _ _ _ _=>(pv 0)))))))))))),?_⟩
 refine⟨rfl,rfl,fun ea oe H1 kx=>?_⟩
 refine xgW (j:=j) (xj (zo (vy (xJ qD (xw qD qD))))
  (xj (zo (lF (uy (b:=true) (xJ qD (xw qD qD)))))
  (xj (zo (lF (uy (b:=true) (xJ qD (xw qD qD)))))
  (xj (vk qD)
  (xj (yr (yE (yB qD)) ku xT)
  (xbT (i:=3) (j4 (yx (w4 (xV xr)).c xk (yB (w_ xa xa)) xa)))))))) ?_ fun H2 a e1 e2 e3=>q H1 H2 a kx e1 e2 e3
 refine⟨rfl,rfl,rfl,?_⟩
 refine⟨rfl,rfl,rfl,(show 6≤sizeLine by decide),?_⟩
 refine⟨rfl,rfl,rfl,(show 9≤sizeLine by decide),?_⟩
 refine⟨rfl,(show 9<sizeLine by decide),?_⟩
 refine⟨rfl,?_⟩
 refine⟨by decide,(show 10<sizeLine by decide),?_⟩
 have hs:j=0∨j=1∨j=2∨j=3∨j=4∨j=5∨j=6∨j=7∨j=8∨j=9:=by omega
 clear q kx hl hr
 rcases hs with rfl | rfl | rfl | rfl | rfl | rfl | rfl | rfl | rfl | rfl<;>rfl
end
section
variable {P:Program} {w:World} {K:PySem.W.Frag} {mg:Str→Option Value} {base:Heap} {f:Addr} {fd:FuncData}
end
end K19
namespace K19
open PySem L2 Trn
section
variable {P:Program} {w:World} {K:PySem.W.Frag} {mg:Str→Option Value} {base:Heap} {f:Addr} {fd:FuncData}
theorem cT (B:Blt mg bn)(F:Fun K "is_whole" "is_whole" gS f fd)(m:mg "is_whole" = some (.ref f))(b:Binds K fd ["thing"] [])  :
  Own P w K mg base 1 "is_whole" ["thing"] (spT 1 false false aF):=by
 refine xy F cH m b rfl (fun _ _ _ _ _ _ hr=>⟨_,_,
  (xi (xE (rg (xG um rfl (B.get "isinstance") xR (xS (pv 0) (uV (v:=V.ty "int") rfl (B.get "int") xdU rfl))) (jX (xb0 (xG um rfl (B.get "isinstance") xR (xS (pv 0) (uV (v:=V.ty "bool") rfl (B.get "bool") xa0 rfl)))))))),
  (xC (gD (kX xa) (pA (kX xa)))),fun ts KK hl h=>?_⟩)
 obtain⟨t,rfl,k⟩:=h
 cases t<;>exact k
theorem bS (B:Blt mg bn)(F:Fun K "are_whole" "are_whole" vO f fd)(m:mg "are_whole" = some (.ref f))(b:Binds K fd ["things"] [])(zM:Own P w K mg base 1 "is_whole" ["thing"] (spT 1 false false aF)) :
  Own P w K mg base 2 "are_whole" ["things"] (spT 1 false false dy):=by
 refine xy F mT m b rfl (fun _ _ _ _ _ _ hr=>⟨_,_,
  (xi (xE (xG (kN K rfl) rfl (B.get "all") ox (yL (zC (yf (N:=["thing"]) (tau:=[none]) (XN:=["things"]) (xs:=xf vO) (by decide +kernel) rfl rfl) rfl (zS rfl) (yS K (pv 0)) (fun _ _ _ _=>(yb (i:=0) (show(["thing"]:List Str).Nodup by decide +kernel) rfl (Or.inl rfl))) (fun _ _ _ _=>vA) (fun _ _ _ _=>(xm zM hr (yL (pv 0))))))))),
  (xC (yG mB (xV (OkF.e (yx (yC xa).c xk uh (xt (xV xa))))))),fun ts KK hl h=>?_⟩)
 obtain⟨t,rfl,us,hs,hz,k⟩:=h
 rcases hs with rfl | rfl
 ·refine⟨hz,kQ (fun x=>.bl (xfW x)) (fun x _ N hN=>⟨x,rfl,hN⟩) ⟨us.map xfW,by rw[xkE];rfl,?_⟩⟩
  simpa using k
 ·refine⟨hz,kQ (fun x=>.bl (xfW x)) (fun x _ N hN=>⟨x,rfl,hN⟩) ⟨us.map xfW,by rw[xkE];rfl,?_⟩⟩
  simpa using k
theorem ji (B:Blt mg bn)(F:Fun K "greatest_divisor" "greatest_divisor" wC f fd)(m:mg "greatest_divisor" = some (.ref f))(b:Binds K fd ["one", "other"] [])  :
  Own P w K mg base 1 "greatest_divisor" ["one", "other"] (spT 2 false false xd3):=by
 refine xy F z_ m b rfl (fun _ _ _ _ _ _ hr=>⟨_,_,
  (xc (jW (i:=0) (j:=1) rfl z_.nd rfl rfl (by decide) rfl rfl (xS (xG uJ rfl (B.get "abs") jZ (yL (pv 0))) (xG uJ rfl (B.get "abs") jZ (yL (pv 1)))) (by rfl))
  (xc (fP PassesOwn.never (xN (y8 hr.units) (pv 1) xh (xO _)) (xi (jW (i:=0) (j:=1) rfl z_.nd rfl rfl (by decide) rfl rfl (xS (pv 1) (xD xbj (pv 0) (pv 1))) (by rfl))))
  (xi (xE (pv 0))))),
  (xj (v_ (xw (yG jY (xV xa)) (yG jY (xV xa))))
  (xj (j0 (xH (xg wX xa xr)) (v_ (xw xa (xg xer xa xa))))
  (xC xa))),fun ts KK hl h=>?_⟩)
 obtain⟨a,c,rfl,k⟩:=h
 refine jM (fun n τ=>∃x y:Int,τ=[.fz (.int x),.fz (.int y)]∧0≤x∧0≤y∧n=y.toNat∧Int.gcd x y=Int.gcd a c) c.natAbs ⟨_,_,rfl,by split<;>omega,by split<;>omega,by split<;>omega,?_⟩ ?_
 ·have e1:(if a<0 then -a else a)=(a.natAbs:Int):=by split<;>omega
  have e2:(if c<0 then -c else c)=(c.natAbs:Int):=by split<;>omega
  rw[e1,e2];simp[Int.gcd]
 ·rintro n τ N ⟨x,y,rfl,hx,hy,rfl,hg⟩ hN
  refine xP (b := !decide (y=0)) (fun c0=>?_) (fun c0=>?_)
  ·have c0:y≠0:=by simpa using c0
   have e:x.fmod y=x % y:=xdh hy
   have l:=xjs x (show 0<y by omega)
   have l0:=xjt x c0
   refine⟨c0,hN (x % y).toNat _ (by omega) ⟨_,_,rfl,hy,by rw[e];exact l0,by rw[e],?_⟩⟩
   rw[e,←hg,xdf hx hy]
  ·have c0:y=0:=by simpa using c0
   subst c0
   have:(Int.gcd a c:Int)=x:=by rw[←hg];simp[Int.gcd];omega
   exact this▸k
theorem xbB (B:Blt mg bn)(F:Fun K "lowest" "lowest" rY f fd)(m:mg "lowest" = some (.ref f))(b:Binds K fd ["top", "bottom"] [])(xU:Own P w K mg base 1 "greatest_divisor" ["one", "other"] (spT 2 false false xd3)) :
  Own P w K mg base 2 "lowest" ["top", "bottom"] (spT 2 false false xfV):=by
 refine xy F nH m b rfl (fun _ _ _ _ _ _ hr=>⟨_,_,
  (xc (yI 2 nH.nd (xm xU hr (xS (pv 0) (pv 1))))
  (xi (xE (yd (xS (xD zT (pv 0) (pv 2)) (xD zT (pv 1) (pv 2))))))),
  (xj (xQ (xt (xw xa xa)))
  (xC (yc (b:=true) (xw (xg uG xa xa) (xg uG xa xa))))),fun ts KK hl h=>?_⟩)
 obtain⟨t,bo,rfl,hb,bd,k⟩:=h
 have gp:(0:Int)<(Int.gcd t bo:Int):=by have:=xjA t hb;omega
 have gb:=xbF (t:=t) hb bd
 refine⟨t,bo,rfl,⟨by omega,gb⟩,⟨by omega,gb⟩,?_⟩
 show KK (.tup [.int (t.fdiv (Int.gcd t bo)),.int (bo.fdiv (Int.gcd t bo))])
 rw[zK (by omega),zK (by omega)]
 exact k
theorem xe2 (B:Blt mg bn)(F:Fun K "plus" "plus" xb9 f fd)(m:mg "plus" = some (.ref f))(b:Binds K fd ["one", "other"] [])(yW:Own P w K mg base 2 "lowest" ["top", "bottom"] (spT 2 false false xfV)) :
  Own P w K mg base 3 "plus" ["one", "other"] (spT 2 false false xgS):=by
 refine xy F xeQ m b rfl (fun _ _ _ _ _ _ hr=>⟨_,_,
  (xi (xE (xm yW hr (xS (xD wc (xD xI (xn K 0) (xn K 1)) (xD xI (xn K 1) (xn K 0))) (xD xI (xn K 0) (xn K 1)))))),
  (xC (xt (xw (xg uM (xg xW xo xo) (xg xW xo xo)) (xg xW xo xo)))),fun ts KK hl h=>?_⟩)
 obtain⟨f,g,rfl,hf,hg,k⟩:=h
 have z:=Pol.pp hf.pos hg.pos
 refine⟨⟨hf.top.bd,hg.bot.bd⟩,⟨hg.top.bd,hf.bot.bd⟩,⟨hf.bot.bd,hg.bot.bd⟩,_,_,rfl,by omega,(hf.bot.mul hg.bot).bd,?_⟩
 rw[oP z]
 exact k
theorem xdb (B:Blt mg bn)(F:Fun K "times" "times" pE f fd)(m:mg "times" = some (.ref f))(b:Binds K fd ["whole", "fraction"] [])(yW:Own P w K mg base 2 "lowest" ["top", "bottom"] (spT 2 false false xfV)) :
  Own P w K mg base 3 "times" ["whole", "fraction"] (spT 2 false false xeB):=by
 refine xy F xdw m b rfl (fun _ _ _ _ _ _ hr=>⟨_,_,
  (xi (xE (xm yW hr (xS (xD xI (pv 0) (xn K 1)) (xn K 1))))),
  (xC (xt (xw (xg xW xa xo) xo))),fun ts KK hl h=>?_⟩)
 obtain⟨w,f,rfl,hw,hf,k⟩:=h
 exact⟨⟨hw.bd,hf.top.bd⟩,_,_,rfl,by have:=hf.pos;omega,hf.bot.bd,k⟩
theorem sf (B:Blt mg bn)(F:Fun K "corners_left" "corners_left" vn f fd)(m:mg "corners_left" = some (.ref f))(b:Binds K fd ["rows"] [])(k8:Own P w K mg base 3 "places_of" ["piece"] (spT 1 false true m6))(qT:Own P w K mg base 5 "piece_left" ["rows"] (spT 1 false false aR)) :
  Own P w K mg base 6 "corners_left" ["rows"] (spT 1 false true q9):=by
 refine xy F dI m b rfl (fun _ _ _ _ _ _ hr=>⟨_,_,
  (xi (xE (xm k8 hr (yL (xm qT hr (yL (pv 0))))))),
  (j4 (xbl (xV (xt (xV xa))))),fun ts KK hl h=>?_⟩)
 obtain⟨t,rows,rfl,ht,hr,k⟩:=h
 have sm:=hr.small rows.length
 have pl:=hr.plen rows.length
 rw[xk7 (xlb _)] at sm pl
 exact⟨t,rows,rfl,ht,hr,_,rfl,sm,pl,k⟩
theorem tI (B:Blt mg bn)(F:Fun K "piece_left" "piece_left" qU f fd)(m:mg "piece_left" = some (.ref f))(b:Binds K fd ["rows"] []){t_FAR:Tok}(az:mg "FAR" = some (.int 60001 t_FAR))(gH:Own P w K mg base 4 "cut_down" ["piece", "rows"] (spT 2 false false oK)) :
  Own P w K mg base 5 "piece_left" ["rows"] (spT 1 false false aR):=by
 refine xy F rG m b rfl (fun _ _ _ _ _ _ hr=>⟨_,_,
  (xi (xE (xm gH hr (xS (yU (xM (yd (xM (uu zg (zA (v:=V.int 60001) rfl az ⟨_,rfl⟩)) (xS (uu zg (zA (v:=V.int 60001) rfl az ⟨_,rfl⟩)) xh))) (xM (yd (xM (zA (v:=V.int 60001) rfl az ⟨_,rfl⟩) (xS (uu zg (zA (v:=V.int 60001) rfl az ⟨_,rfl⟩)) xh))) (xS (yd (xM (zA (v:=V.int 60001) rfl az ⟨_,rfl⟩) (xS (zA (v:=V.int 60001) rfl az ⟨_,rfl⟩) xh))) (yd (xM (uu zg (zA (v:=V.int 60001) rfl az ⟨_,rfl⟩)) (xS (zA (v:=V.int 60001) rfl az ⟨_,rfl⟩) xh))))))) (pv 0))))),
  (xC (xt (xw (uy (b:=true) (xJ (yc (b:=true) (xJ (zd xr) (xw (zd xr) xr))) (xJ (yc (b:=true) (xJ xr (xw (zd xr) xr))) (xw (yc (b:=true) (xJ xr (xw xr xr))) (yc (b:=true) (xJ (zd xr) (xw xr xr))))))) xa))),fun ts KK hl h=>?_⟩)
 obtain⟨t,rows,rfl,ht,hr,k⟩:=h
 exact⟨t,[],rows,rfl,ht,hr,k⟩
theorem pJ (B:Blt mg bn)(F:Fun K "cut_down" "cut_down" gG f fd)(m:mg "cut_down" = some (.ref f))(b:Binds K fd ["piece", "rows"] [])(jw:Own P w K mg base 3 "cut_piece" ["piece", "row"] (spT 2 false false sD)) :
  Own P w K mg base 4 "cut_down" ["piece", "rows"] (spT 2 false false oK):=by
 refine xy F jc m b rfl (fun _ _ _ _ _ _ hr=>⟨_,_,
  (xc (zW PassesOwn.never rfl (yS K (pv 1)) (yq 2 jc.nd) (xi (yI 0 jc.nd (xm jw hr (xS (pv 0) (pv 2))))))
  (xi (xE (pv 0)))),
  (xj (yY (yC xa) xk.g (xQ (xt (xw xa xa))))
  (xC xa)),fun ts KK hl h=>?_⟩)
 obtain⟨t,r0,rows,rfl,ht,hr,k⟩:=h
 have tk:∀i,((r0++rows).take (r0.length+i)).foldl Pol.yQ Pol.box=(rows.take i).foldl Pol.yQ (Pol.pieces r0):=fun i=>by rw[List.take_append,xk7 (by omega),show r0.length+i-r0.length=i by omega,xkd];rfl
 have main:xcC (eName 2) (xho 0 (xdm sD (tZ (cf 0) (tZ (cf 2) xes)))) { nx:=xhy (cf 0) { nx:=fun x=>false=false∧KK Tr.non,rt:=KK },rt:=KK } (rows.map trR) [.fz (.lst ((Pol.pieces r0).map trR)),.fz t,.un]:=by
  refine zk (fun i τ=>∃x2,τ=[.fz (.lst (((rows.take i).foldl Pol.yQ (Pol.pieces r0)).map trR)),.fz t,x2]) ⟨_,rfl⟩ ?_ ?_
  ·rintro i x τ N hx ⟨x2,rfl⟩ hN
   obtain⟨r,hri,rfl⟩:=wB hx
   rw[Pol.kL _ _ hri] at hN
   have sm:=hr.small (r0.length+i)
   have pl:=hr.plen (r0.length+i)
   rw[tk] at sm pl
   exact⟨_,r,rfl,hr.sm r (xkI _ (xkR hri)),sm,pl,hN _ ⟨_,rfl⟩⟩
  ·rintro τ ⟨x2,rfl⟩
   rw[xkv,xk7 (xlb _)]
   unfold Pol.pieces at k ⊢
   rw[xkd] at k
   exact k
 rcases ht with rfl | rfl<;>exact main
theorem mY (B:Blt mg bn)(F:Fun K "places_of" "places_of" qf f fd)(m:mg "places_of" = some (.ref f))(b:Binds K fd ["piece"] [])(yW:Own P w K mg base 2 "lowest" ["top", "bottom"] (spT 2 false false xfV))(qF:Own P w K mg base 2 "from_least" ["piece"] (spT 1 false true aY)) :
  Own P w K mg base 3 "places_of" ["piece"] (spT 1 false true m6):=by
 refine xy F bQ m b rfl (fun _ _ _ _ _ _ hr=>⟨_,_,
  (xi (xE (zC (yf (N:=["x", "y", "bottom"]) (tau:=[none,none,none]) (XN:=["piece"]) (xs:=xf qf) (by decide +kernel) rfl rfl) rfl (uw (yP rfl (yP rfl (yP rfl kh)))) (yS K (xm qF hr (yL (pv 0)))) (fun _ _ _ _=>(ym K (n:=3) rfl (xq (yb (i:=0) (show(["x", "y", "bottom"]:List Str).Nodup by decide +kernel) rfl (Or.inl rfl)) (xq (yb (i:=1) (show(["x", "y", "bottom"]:List Str).Nodup by decide +kernel) rfl (Or.inl rfl)) (xq (yb (i:=2) (show(["x", "y", "bottom"]:List Str).Nodup by decide +kernel) rfl (Or.inl rfl)) yh))))) (fun _ _ _ _=>vA) (fun _ _ _ _=>(yd (xS (xm yW hr (xS (pv 0) (pv 2))) (xm yW hr (xS (pv 1) (pv 2))))))))),
  (j4 (yx (yC (xt (xV xa))).c (yn (xl xk (xl xk (xl xk x_)))) uh (yc (b:=true) (xw (xt (xw xa xa)) (xt (xw xa xa)))))),fun ts KK hl h=>?_⟩)
 obtain⟨l,rfl,sm,pl,k⟩:=h
 refine⟨l,rfl,fun v hv=>(sm v hv).1.b3,pl,?_,?_⟩
 ·rw[xkv,qr];exact sqz (by omega)
 ·refine kQ (fun x=>match fx x with | some v=>yT v | none=>.non) (fun x hx N hN=>?_) ?_
  ·obtain⟨v,hv,rfl⟩:=xkP.mp hx
   have hb:=sm v (uL hv)
   exact⟨rfl,_,_,rfl,by omega,hb.1.2.bd,_,_,rfl,by omega,hb.1.2.bd,hN⟩
  ·rw[xkE];exact k
theorem bK (B:Blt mg bn)(F:Fun K "cut_piece" "cut_piece" jE f fd)(m:mg "cut_piece" = some (.ref f))(b:Binds K fd ["piece", "row"] [])(uR:Own P w K mg base 2 "where_crossed" ["row", "one", "other"] (spT 3 false false lq))(uI:Own P w K mg base 1 "beyond" ["row", "corner"] (spT 2 false false c9)) :
  Own P w K mg base 3 "cut_piece" ["piece", "row"] (spT 2 false false sD):=by
 refine xy F wj m b rfl (fun _ _ _ _ _ _ hr=>⟨_,_,
  (xc (yI 2 wj.nd (yU uF))
  (xc (zW PassesOwn.never rfl (rQ K rfl (B.get "enumerate") (yL (pv 0))) (ym K (n:=2) rfl (xq (yq 3 wj.nd) (xq (yq 4 wj.nd) yh))) (xc (yI 5 wj.nd (y4 (yj K) (pv 0) (xD zb (pv 3) xh) (fun _ _=>rfl)))
  (xc (yR (xN (vE K hr.units) (xD xI (xm uI hr (xS (pv 1) (pv 5))) (xm uI hr (xS (pv 1) (pv 4)))) xh (xO _)) (xc (yI 6 wj.nd (xm uR hr (xM (pv 1) (xS (pv 5) (pv 4)))))
  (xi (yR (xN (c_ hr.units) (pv 6) (pv 2) (by with_unfolding_all rfl)) (xi (ub (dN PySem.F.plainAttrs_list PySem.F.slot_list_append PySem.F.type_list_append zY (pv 2) (yL (pv 6))))) xZ))) xZ)
  (xi (yR (xN fy (xm uI hr (xS (pv 1) (pv 4))) xh (xO _)) (xi (ub (dN PySem.F.plainAttrs_list PySem.F.slot_list_append PySem.F.type_list_append zY (pv 2) (yL (pv 4))))) xZ)))))
  (xi (xE (pv 2))))),
  (xj (zo (vy ud))
  (xj (yY (fO (xV xa)) (yn (xl xk (xl xk x_))).g (xj (xQ (w_ xa (xg ze xa xr)))
  (xj (yr (xH (xg vG (xg xW (xt (xw xa xa)) (xt (xw xa xa))) xr)) (xj (xQ (xt (xJ xa (xw xa xa))))
  (yr (xH (xg xfB xa si)) (vk xa) xT)) xT)
  (yr (xH (xg fw (xt (xw xa xa)) xr)) (vk xa) xT))))
  jT)),fun ts KK hl h=>?_⟩)
 obtain⟨l,r,rfl,hr,hl',hz,k⟩:=h
 refine zk (all:=qy (l.map trR)) (fun i τ=>∃x3 x4 x5 x6,τ=[.fz (.lst (l.map trR)),.fz (trR r),.ow ((((Pol.cyc l).take i).foldl (Pol.yt r) []).map trR),x3,x4,x5,x6]∧(((Pol.cyc l).take i).foldl (Pol.yt r) []).length≤2*i)
  ⟨_,_,_,_,rfl,xlb _⟩ ?_ ?_
 ·rintro i x τ N hx ⟨x3,x4,x5,x6,rfl,hlen⟩ hN
  obtain⟨v,hv,rfl⟩:=rT hx
  obtain⟨u,hu,hc,ha⟩:=l6 hv
  have hvm:=xkR hv
  have hi:=(xkk.mp hv).1
  have fold:=Pol.kL (Pol.yt r) [] hc
  generalize hacc:((Pol.cyc l).take i).foldl (Pol.yt r) []=acc at fold hlen ⊢
  have leaf:∀(ts:List Tr) (y6:TV),ts=(Pol.yt r acc (u,v)).map trR→N [.fz (.lst (l.map trR)),.fz (trR r),.ow ts,.fz (.int i),.fz (trR v),.fz (trR u),y6]:=fun ts y6 e=>by
   rw[fold] at hN
   refine hN _ ⟨_,_,_,y6,by rw[e],?_⟩
   ·have:=Pol.o_ r acc (u,v)
    have s2:(Pol.seg r (u,v)).length≤2:=by unfold Pol.seg;split<;>split<;>simp
    omega
  have bu:=hl' u hu
  have bv:=hl' v hvm
  have len0:∀n:Nat,n≤acc.length+1→n<sizeLine:=fun n hn=>sqz (by omega)
  refine⟨rfl,?_⟩
  show gW (atT (l.map trR) ((i:Int)-1)) _
  rw[ha]
  refine⟨r,u,rfl,hr.b3,bu.1.b3,r,v,rfl,hr.b3,bv.1.b3,⟨(hr.val bu.1).bd,(hr.val bv.1).bd⟩,?_⟩
  refine xP (b:=decide (Pol.val r u*Pol.val r v<0)) (fun c=>?_) (fun c=>?_)
  ·have c:=xlx c
   refine⟨r,u,v,rfl,⟨hr,bu.1,bv.1⟩,⟨bu.2,bv.2⟩,c,⟨cM _,vC trR cM acc,(by show(1:Nat)≤60;decide)⟩,?_⟩
   refine xP (b := !((acc.map trR).any fun t=>teq t (trR (Pol.xF r u v)))) (fun d=>?_) (fun d=>?_)
   ·rw[xaI] at d
    have d:Pol.xF r u v∉acc:=by simpa using d
    refine⟨len0 _ (by simp),r,v,rfl,hr.b3,bv.1.b3,?_⟩
    refine xP (b:=decide (Pol.val r v≤0)) (fun e=>?_) (fun e=>?_)
    ·have e:=xlx e
     exact⟨len0 _ (by simp),leaf _ _ (by simp[Pol.yt,c,d,e])⟩
    ·have e:=xlw e
     exact leaf _ _ (by simp[Pol.yt,c,d,e])
   ·rw[xaI] at d
    have d:Pol.xF r u v∈acc:=by simpa using d
    refine⟨r,v,rfl,hr.b3,bv.1.b3,?_⟩
    refine xP (b:=decide (Pol.val r v≤0)) (fun e=>?_) (fun e=>?_)
    ·have e:=xlx e
     exact⟨len0 _ (by simp),leaf _ _ (by simp[Pol.yt,c,d,e])⟩
    ·have e:=xlw e
     exact leaf _ _ (by simp[Pol.yt,c,d,e])
  ·have c:=xlw c
   refine⟨r,v,rfl,hr.b3,bv.1.b3,?_⟩
   refine xP (b:=decide (Pol.val r v≤0)) (fun e=>?_) (fun e=>?_)
   ·have e:=xlx e
    exact⟨len0 _ (by simp),leaf _ _ (by simp[Pol.yt,c,e])⟩
   ·have e:=xlw e
    exact leaf _ _ (by simp[Pol.yt,c,e])
 ·rintro τ ⟨x3,x4,x5,x6,rfl,hlen⟩
  rw[jN,xk7 (by rw[Pol.xfp];exact xlb _)]
  exact k
theorem xaT (B:Blt mg bn)(F:Fun K "beyond" "beyond" rN f fd)(m:mg "beyond" = some (.ref f))(b:Binds K fd ["row", "corner"] [])  :
  Own P w K mg base 1 "beyond" ["row", "corner"] (spT 2 false false c9):=by
 refine xy F uU m b rfl (fun _ _ _ _ _ _ hr=>⟨_,_,
  (xc (zR (pv 0) (ym K (n:=3) rfl (xq (yq 2 uU.nd) (xq (yq 3 uU.nd) (xq (yq 4 uU.nd) yh)))))
  (xc (zR (pv 1) (ym K (n:=3) rfl (xq (yq 5 uU.nd) (xq (yq 6 uU.nd) (xq (yq 7 uU.nd) yh)))))
  (xi (xE (xD zb (xD wc (xD xI (pv 2) (pv 5)) (xD xI (pv 3) (pv 6))) (xD xI (pv 4) (pv 7))))))),
  (xj (za xa (yn (xl xk (xl xk (xl xk x_)))).g)
  (xj (za xa (yn (xl xk (xl xk (xl xk x_)))).g)
  (xC (xg ze (xg uM (xg xW xa xa) (xg xW xa xa)) (xg xW xa xa))))),fun ts KK hl h=>?_⟩)
 obtain⟨r,p,rfl,hr,hp,k⟩:=h
 exact⟨rfl,rfl,⟨hr.1.1,hp.1.1⟩,⟨hr.1.2,hp.1.2⟩,⟨hr.2,hp.2⟩,k⟩
theorem fu (B:Blt mg bn)(F:Fun K "where_crossed" "where_crossed" wI f fd)(m:mg "where_crossed" = some (.ref f))(b:Binds K fd ["row", "one", "other"] [])(xU:Own P w K mg base 1 "greatest_divisor" ["one", "other"] (spT 2 false false xd3))(uI:Own P w K mg base 1 "beyond" ["row", "corner"] (spT 2 false false c9)) :
  Own P w K mg base 2 "where_crossed" ["row", "one", "other"] (spT 3 false false lq):=by
 refine xy F yK m b rfl (fun _ _ _ _ _ _ hr=>⟨_,_,
  (xc (zR (yd (xS (xG uJ rfl (B.get "abs") jZ (yL (xm uI hr (xS (pv 0) (pv 1))))) (xG uJ rfl (B.get "abs") jZ (yL (xm uI hr (xS (pv 0) (pv 2))))))) (ym K (n:=2) rfl (xq (yb (i:=3) yK.nd rfl (Or.inr rfl)) (xq (yb (i:=4) yK.nd rfl (Or.inr rfl)) yh))))
  (xc (zR (zC (yf (N:=["here", "there", "other_off", "one_off"]) (tau:=[none,none,some 4,some 3]) (XN:=["row", "one", "other", "one_off", "other_off", "x", "y", "bottom", "shared"]) (xs:=xf wI) (by decide +kernel) rfl rfl) rfl (uw (yP rfl (yP rfl kh))) (rM K rfl (B.get "zip") (xS (pv 1) (pv 2))) (fun _ _ _ _=>(ym K (n:=2) rfl (xq (yb (i:=0) (show(["here", "there", "other_off", "one_off"]:List Str).Nodup by decide +kernel) rfl (Or.inl rfl)) (xq (yb (i:=1) (show(["here", "there", "other_off", "one_off"]:List Str).Nodup by decide +kernel) rfl (Or.inl rfl)) yh)))) (fun _ _ _ _=>vA) (fun _ _ _ _=>(xD wc (xD xI (pv 2) (pv 0)) (xD xI (pv 3) (pv 1))))) (xfI K (n:=3) rfl (xq (yq 5 yK.nd) (xq (yq 6 yK.nd) (xq (yq 7 yK.nd) yh)))))
  (xc (yI 8 yK.nd (xm xU hr (xS (xm xU hr (xS (pv 5) (pv 6))) (pv 7))))
  (xi (xE (yd (xM (xD zT (pv 5) (pv 8)) (xS (xD zT (pv 6) (pv 8)) (xD zT (pv 7) (pv 8)))))))))),
  (xj (za (yc (b:=true) (xw (yG jY (xV (xt (xw xa xa)))) (yG jY (xV (xt (xw xa xa)))))) (yn (xl xk (xl xk x_))).g)
  (xj (za (OkF.e (yx (fK (xw xa xa)).c (yn (xl xk (xl xk x_))) uh (xg uM (xg xW xa xa) (xg xW xa xa)))) (xfz (xl xk (xl xk (xl xk x_)))).g)
  (xj (xQ (xt (xw (xt (xw xa xa)) xa)))
  (xC (yc (b:=true) (xJ (xg uG xa xa) (xw (xg uG xa xa) (xg uG xa xa)))))))),fun ts KK hl h=>?_⟩)
 obtain⟨r,u,v,rfl,⟨hr,hu,hv⟩,⟨zu,zv⟩,hn,k⟩:=h
 have au:Bk 1000 (Pol.abs (Pol.val r u)):=((hr.val hu).mono (by decide)).abs
 have av:Bk 1000 (Pol.abs (Pol.val r v)):=((hr.val hv).mono (by decide)).abs
 have cu:∀ {i},Bk 800 i→CM (Pol.abs (Pol.val r v)) i:=fun h=>⟨av.bd,h.bd⟩
 have cv:∀ {i},Bk 800 i→CM (Pol.abs (Pol.val r u)) i:=fun h=>⟨au.bd,h.bd⟩
 obtain⟨b,_,_,_⟩:=Pol.kF zu zv hn
 have wz:0<(Pol.cw r u v).2.2:=by
  have h1:=Pol.pp b.pa zu
  have h2:=Pol.pp b.pb zv
  show 0<Pol.abs (Pol.val r v)*u.2.2+Pol.abs (Pol.val r u)*v.2.2
  omega
 have wb:Bd (Pol.cw r u v).2.2:=((av.mul hu.2).add (au.mul hv.2)).bd
 have gp:=Pol.kG wz
 have gb:Bd (Pol.uO (Pol.cw r u v):Int):=xbF (by omega) wb
 refine⟨r,u,rfl,hr.b3,hu.b3,r,v,rfl,hr.b3,hv.b3,rfl,sqz (show(3:Nat)≤1000000 by decide),rfl,cu hu.1.1,cv hv.1.1,rfl,cu hu.1.2,cv hv.1.2,rfl,cu hu.2,cv hv.2,rfl,_,_,rfl,_,_,rfl,⟨?_,gb⟩,⟨?_,gb⟩,⟨?_,gb⟩,?_⟩
 ·show(Pol.uO (Pol.cw r u v):Int)≠0;omega
 ·show(Pol.uO (Pol.cw r u v):Int)≠0;omega
 ·show(Pol.uO (Pol.cw r u v):Int)≠0;omega
 show KK (.tup [.int ((Pol.cw r u v).1.fdiv (Pol.uO (Pol.cw r u v))),.int ((Pol.cw r u v).2.1.fdiv (Pol.uO (Pol.cw r u v))),.int ((Pol.cw r u v).2.2.fdiv (Pol.uO (Pol.cw r u v)))])
 rw[zK (by omega),zK (by omega),zK (by omega)]
 exact k
theorem rS (B:Blt mg bn)(F:Fun K "from_least" "from_least" qQ f fd)(m:mg "from_least" = some (.ref f))(b:Binds K fd ["piece"] [])(gJ:Own P w K mg base 1 "is_ahead" ["one", "other"] (spT 2 false false xeH)) :
  Own P w K mg base 2 "from_least" ["piece"] (spT 1 false true aY):=by
 refine xy F wO m b rfl (fun _ _ _ _ _ _ hr=>⟨_,_,
  (xc (yI 1 wO.nd xh)
  (xc (zW PassesOwn.never rfl (rQ K rfl (B.get "enumerate") (yL (pv 0))) (ym K (n:=2) rfl (xq (yq 2 wO.nd) (xq (yq 3 wO.nd) yh))) (xi (yR (yO (xm gJ hr (xS (pv 3) (y4 (yj K) (pv 0) (pv 1) (fun _ _=>rfl))))) (xi (yI 1 wO.nd (pv 2))) xZ)))
  (xi (xE (xD aL (qg (fR K) (pv 0) (k9 (pv 1)) jd) (qg (fR K) (pv 0) jd (k9 (pv 1)))))))),
  (xj (xQ xr)
  (xj (yY (fO (xV xa)) (yn (xl xk (xl xk x_))).g (yr (yB (xt (xw xa (w_ xa xa)))) (xQ xa) xT))
  (j4 (pM (xei xa (qa xa) vP) (xei xa vP (qa xa)))))),fun ts KK hl h=>?_⟩)
 obtain⟨l,rfl,hl',hz,k⟩:=h
 refine zk (all:=qy (l.map trR)) (fun i τ=>∃x2 x3,τ=[.fz (.lst (l.map trR)),.fz (.int ((List.range i).foldl (yk l) 0:Nat)),x2,x3]∧((List.range i).foldl (yk l) 0<l.length∨l=[]))
  ⟨_,_,rfl,?_⟩ ?_ ?_
 ·cases l with
  | nil=>exact .inr rfl
  | cons a t=>exact .inl (by simp)
 ·rintro i x τ N hx ⟨x2,x3,rfl,hlen⟩ hN
  obtain⟨v,hv,rfl⟩:=rT hx
  have hvm:=xkR hv
  have hi:=(xkk.mp hv).1
  have fold:(List.range (i+1)).foldl (yk l) 0=yk l ((List.range i).foldl (yk l) 0) i:=by rw[List.range_succ,xkd];rfl
  generalize hs:(List.range i).foldl (yk l) 0=s at fold hlen ⊢
  have hs':s<l.length:=hlen.resolve_right (fun z=>by rw[z] at hi;simp at hi)
  have eu:atT (l.map trR) (s:Int)=some (trR l[s]):=by rw[jf,xkl,xki hs'];rfl
  refine⟨rfl,?_⟩
  show gW (atT (l.map trR) (s:Int)) _
  rw[eu]
  have ev:l.getD i (0,0,0)=v:=by rw[xkf,hv];rfl
  have es:l.getD s (0,0,0)=l[s]:=by rw[xkf,xki hs'];rfl
  refine⟨v,l[s],rfl,hl' _ hvm,hl' _ (xkp hs'),?_⟩
  refine xP (b:=ahead v l[s]) (fun c=>?_) (fun c=>?_)
  ·have f2:yk l s i=i:=by unfold yk;rw[ev,es,if_pos c]
   rw[fold,f2] at hN
   exact hN _ ⟨_,_,rfl,.inl hi⟩
  ·have c':¬ahead v l[s]=true:=by rw[c];exact xjn
   have f2:yk l s i=s:=by unfold yk;rw[ev,es,if_neg c']
   rw[fold,f2] at hN
   exact hN _ ⟨_,_,rfl,.inl hs'⟩
 ·rintro τ ⟨x2,x3,rfl,hlen⟩
  rw[jN]
  show(dU (l.map trR) (some ((qb l:Nat):Int)) none).length+(dU (l.map trR) none (some ((qb l:Nat):Int))).length≤sizeLine∧KK (.lst (dU (l.map trR) (some ((qb l:Nat):Int)) none++dU (l.map trR) none (some ((qb l:Nat):Int))))
  rw[mf,oI]
  refine⟨xg3 (by simp;omega),?_⟩
  unfold yu at k
  rw[xkC,List.map_drop,List.map_take] at k
  exact k
theorem cQ (B:Blt mg bn)(F:Fun K "is_ahead" "is_ahead" gL f fd)(m:mg "is_ahead" = some (.ref f))(b:Binds K fd ["one", "other"] [])  :
  Own P w K mg base 1 "is_ahead" ["one", "other"] (spT 2 false false xeH):=by
 refine xy F cS m b rfl (fun _ _ _ _ _ _ hr=>⟨_,_,
  (xi (xE (yZ (vE K hr.units) (yd (xS (xD xI (xn K 0) (xn K 1)) (xD xI (xn K 0) (xn K 1)))) (yd (xS (xD xI (xn K 1) (xn K 0)) (xD xI (xn K 1) (xn K 0)))) (xO _)))),
  (xC (xg vG (yc (b:=true) (xw (xg xW xo xo) (xg xW xo xo))) (yc (b:=true) (xw (xg xW xo xo) (xg xW xo xo))))),fun ts KK hl h=>?_⟩)
 obtain⟨p,q,rfl,hp,hq,k⟩:=h
 refine⟨⟨hp.1.1,hq.2⟩,⟨hp.1.2,hq.2⟩,⟨hq.1.1,hp.2⟩,⟨hq.1.2,hp.2⟩,[p.1*q.2.2,p.2.1*q.2.2],[q.1*p.2.2,q.2.1*p.2.2],rfl,rfl,?_⟩
 rw[xfY]
 exact k
theorem xbU (B:Blt mg bn)(F:Fun K "is_row" "is_row" mx f fd)(m:mg "is_row" = some (.ref f))(b:Binds K fd ["thing"] [])(w5:Own P w K mg base 2 "are_whole" ["things"] (spT 1 false false dy)) :
  Own P w K mg base 3 "is_row" ["thing"] (spT 1 false false xdW):=by
 refine xy F xaO m b rfl (fun _ _ _ _ _ _ hr=>⟨_,_,
  (xc (yR (PW.pt (uA (zf (yO (xG um rfl (B.get "isinstance") xR (xS (pv 0) (uV (v:=V.ty "tuple") rfl (B.get "tuple") wo rfl))))) (uA (xN (y8 hr.units) (xG (yl K) rfl (B.get "len") zO (yL (pv 0))) xh (xO _)) (wV (zf (yO (xm w5 hr (yL (pv 0))))))))) (xi (xE vF)) xZ)
  (xi (xE (xdT (yZ (y8 hr.units) (xn K 0) xh (xO _)) (jX (yZ (y8 hr.units) (xn K 0) xh (xO _))))))),
  (xj (yr (zq (yE (yB (kX xa))) (zq (xH (xg wX (yG we (xV xa)) xr)) (yE (yB (xt (xV xa)))))) (xC qx) xT)
  (xC (oG (xg wX xo xr) (xg wX xo xr)))),fun ts KK hl h=>?_⟩)
 obtain⟨t,rfl,k⟩:=h
 cases t with
 | tup us =>
  refine xP (b := !decide ((us.length:Int)=3)) (fun c=>?_) (fun c=>?_)
  ·have c:¬(us.length:Int)=3:=by simpa using c
   have e:nO (.tup us)=false:=by
    unfold nO
    cases e:fx (.tup us) with
    | none=>rfl
    | some r =>
     have:=kD e
     unfold trR at this
     injection this with this
     rw[this] at c
     exact absurd rfl c
   rw[e] at k
   exact k
  ·have c:us.length=3:=by simp at c;omega
   obtain⟨x,y,z,rfl⟩:∃x y z,us=[x,y,z]:=by
    match us,c with
    | [x,y,z],_=>exact⟨x,y,z,rfl⟩
   refine⟨_,rfl,_,.inl rfl,xaE c,?_⟩
   cases x with
   | int a =>
    cases y with
    | int b =>
     cases z with
     | int d =>
      show if (!decide (a=0))=true then KK (.bl true) else KK (.bl (!decide (b=0)))
      by_cases ha:a=0<;>by_cases hb:b=0<;>simp[ha,hb,nO,fx] at k ⊢<;>exact k
     | _=>exact k
    | _=>exact k
   | _=>exact k
 | _=>exact k
theorem xdq (B:Blt mg bn)(F:Fun K "value" "value" pY f fd)(m:mg "value" = some (.ref f))(b:Binds K fd ["row", "place"] [])(xaH:Own P w K mg base 3 "plus" ["one", "other"] (spT 2 false false xgS))(my:Own P w K mg base 3 "times" ["whole", "fraction"] (spT 2 false false xeB)) :
  Own P w K mg base 4 "value" ["row", "place"] (spT 2 false false xbD):=by
 refine xy F xdD m b rfl (fun _ _ _ _ _ _ hr=>⟨_,_,
  (xi (xE (xm xaH hr (xS (xm my hr (xS (xn K 0) (xn K 1))) (xm my hr (xS (xn K 0) (xn K 1))))))),
  (xC (xt (xw (xt (xw xo xo)) (xt (xw xo xo))))),fun ts KK hl h=>?_⟩)
 obtain⟨a,c,x,p,rfl,ha,hc,hp,k⟩:=h
 have h1:=(Fk.timW ha hp.1).mono (show 800≤900 by decide)
 have h2:=(Fk.timW hc hp.2).mono (show 800≤900 by decide)
 refine⟨a,p.1,rfl,ha.mono (by decide),hp.1.mono (by decide),c,p.2,rfl,hc.mono (by decide),hp.2.mono (by decide),_,_,rfl,h1,h2,?_⟩
 rw[xdL hp.1.pos hp.2.pos]
 exact k
theorem xcZ (B:Blt mg bn)(F:Fun K "keeps" "keeps" pU f fd)(m:mg "keeps" = some (.ref f))(b:Binds K fd ["row", "place"] [])(gR:Own P w K mg base 4 "value" ["row", "place"] (spT 2 false false xbD)) :
  Own P w K mg base 5 "keeps" ["row", "place"] (spT 2 false false xd_):=by
 refine xy F t_ m b rfl (fun _ _ _ _ _ _ hr=>⟨_,_,
  (xc (zR (xm gR hr (xS (pv 0) (pv 1))) (ym K (n:=2) rfl (xq (yq 2 t_.nd) (xq (yq 3 t_.nd) yh))))
  (xi (xE (yZ fy (pv 2) (xD xI (xn K 0) (pv 3)) (xO _))))),
  (xj (za (xt (xw xa xa)) (yn (xl xk (xl xk x_))).g)
  (xC (xg fw xa (xg xW xo xa)))),fun ts KK hl h=>?_⟩)
 obtain⟨r,p,rfl,hr,hp,k⟩:=h
 exact⟨r.1,r.2.1,[.int r.2.2],p,rfl,hr.1.1,hr.1.2,hp,rfl,⟨hr.2.bd,(xbr hr hp).bot.bd⟩,k⟩
theorem pS (B:Blt mg bn)(F:Fun K "is_tight" "is_tight" gE f fd)(m:mg "is_tight" = some (.ref f))(b:Binds K fd ["row", "place"] [])(gR:Own P w K mg base 4 "value" ["row", "place"] (spT 2 false false xbD)) :
  Own P w K mg base 5 "is_tight" ["row", "place"] (spT 2 false false oi):=by
 refine xy F jh m b rfl (fun _ _ _ _ _ _ hr=>⟨_,_,
  (xc (zR (xm gR hr (xS (pv 0) (pv 1))) (ym K (n:=2) rfl (xq (yq 2 jh.nd) (xq (yq 3 jh.nd) yh))))
  (xi (xE (yZ (wR hr.units) (pv 2) (xD xI (xn K 0) (pv 3)) (xO _))))),
  (xj (za (xt (xw xa xa)) (yn (xl xk (xl xk x_))).g)
  (xC (xg os_eq xa (xg xW xo xa)))),fun ts KK hl h=>?_⟩)
 obtain⟨r,p,rfl,hr,hp,k⟩:=h
 refine⟨r.1,r.2.1,[.int r.2.2],p,rfl,hr.1.1,hr.1.2,hp,rfl,⟨hr.2.bd,(xbr hr hp).bot.bd⟩,k⟩
theorem xac (B:Blt mg bn)(F:Fun K "turn_to" "turn_to" dP f fd)(m:mg "turn_to" = some (.ref f))(b:Binds K fd ["one", "other"] [])  :
  Own P w K mg base 1 "turn_to" ["one", "other"] (spT 2 false false tm):=by
 refine xy F xah m b rfl (fun _ _ _ _ _ _ hr=>⟨_,_,
  (xi (xE (xD zb (xD xI (xn K 0) (xn K 1)) (xD xI (xn K 0) (xn K 1))))),
  (xC (xg ze (xg xW xo xo) (xg xW xo xo))),fun ts KK hl h=>?_⟩)
 obtain⟨a,b,c,d,x,y,rfl,hb,k⟩:=h
 exact⟨⟨hb.1.1,hb.2.2⟩,⟨hb.1.2,hb.2.1⟩,k⟩
theorem p7 (B:Blt mg bn)(F:Fun K "go_round" "go_round" gC f fd)(m:mg "go_round" = some (.ref f))(b:Binds K fd ["rows"] [])(kI:Own P w K mg base 2 "furthest" ["first", "rows", "sign"] (spT 3 false false ng))(v8:Own P w K mg base 2 "points_back" ["first", "rows"] (spT 2 false false xgc))(x9:Own P w K mg base 1 "turn_to" ["one", "other"] (spT 2 false false tm)) :
  Own P w K mg base 3 "go_round" ["rows"] (spT 1 false false oA):=by
 refine xy F qc m b rfl (fun _ _ _ _ _ _ hr=>⟨_,_,
  (xc (yR (xN (wR hr.units) (xG (yl K) rfl (B.get "len") zO (yL (pv 0))) xh (xO _)) (xi (xE vF)) xZ)
  (xc (yI 1 qc.nd (xn K 0))
  (xc (yI 2 qc.nd (xm kI hr (xM (pv 1) (xS (pv 0) xh))))
  (xc (yI 3 qc.nd (xm kI hr (xM (pv 1) (xS (pv 0) (uu zg xh)))))
  (xc (yR (PW.pt (uA (sW (nR (pv 2))) (wV (sW (nR (pv 3)))))) (xi (xE vF)) xZ)
  (xi (xE (xdT (yZ pV (xm x9 hr (xS (pv 2) (pv 3))) xh (xO _)) (jX (xm v8 hr (xS (pv 1) (pv 0)))))))))))),
  (xj (yr (xH (xg os_eq (yG we (xV xa)) xr)) (xC qx) xT)
  (xj (xQ xo)
  (xj (xQ (xt (xJ xa (xw xa xr))))
  (xj (xQ (xt (xJ xa (xw xa (zd xr)))))
  (xj (yr (zq (yB (mK xa)) (yB (mK xa))) (xC qx) xT)
  (xC (oG (xg pF (xt (xw xa xa)) xr) (xt (xw xa xa))))))))),fun ts KK hl h=>?_⟩)
 obtain⟨rows,rfl,hx,k⟩:=h
 cases rows with
 | nil=>exact k
 | cons r t =>
  have hr:=hx r xkL
  refine⟨r,r::t,1,rfl,.inl rfl,hr,hx,r,r::t,-1,rfl,.inr rfl,hr,hx,?_⟩
  have e:Pol.vo (r::t)=match Pol.far r 1 (r::t),Pol.far r (-1) (r::t) with
   | some l,some k=>decide (0<Pol.turn l k) || Pol.back r (r::t)
   | _,_=>false:=rfl
  rw[e] at k
  cases e1:Pol.far r 1 (r::t) with
  | none=>rw[e1] at k;exact k
  | some l =>
   cases e2:Pol.far r (-1) (r::t) with
   | none=>rw[e1,e2] at k;exact k
   | some q =>
    rw[e1,e2] at k
    have hl2:=hx l (Pol.fU e1).mem
    have hq2:=hx q (Pol.fU e2).mem
    refine⟨l.1,l.2.1,q.1,q.2.1,_,_,rfl,⟨⟨hl2.1.1.bd,hl2.1.2.bd⟩,hq2.1.1.bd,hq2.1.2.bd⟩,?_⟩
    have k:KK (.bl (decide (0<Pol.turn l q) || Pol.back r (r::t))):=k
    refine xP (b:=decide (0<Pol.turn l q)) (fun c=>?_) (fun c=>?_)
    ·rw[c] at k;exact k
    ·rw[c,Bool.false_or] at k
     exact⟨r,r::t,rfl,hr,hx,k⟩
theorem cV (B:Blt mg bn)(F:Fun K "furthest" "furthest" gM f fd)(m:mg "furthest" = some (.ref f))(b:Binds K fd ["first", "rows", "sign"] [])(x9:Own P w K mg base 1 "turn_to" ["one", "other"] (spT 2 false false tm)) :
  Own P w K mg base 2 "furthest" ["first", "rows", "sign"] (spT 3 false false ng):=by
 refine xy F v5 m b rfl (fun _ _ _ _ _ _ hr=>⟨_,_,
  (xc (yI 3 v5.nd j6)
  (xc (zW PassesOwn.never rfl (yS K (pv 1)) (yq 4 v5.nd) (xi (yR (PW.pt (g6 (xN pV (xD xI (pv 2) (xm x9 hr (xS (pv 0) (pv 4)))) xh (xO _)) (qY (PW.pt (uA (sW (nR (pv 3))) (wV (xN pV (xD xI (pv 2) (xm x9 hr (xS (pv 3) (pv 4)))) xh (xO _)))))))) (xi (yI 3 v5.nd (pv 4))) xZ)))
  (xi (xE (pv 3))))),
  (xj (xQ (xae (t:=Tr.non)))
  (xj (yY (yC xa) xk.g (yr (qz (xH (xg pF (xg xW xa (xt (xw xa xa))) xr)) (zq (yB (mK xa)) (xH (xg pF (xg xW xa (xt (xw xa xa))) xr)))) (xQ xa) xT))
  (xC xa))),fun ts KK hl h=>?_⟩)
 obtain⟨r,rows,s,rfl,hs,hr,hx,k⟩:=h
 have tb:∀ {p q:Pol.R3},B3k 900 p→B3k 900 q→Bk 1801 (Pol.turn p q):=fun hp hq=>(hp.1.1.mul hq.1.2).sub (hp.1.2.mul hq.1.1)
 have sb:Bd s:=by rcases hs with rfl | rfl<;>exact cG (by decide) (by decide)
 refine zk (all:=rows.map trR) (fun i τ=>∃x4,τ=[.fz (trR r),.fz (.tup (rows.map trR)),.fz (.int s),.fz (xhP ((rows.take i).foldl (Pol.wU r s) none)),x4]∧∀y,(rows.take i).foldl (Pol.wU r s) none=some y→B3k 900 y) ⟨_,rfl,fun y hy=>by cases hy⟩ ?_ ?_
 ·rintro i x τ N hxi ⟨x4,rfl,hb⟩ hN
  obtain⟨y,hyi,rfl⟩:=wB hxi
  have hy:=hx y (xkR hyi)
  have fold:=Pol.kL (Pol.wU r s) none hyi
  generalize hacc:(rows.take i).foldl (Pol.wU r s) none=acc at fold hb ⊢
  have leaf:∀o:Option Pol.R3,o=Pol.wU r s acc y→N [.fz (trR r),.fz (.tup (rows.map trR)),.fz (.int s),.fz (xhP o),.fz (trR y)]:=fun o e=>by
   rw[fold] at hN
   refine hN _ ⟨_,by rw[e],?_⟩
   ·unfold Pol.wU
    split
    ·intro z hz;cases hz;exact hy
    ·exact hb
  refine⟨r.1,r.2.1,y.1,y.2.1,_,_,rfl,⟨⟨hr.1.1.bd,hr.1.2.bd⟩,hy.1.1.bd,hy.1.2.bd⟩,⟨sb,(tb hr hy).bd⟩,?_⟩
  refine xP (b:=decide (0<s*Pol.turn r y)) (fun c=>?_) (fun c=>?_)
  ·have c:=xlx c
   cases acc with
   | none=>exact leaf (some y) (by unfold Pol.wU;rw[if_pos ⟨c,rfl⟩])
   | some z =>
    have hz:=hb z rfl
    refine⟨z.1,z.2.1,y.1,y.2.1,_,_,rfl,⟨⟨hz.1.1.bd,hz.1.2.bd⟩,hy.1.1.bd,hy.1.2.bd⟩,⟨sb,(tb hz hy).bd⟩,?_⟩
    refine xP (b:=decide (0<s*Pol.turn z y)) (fun d=>?_) (fun d=>?_)
    ·exact leaf (some y) (by unfold Pol.wU;rw[if_pos ⟨c,d⟩])
    ·refine leaf (some z) ?_
     unfold Pol.wU
     rw[if_neg (fun w=>by have w2:decide (0<s*Pol.turn z y)=true:=w.2;rw[d] at w2;cases w2)]
  ·have c:=xlw c
   exact leaf acc (by unfold Pol.wU;rw[if_neg fun w=>c w.1])
 ·rintro τ ⟨x4,rfl,_⟩
  rw[xkv,xk7 (xlb _)]
  exact k
theorem aj (B:Blt mg bn)(F:Fun K "points_back" "points_back" vZ f fd)(m:mg "points_back" = some (.ref f))(b:Binds K fd ["first", "rows"] [])(x9:Own P w K mg base 1 "turn_to" ["one", "other"] (spT 2 false false tm)) :
  Own P w K mg base 2 "points_back" ["first", "rows"] (spT 2 false false xgc):=by
 refine xy F kY m b rfl (fun _ _ _ _ _ _ hr=>⟨_,_,
  (xc (zW PassesOwn.never rfl (yS K (pv 1)) (yq 2 kY.nd) (xi (yR (PW.pt (g6 (xN (wR hr.units) (xm x9 hr (xS (pv 0) (pv 2))) xh (xO _)) (qY (xN (vE K hr.units) (xD wc (xD xI (xn K 0) (xn K 2)) (xD xI (xn K 0) (xn K 2))) xh (xO _))))) (xi (xE vF)) xZ)))
  (xi (xE vF))),
  (xj (yY (yC xa) xk.g (yr (qz (xH (xg os_eq (xt (xw xa xa)) xr)) (xH (xg vG (xg uM (xg xW xo xo) (xg xW xo xo)) xr))) (xC qx) xT))
  (xC qx)),fun ts KK hl h=>?_⟩)
 obtain⟨r,rows,rfl,hr,hx,k⟩:=h
 refine zk (all:=rows.map trR) (fun i τ=>∃x2,τ=[.fz (trR r),.fz (.tup (rows.map trR)),x2]∧∀y∈rows.take i,¬(Pol.turn r y=0∧Pol.dot r y<0)) ⟨_,rfl,fun y hy=>by simp at hy⟩ ?_ ?_
 ·rintro i x τ N hxi ⟨x2,rfl,hb⟩ hN
  obtain⟨y,hyi,rfl⟩:=wB hxi
  have hym:=xkR hyi
  have hy:=hx y hym
  have leaf:¬(Pol.turn r y=0∧Pol.dot r y<0)→N [.fz (trR r),.fz (.tup (rows.map trR)),.fz (trR y)]:=fun c=>hN _ ⟨_,rfl,fun z hz=>by
   rw[xk8,hyi] at hz
   rcases xkG.mp hz with q | q
   ·exact hb z q
   ·have:z=y:=by simpa using q
    rw[this];exact c⟩
  refine⟨r.1,r.2.1,y.1,y.2.1,_,_,rfl,⟨⟨hr.1.1.bd,hr.1.2.bd⟩,hy.1.1.bd,hy.1.2.bd⟩,?_⟩
  refine xP (b:=decide (Pol.turn r y=0)) (fun c=>?_) (fun c=>?_)
  ·have c:=xlx c
   refine⟨⟨hr.1.1.bd,hy.1.1.bd⟩,⟨hr.1.2.bd,hy.1.2.bd⟩,?_⟩
   refine xP (b:=decide (Pol.dot r y<0)) (fun d=>?_) (fun d=>?_)
   ·have d:=xlx d
    have:Pol.back r rows=true:=by unfold Pol.back;rw[xj3];exact⟨y,hym,by simp[c,d]⟩
    rw[this] at k
    exact k
   ·have d:=xlw d
    exact leaf fun w=>d w.2
  ·have c:=xlw c
   exact leaf fun w=>c w.1
 ·rintro τ ⟨x2,rfl,hb⟩
  rw[xkv,xk7 (xlb _)] at hb
  have:Pol.back r rows=false:=by
   unfold Pol.back
   rw[List.any_eq_false]
   intro y hy w
   simp at w
   exact hb y hy w
  rw[this] at k
  exact k
theorem cW (B:Blt mg bn)(F:Fun K "is_field" "is_field" vK f fd)(m:mg "is_field" = some (.ref f))(b:Binds K fd ["thing"] [])(gK:Own P w K mg base 3 "go_round" ["rows"] (spT 1 false false oA))(dj:Own P w K mg base 1 "is_near" ["place"] (spT 1 false false xb8))(zy:Own P w K mg base 6 "corners_left" ["rows"] (spT 1 false true q9))(vt:Own P w K mg base 4 "is_field_row" ["thing"] (spT 1 false false sX)) :
  Own P w K mg base 7 "is_field" ["thing"] (spT 1 false false oq):=by
 refine xy F cE m b rfl (fun _ _ _ _ _ _ hr=>⟨_,_,
  (xc (yR (PW.pt (uA (zf (yO (xG um rfl (B.get "isinstance") xR (xS (pv 0) (uV (v:=V.ty "tuple") rfl (B.get "tuple") wo rfl))))) (wV (zf (tW fy fy xh (xG (yl K) rfl (B.get "len") zO (yL (pv 0))) xh))))) (xi (xE vF)) xZ)
  (xc (yR (PW.pt (uA (zf (yO (xG (kN K rfl) rfl (B.get "all") ox (yL (zC (yf (N:=["row"]) (tau:=[none]) (XN:=["thing"]) (xs:=xf vK) (by decide +kernel) rfl rfl) rfl (zS rfl) (yS K (pv 0)) (fun _ _ _ _=>(yb (i:=0) (show(["row"]:List Str).Nodup by decide +kernel) rfl (Or.inl rfl))) (fun _ _ _ _=>vA) (fun _ _ _ _=>(xm vt hr (yL (pv 0))))))))) (wV (zf (yO (xm gK hr (yL (pv 0)))))))) (xi (xE vF)) xZ)
  (xi (xE (xG (kN K rfl) rfl (B.get "all") ox (yL (zC (yf (N:=["place"]) (tau:=[none]) (XN:=["thing"]) (xs:=xf vK) (by decide +kernel) rfl rfl) rfl (zS rfl) (yS K (xm zy hr (yL (pv 0)))) (fun _ _ _ _=>(yb (i:=0) (show(["place"]:List Str).Nodup by decide +kernel) rfl (Or.inl rfl))) (fun _ _ _ _=>vA) (fun _ _ _ _=>(xm dj hr (yL (pv 0))))))))))),
  (xj (yr (zq (yE (yB (kX xa))) (yE (xH (mE fw fw xr (yG we (xV xa)) xr)))) (xC qx) xT)
  (xj (yr (zq (yE (yB (yG mB (xV (OkF.e (yx (yC xa).c xk uh (xt (xV xa)))))))) (yE (yB (xt (xV xa))))) (xC qx) xT)
  (xC (yG mB (xV (OkF.e (yx (yC (xt (xV xa))).c xk uh (xt (xV xa))))))))),fun ts KK hl h=>?_⟩)
 obtain⟨t,rfl,k⟩:=h
 cases t with
 | tup us =>
  refine xP (b:=decide ((3:Int)≤us.length)) (fun c1=>?_) (fun c1=>?_)
  ·have c1:=xlx c1
   refine xP (b := !decide ((us.length:Int)≤8)) (fun c2=>?_) (fun c2=>?_)
   ·have c2:8<us.length:=by simp at c2;omega
    have e:isField (.tup us)=false:=by
     show(match rowsOf us with | some rows=>xu rows | none=>false)=false
     cases e:rowsOf us with
     | none=>rfl
     | some rows =>
      show xu rows=false
      unfold xu
      rw[qj e,xkv] at c2
      rw[xls (by omega)];rfl
    rw[e] at k
    exact k
   ·have c2:us.length≤8:=by simp at c2;omega
    refine⟨sqz (by omega),kQ (fun x=>.bl (zw x)) (fun x _ N hN=>⟨x,rfl,hN⟩) ⟨us.map zw,by rw[xkE];rfl,?_⟩⟩
    rw[xj2]
    show if (!us.all zw)=true then _ else _
    refine xP (fun c=>?_) (fun c=>?_)
    ·rw[xad (by simpa using c)] at k
     exact k
    ·have c:us.all zw=true:=by simpa using c
     obtain⟨rows,rfl,hrows⟩:=pZ c
     rw[xkv] at c1 c2
     have ea:(rows.all fun r=>decide ((r.1≠0∨r.2.1≠0)∧Pol.bZ r))=true:=by
      rw[xj1];intro r hr;exact xlt (hrows r hr)
     have ef:isField (.tup (rows.map trR))=(Pol.vo rows&&(Pol.pieces rows).all tH):=by
      show(match rowsOf (rows.map trR) with | some rows=>xu rows | none=>false)=_
      rw[gf]
      show xu rows=_
      unfold xu
      rw[ea,xlt (by omega)];simp
     rw[ef] at k
     have ok:kb rows:=⟨fun r hr=>(hrows r hr).1,fun r hr=>aP (hrows r hr).2,by omega⟩
     refine⟨rows,rfl,fun r hr=>(ok.sm r hr).mono (by decide),?_⟩
     refine xP (b := !Pol.vo rows) (fun d=>?_) (fun d=>?_)
     ·have d:Pol.vo rows=false:=by simpa using d
      rw[d] at k
      exact k
     ·have d:Pol.vo rows=true:=by simpa using d
      rw[d,Bool.true_and] at k
      have sm:=ok.small rows.length
      have pl:=ok.plen rows.length
      rw[xk7 (xlb _)] at sm pl
      refine⟨_,rows,rfl,.inl rfl,ok,?_,?_⟩
      ·rw[xkv,qr];exact sqz (by have:(Pol.pieces rows).length≤100000:=pl;omega)
      ·refine kQ (fun x=>match x with | .tup [.tup [.int n,.int d],.tup [.int n2,.int d2]]=>.bl (nearF n d&&nearF n2 d2) | _=>.non) (fun x hx N hN=>?_) ?_
       ·obtain⟨v,hv,rfl⟩:=xkP.mp hx
        have hb:=sm v (uL hv)
        have ld:∀i,Bd (rp i v.2.2):=fun i=>xfh hb.2 hb.1.2.bd
        refine⟨[(mZ v.1 v.2.2,rp v.1 v.2.2),(mZ v.2.1 v.2.2,rp v.2.1 v.2.2)],rfl,(show(2:Nat)≤1000 by decide),fun f hf=>?_,?_⟩
        ·simp only[xkJ,xkY,xly] at hf
         rcases hf with rfl | rfl<;>exact ld _
        ·have e:([(mZ v.1 v.2.2,rp v.1 v.2.2),(mZ v.2.1 v.2.2,rp v.2.1 v.2.2)].all fun f=>nearF f.1 f.2)=(nearF (mZ v.1 v.2.2) (rp v.1 v.2.2)&&nearF (mZ v.2.1 v.2.2) (rp v.2.1 v.2.2)):=by simp
         rw[e];exact hN
       ·refine⟨(yu (Pol.pieces rows)).map tH,by rw[xkE,xkE];rfl,?_⟩
        rw[xj2]
        have e:=rR tH (Pol.pieces rows)
        show KK (.bl ((yu (Pol.pieces rows)).all tH))
        rw[e];exact k
  ·have c1:us.length<3:=by have:=xlw c1;omega
   have e:isField (.tup us)=false:=by
    show(match rowsOf us with | some rows=>xu rows | none=>false)=false
    cases e:rowsOf us with
    | none=>rfl
    | some rows =>
     show xu rows=false
     unfold xu
     rw[qj e,xkv] at c1
     rw[xls (by omega)];rfl
   rw[e] at k
   exact k
 | _=>exact k
theorem sG (B:Blt mg bn)(F:Fun K "is_field_row" "is_field_row" vi f fd)(m:mg "is_field_row" = some (.ref f))(b:Binds K fd ["thing"] [])(tP:Own P w K mg base 3 "is_row" ["thing"] (spT 1 false false xdW)) :
  Own P w K mg base 4 "is_field_row" ["thing"] (spT 1 false false sX):=by
 refine xy F wA m b rfl (fun _ _ _ _ _ _ hr=>⟨_,_,
  (xc (yR (zf (yO (xm tP hr (yL (pv 0))))) (xi (xE vF)) xZ)
  (xc (zR (pv 0) (ym K (n:=3) rfl (xq (yq 1 wA.nd) (xq (yq 2 wA.nd) (xq (yq 3 wA.nd) yh)))))
  (xi (xE (rg (yZ fy (xG uJ rfl (B.get "abs") jZ (yL (pv 1))) xh (xO _)) (rg (yZ fy (xG uJ rfl (B.get "abs") jZ (yL (pv 2))) xh (xO _)) (jX (yZ fy (xG uJ rfl (B.get "abs") jZ (yL (pv 3))) xh (xO _))))))))),
  (xj (yr (yE (yB (xt (xV xa)))) (xC qx) xT)
  (xj (za xa (yn (xl xk (xl xk (xl xk x_)))).g)
  (xC (gD (xg fw (yG jY (xV xa)) xr) (gD (xg fw (yG jY (xV xa)) xr) (xg fw (yG jY (xV xa)) xr)))))),fun ts KK hl h=>?_⟩)
 obtain⟨t,rfl,k⟩:=h
 refine⟨t,rfl,?_⟩
 unfold nO
 unfold zw at k
 cases e:fx t with
 | none=>rw[e] at k;exact k
 | some r =>
  rw[e] at k
  cases kD e
  have k:KK (.bl (decide ((r.1≠0∨r.2.1≠0)∧Pol.bZ r))):=k
  refine xP (b := !decide (r.1≠0∨r.2.1≠0)) (fun c=>?_) (fun c=>?_)
  ·have c:¬(r.1≠0∨r.2.1≠0):=by simpa using c
   rw[xls fun w=>c w.1] at k
   exact k
  ·have c:r.1≠0∨r.2.1≠0:=by simp at c;omega
   refine⟨rfl,?_⟩
   have ab:∀i m:Int,(if i<0 then -i else i)≤m↔-m≤i∧i≤m:=fun i m=>by split<;>omega
   refine xP (b:=decide ((if r.1<0 then -r.1 else r.1)≤30)) (fun d=>?_) (fun d=>?_)
   ·have d:=(ab _ _).mp (xlx d)
    refine xP (b:=decide ((if r.2.1<0 then -r.2.1 else r.2.1)≤30)) (fun d2=>?_) (fun d2=>?_)
    ·have d2:=(ab _ _).mp (xlx d2)
     show KK (.bl (decide ((if r.2.2<0 then -r.2.2 else r.2.2)≤1000)))
     have e3:decide ((r.1≠0∨r.2.1≠0)∧Pol.bZ r)=decide ((if r.2.2<0 then -r.2.2 else r.2.2)≤1000):=by
      rw[xlr,ab]
      exact⟨fun w=>w.2.2,fun w=>⟨c,⟨d,d2⟩,w⟩⟩
     rw[←e3];exact k
    ·have d2:=fun w=>xlw d2 ((ab _ _).mpr w)
     rw[xls fun w=>d2 w.2.1.2] at k
     exact k
   ·have d:=fun w=>xlw d ((ab _ _).mpr w)
    rw[xls fun w=>d w.2.1.1] at k
    exact k
theorem xap (B:Blt mg bn)(F:Fun K "is_near" "is_near" j3 f fd)(m:mg "is_near" = some (.ref f))(b:Binds K fd ["place"] [])  :
  Own P w K mg base 1 "is_near" ["place"] (spT 1 false false xb8):=by
 refine xy F lX m b rfl (fun _ _ _ _ _ _ hr=>⟨_,_,
  (xi (xE (xG (kN K rfl) rfl (B.get "all") ox (yL (zC (yf (N:=["top", "bottom"]) (tau:=[none,none]) (XN:=["place"]) (xs:=xf j3) (by decide +kernel) rfl rfl) rfl (uw (yP rfl (yP rfl kh))) (yS K (pv 0)) (fun _ _ _ _=>(ym K (n:=2) rfl (xq (yb (i:=0) (show(["top", "bottom"]:List Str).Nodup by decide +kernel) rfl (Or.inl rfl)) (xq (yb (i:=1) (show(["top", "bottom"]:List Str).Nodup by decide +kernel) rfl (Or.inl rfl)) yh)))) (fun _ _ _ _=>vA) (fun _ _ _ _=>(yZ fy (xG uJ rfl (B.get "abs") jZ (yL (pv 0))) (xD xI xh (pv 1)) (xO _)))))))),
  (xC (yG mB (xV (OkF.e (yx (yC xa).c (yn (xl xk (xl xk x_))) uh (xg fw (yG jY (xV xa)) (xg xW xr xa))))))),fun ts KK hl h=>?_⟩)
 obtain⟨fs,rfl,hz,hb,k⟩:=h
 refine⟨by rw[xkv];exact sqz (by omega),?_⟩
 have ab:∀i m:Int,decide ((if i<0 then -i else i)≤12*m)=nearF i m:=fun i m=>by
  unfold nearF
  rw[xlr];split<;>omega
 refine kQ (fun x=>match x with | .tup [.int n,.int d]=>.bl (nearF n d) | _=>.non) (fun x hx N hN=>?_) ?_
 ·obtain⟨f,hf,rfl⟩:=xkP.mp hx
  refine⟨rfl,⟨cG (by decide) (by decide),hb f hf⟩,?_⟩
  show N (.bl (decide ((if f.1<0 then -f.1 else f.1)≤12*f.2)))
  rw[ab];exact hN
 ·refine⟨fs.map fun f=>nearF f.1 f.2,by rw[xkE,xkE];rfl,?_⟩
  rw[xj2];exact k
theorem tR (B:Blt mg bn)(F:Fun K "need_field" "need_field" km f fd)(m:mg "need_field" = some (.ref f))(b:Binds K fd ["thing"] [])(h_:Own P w K mg base 7 "is_field" ["thing"] (spT 1 false false oq)) :
  Own P w K mg base 8 "need_field" ["thing"] (spT 1 false false aX):=by
 refine xy F mF m b rfl (fun _ _ _ _ _ _ hr=>⟨_,_,
  (xi (yR (zf (yO (xm h_ hr (yL (pv 0))))) (xi fM) xZ)),
  (yr (yE (yB (xt (xV xa)))) ku xT),fun ts KK hl h=>?_⟩)
 obtain⟨t,rfl,hf,k⟩:=h
 refine⟨t,rfl,?_⟩
 rw[hf]
 exact⟨rfl,k⟩
theorem lJ (B:Blt mg bn)(F:Fun K "corners" "corners" sV f fd)(m:mg "corners" = some (.ref f))(b:Binds K fd ["field"] [])(kj:Own P w K mg base 8 "need_field" ["thing"] (spT 1 false false aX))(zy:Own P w K mg base 6 "corners_left" ["rows"] (spT 1 false true q9)) :
  Own P w K mg base 9 "corners" ["field"] (spT 1 false true lA):=by
 refine xy F lK m b rfl (fun _ _ _ _ _ _ hr=>⟨_,_,
  (xc (ub (xm kj hr (yL (pv 0))))
  (xi (xE (xm zy hr (yL (pv 0)))))),
  (xj (lG (xt (xV xa)))
  (j4 (xbl (xV xa)))),fun ts KK hl h=>?_⟩)
 obtain⟨rows,rfl,hf,FR,k⟩:=h
 exact⟨_,rfl,cF hf,_,rows,rfl,.inl rfl,FR.rows,k⟩
theorem fC (B:Blt mg bn)(F:Fun K "tight_numbers" "tight_numbers" wF f fd)(m:mg "tight_numbers" = some (.ref f))(b:Binds K fd ["rows", "place"] [])(hX:Own P w K mg base 5 "is_tight" ["row", "place"] (spT 2 false false oi)) :
  Own P w K mg base 6 "tight_numbers" ["rows", "place"] (spT 2 false false aU):=by
 refine xy F fj m b rfl (fun _ _ _ _ _ _ hr=>⟨_,_,
  (xi (xE (qH (uZ K) rfl (B.get "tuple") wo (yL (zC (yf (N:=["number", "row", "place"]) (tau:=[none,none,some 1]) (XN:=["rows", "place"]) (xs:=xf wF) (by decide +kernel) rfl rfl) rfl (uw (yP rfl (yP rfl kh))) (rQ K rfl (B.get "enumerate") (yL (pv 0))) (fun _ _ _ _=>(ym K (n:=2) rfl (xq (yb (i:=0) (show(["number", "row", "place"]:List Str).Nodup by decide +kernel) rfl (Or.inl rfl)) (xq (yb (i:=1) (show(["number", "row", "place"]:List Str).Nodup by decide +kernel) rfl (Or.inl rfl)) yh)))) (fun _ _ _ _=>(wu (yO (xm hX hr (xS (pv 1) (pv 2)))))) (fun _ _ _ _=>(pv 0))))))),
  (xC (tu (xV (OkF.e (yx (fO (xV xa)).c (yn (xl xk (xl xk x_))) (yB (xt (xw xa xa))) xa))))),fun ts KK hl h=>?_⟩)
 obtain⟨rows,p,rfl,hl',hr,hp,k⟩:=h
 refine⟨by rw[jN];exact sqz (by omega),?_⟩
 rw[nK trR rows (0,0,0)]
 refine yw (fun i=>qw (rows.getD i (0,0,0)) p) aG (fun i hi N M h1 h0=>?_) ?_
 ·exact⟨rfl,_,_,rfl,hr _ (getD_mem _ (xkT.mp hi)),hp,xP h1 h0⟩
 ·exact k
theorem xbh (B:Blt mg bn)(F:Fun K "broken" "broken" fN f fd)(m:mg "broken" = some (.ref f))(b:Binds K fd ["field"] [])(sy:Own P w K mg base 9 "corners" ["field"] (spT 1 false true lA))(jr:Own P w K mg base 1 "is_broken" ["place"] (spT 1 false false nG)) :
  Own P w K mg base 10 "broken" ["field"] (spT 1 false false cY):=by
 refine xy F xbs m b rfl (fun _ _ _ _ _ _ hr=>⟨_,_,
  (xi (xE (zC (yf (N:=["place"]) (tau:=[none]) (XN:=["field"]) (xs:=xf fN) (by decide +kernel) rfl rfl) rfl (zS rfl) (yS K (xm sy hr (yL (pv 0)))) (fun _ _ _ _=>(yb (i:=0) (show(["place"]:List Str).Nodup by decide +kernel) rfl (Or.inl rfl))) (fun _ _ _ _=>(wu (yO (xm jr hr (yL (pv 0)))))) (fun _ _ _ _=>(pv 0))))),
  (xC (OkF.e (yx (yC (xt (xV xa))).c xk (yB (xt (xV xa))) xa))),fun ts KK hl h=>?_⟩)
 obtain⟨rows,rfl,hf,FR,k⟩:=h
 refine⟨rows,rfl,hf,FR,by rw[xkv];exact sqz (by have:=tJ FR;omega),?_⟩
 exact yw brk yT (fun v hv N M h1 h0=>⟨v,rfl,xP h1 h0⟩) k
theorem bT (B:Blt mg bn)(F:Fun K "is_broken" "is_broken" jm f fd)(m:mg "is_broken" = some (.ref f))(b:Binds K fd ["place"] [])  :
  Own P w K mg base 1 "is_broken" ["place"] (spT 1 false false nG):=by
 refine xy F qG m b rfl (fun _ _ _ _ _ _ hr=>⟨_,_,
  (xc (zR (pv 0) (ym K (n:=2) rfl (xq (yq 1 qG.nd) (xq (yq 2 qG.nd) yh))))
  (xi (xE (xdT (yZ (y8 hr.units) (xn K 1) xh (xO _)) (jX (yZ (y8 hr.units) (xn K 2) xh (xO _))))))),
  (xj (za xa (yn (xl xk (xl xk x_))).g)
  (xC (oG (xg wX xo xr) (xg wX xo xr)))),fun ts KK hl h=>?_⟩)
 obtain⟨v,rfl,k⟩:=h
 refine⟨rfl,?_⟩
 show if (!decide ((plc v).1.2=1))=true then KK (.bl true) else KK (.bl (!decide ((plc v).2.2=1)))
 unfold brk at k
 cases e:decide ((plc v).1.2=1) with
 | true=>rw[e] at k;exact pN k
 | false=>rw[e] at k;exact xat k
end
end K19
namespace K19
open PySem L2 Trn
section
variable {P:Program} {w:World} {K:PySem.W.Frag} {mg:Str→Option Value} {base:Heap} {f:Addr} {fd:FuncData}
theorem xcM (B:Blt mg bn)(F:Fun K "parts" "parts" cA f fd)(m:mg "parts" = some (.ref f))(b:Binds K fd ["one", "other", "thing"] [])(wZ:Own P w K mg base 2 "need_turn" ["one", "other"] (spT 2 false false fV))(vx:Own P w K mg base 3 "is_direction" ["thing"] (spT 1 false false xee))(x9:Own P w K mg base 1 "turn_to" ["one", "other"] (spT 2 false false tm))(yW:Own P w K mg base 2 "lowest" ["top", "bottom"] (spT 2 false false xfV)) :
  Own P w K mg base 4 "parts" ["one", "other", "thing"] (spT 3 false false xeo):=by
 refine xy F tM m b rfl (fun _ _ _ _ _ _ hr=>⟨_,_,
  (xc (yI 3 tM.nd (xm wZ hr (xS (pv 0) (pv 1))))
  (xc (yR (zf (yO (xm vx hr (yL (pv 2))))) (xi (xE j6)) xZ)
  (xc (jW (i:=4) (j:=5) rfl tM.nd rfl rfl (by decide) rfl rfl (xS (xm x9 hr (xS (pv 2) (pv 1))) (xm x9 hr (xS (pv 0) (pv 2)))) (by rfl))
  (xc (yR (PW.pt (uA (xN (vE K hr.units) (pv 4) xh (xO _)) (wV (xN (vE K hr.units) (pv 5) xh (xO _))))) (xi (xE j6)) xZ)
  (xi (xE (yd (xS (xm yW hr (xS (pv 4) (pv 3))) (xm yW hr (xS (pv 5) (pv 3))))))))))),
  (xj (xQ (xt (xw xa xa)))
  (xj (yr (yE (yB (xt (xV xa)))) (xC (xae (t:=Tr.non))) xT)
  (xj (v_ (xw (xt (xw xa xa)) (xt (xw xa xa))))
  (xj (yr (zq (xH (xg vG xa xr)) (xH (xg vG xa xr))) (xC (xae (t:=Tr.non))) xT)
  (xC (yc (b:=true) (xw (xt (xw xa xa)) (xt (xw xa xa))))))))),fun ts KK hl h=>?_⟩)
 obtain⟨a,b',c,d,t,rfl,hl2,hs,hd,hp,k⟩:=h
 refine⟨a,b',c,d,rfl,hl2,hp,?_⟩
 refine⟨t,rfl,hs,?_⟩
 have no:k7 t=false→fh a b' c d t=.non:=fun e=>by
  unfold fh
  split
  ·rename_i x y
   have:x=0∧y=0:=by simp[k7] at e;omega
   rw[if_pos this]
  ·rfl
 refine xP (b := !k7 t) (fun e=>?_) (fun e=>?_)
 ·rw[no (by simpa using e)] at k
  exact k
 have e:k7 t=true:=by simpa using e
 obtain⟨x,y,rfl⟩:=sd e
 have nz:¬(x=0∧y=0):=fun z=>by simp[k7,drT,z.1,z.2] at e
 obtain⟨hx,hy⟩:L24 x∧L24 y:=hd
 refine⟨x,y,c,d,[],[],rfl,⟨⟨hx.bd,hy.bd⟩,hl2.2.1.bd,hl2.2.2.bd⟩,a,b',x,y,[],[],rfl,⟨⟨hl2.1.1.bd,hl2.1.2.bd⟩,hx.bd,hy.bd⟩,?_⟩
 have kk:KK (if tn x y c d<0∨tn a b' x y<0 then .non else .tup [xcP (tn x y c d) (tn a b' c d),xcP (tn a b' x y) (tn a b' c d)]):=by
  have e1:fh a b' c d (drT x y)=_:=(if_neg nz)
  rw[e1] at k;exact k
 refine xP (b:=decide (tn x y c d<0)) (fun e1=>?_) (fun e1=>?_)
 ·rw[if_pos (.inl (xlx e1))] at kk
  exact kk
 refine xP (b:=decide (tn a b' x y<0)) (fun e2=>?_) (fun e2=>?_)
 ·rw[if_pos (.inr (xlx e2))] at kk
  exact kk
 rw[if_neg (by have:=xlw e1;have:=xlw e2;omega)] at kk
 have hb:=xic hl2
 exact⟨_,_,rfl,by omega,hb,_,_,rfl,by omega,hb,kk⟩
theorem mM (B:Blt mg bn)(F:Fun K "need_turn" "need_turn" ja f fd)(m:mg "need_turn" = some (.ref f))(b:Binds K fd ["one", "other"] [])(x9:Own P w K mg base 1 "turn_to" ["one", "other"] (spT 2 false false tm)) :
  Own P w K mg base 2 "need_turn" ["one", "other"] (spT 2 false false fV):=by
 refine xy F gT m b rfl (fun _ _ _ _ _ _ hr=>⟨_,_,
  (xc (yI 2 gT.nd (xm x9 hr (xS (pv 0) (pv 1))))
  (xc (yR (xN fy (pv 2) xh (xO _)) (xi fM) xZ)
  (xi (xE (pv 2))))),
  (xj (xQ (xt (xw xa xa)))
  (xj (yr (xH (xg fw xa xr)) ku xT)
  (xC xa))),fun ts KK hl h=>?_⟩)
 obtain⟨a,b',c,d,rfl,hl2,hp,k⟩:=h
 refine⟨a,b',c,d,[],[],rfl,⟨⟨hl2.1.1.bd,hl2.1.2.bd⟩,hl2.2.1.bd,hl2.2.2.bd⟩,?_⟩
 exact xP (b:=decide (tn a b' c d≤0)) (fun e=>by have:=xlx e;omega) (fun _=>k)
theorem sH (B:Blt mg bn)(F:Fun K "is_direction" "is_direction" vz f fd)(m:mg "is_direction" = some (.ref f))(b:Binds K fd ["thing"] [])(w5:Own P w K mg base 2 "are_whole" ["things"] (spT 1 false false dy)) :
  Own P w K mg base 3 "is_direction" ["thing"] (spT 1 false false xee):=by
 refine xy F dH m b rfl (fun _ _ _ _ _ _ hr=>⟨_,_,
  (xc (yR (PW.pt (uA (zf (yO (xG um rfl (B.get "isinstance") xR (xS (pv 0) (uV (v:=V.ty "tuple") rfl (B.get "tuple") wo rfl))))) (uA (xN (y8 hr.units) (xG (yl K) rfl (B.get "len") zO (yL (pv 0))) xh (xO _)) (wV (zf (yO (xm w5 hr (yL (pv 0))))))))) (xi (xE vF)) xZ)
  (xi (xE (xdT (yZ (y8 hr.units) (xn K 0) xh (xO _)) (jX (yZ (y8 hr.units) (xn K 0) xh (xO _))))))),
  (xj (yr (zq (yE (yB (kX xa))) (zq (xH (xg wX (yG we (xV xa)) xr)) (yE (yB (xt (xV xa)))))) (xC qx) xT)
  (xC (oG (xg wX xo xr) (xg wX xo xr)))),fun ts KK hl h=>?_⟩)
 obtain⟨t,rfl,hs,k⟩:=h
 cases t with
 | tup us =>
  refine xP (b := !decide ((us.length:Int)=2)) (fun c=>?_) (fun c=>?_)
  ·have c:¬(us.length:Int)=2:=by simpa using c
   have e:k7 (.tup us)=false:=by
    refine Bool.eq_false_iff.mpr fun h=>?_
    obtain⟨x,y,z⟩:=sd h
    injection z with z
    rw[z] at c
    exact c rfl
   rw[e] at k
   exact k
  ·have c:us.length=2:=by simp at c;omega
   obtain⟨x,y,rfl⟩:∃x y,us=[x,y]:=by
    match us,c with
    | [x,y],_=>exact⟨x,y,rfl⟩
   refine⟨_,rfl,_,.inl rfl,hs _ rfl,?_⟩
   cases x with
   | int a =>
    cases y with
    | int b =>
     show if (!decide (a=0))=true then KK (.bl true) else KK (.bl (!decide (b=0)))
     by_cases ha:a=0<;>by_cases hb:b=0<;>simp[ha,hb,k7] at k ⊢<;>exact k
    | _=>exact k
   | _=>exact k
 | _=>exact k
theorem lS (B:Blt mg bn)(F:Fun K "between" "between" se f fd)(m:mg "between" = some (.ref f))(b:Binds K fd ["one", "other"] [])(wZ:Own P w K mg base 2 "need_turn" ["one", "other"] (spT 2 false false fV))(vT:Own P w K mg base 2 "undivided" ["direction"] (spT 1 false false xev))(qM:Own P w K mg base 2 "next_least" ["first", "last"] (spT 2 false false rE))(qo:Own P w K mg base 2 "next_behind" ["before", "here", "last"] (spT 3 false false s_)) :
  Own P w K mg base 3 "between" ["one", "other"] (spT 2 false true lB):=by
 refine xy F gI m b rfl (fun _ _ _ _ _ _ hr=>⟨_,_,
  (xc (ub (xm wZ hr (xS (pv 0) (pv 1))))
  (xc (jW (i:=2) (j:=3) rfl gI.nd rfl rfl (by decide) rfl rfl (xS (xm vT hr (yL (pv 0))) (xm vT hr (yL (pv 1)))) (by rfl))
  (xc (yI 4 gI.nd (yU (xS (pv 2) (xm qM hr (xS (pv 2) (pv 3))))))
  (xc (fP PassesOwn.never (xN (y8 hr.units) (y4 (yj K) (pv 4) (uu zg xh) (fun _ _=>rfl)) (pv 3) (xO _)) (xi (ub (dN PySem.F.plainAttrs_list PySem.F.slot_list_append PySem.F.type_list_append zY (pv 4) (yL (xm qo hr (xM (y4 (yj K) (pv 4) (uu zg xh) (fun _ _=>rfl)) (xS (y4 (yj K) (pv 4) (uu zg xh) (fun _ _=>rfl)) (pv 3)))))))))
  (xi (xE (pv 4))))))),
  (xj (lG (xt (xw xa xa)))
  (xj (v_ (xw (xt (xV xa)) (xt (xV xa))))
  (xj (zo (vy (xw xa (xt (xw xa xa)))))
  (xj (j0 (xH (xg wX (dX (zd xr)) xa)) (vk (xt (xJ (dX (zd xr)) (xw (dX (zd xr)) xa)))))
  jT)))),fun ts KK hl h=>?_⟩)
 obtain⟨⟨a,b'⟩,⟨c,d⟩,rfl,hu,hv,hp,k⟩:=h
 obtain⟨nu,nv⟩:=xbw hp
 refine⟨a,b',c,d,rfl,xgg (by decide) hu hv,hp,?_⟩
 refine⟨(a,b'),rfl,nu,hu.mono (by decide),(c,d),rfl,nv,hv.mono (by decide),?_⟩
 have hf:=xeb nu hu
 have hl2:=xeb nv hv
 have hD:=(xey hp).2
 have gl:=xcg nv
 refine⟨und (a,b'),und (c,d),rfl,hf,hl2,xcg nu,hD,fun q q1 q2 q3=>?_⟩
 have DD:=xc2 (n:=200) hf hl2
 have R0:Run (und (a,b')) (und (c,d)) 200 [] (und (a,b')) q:=by
  refine⟨⟨fun i x y hx hy=>?_,fun i x y z hx hy hz=>?_⟩,rfl,?_,⟨q2,q3,by omega⟩,?_,fun x hx=>?_⟩
  ·match i with
   | 0=>cases hx;cases hy;exact q1
   | i+1=>simp at hy
  ·simp at hz
  ·rw[zB];omega
  ·simp only[xkw];omega
  ·rcases xkJ.mp hx with rfl | hx
   ·exact hf.mono (by decide)
   ·rw[xkU.mp hx]
    obtain⟨e1,e2⟩:=sZ (und (a,b')) (und (c,d)) q
    exact⟨xhA hD e1 ⟨q2,by omega⟩ ⟨by omega,by omega⟩ hf.1 hl2.1,xhA hD e2 ⟨q2,by omega⟩ ⟨by omega,by omega⟩ hf.2 hl2.2⟩
 refine jM (fun n τ=>∃(h0:List D2) (x y:D2),τ=[.fz (drD (a,b')),.fz (drD (c,d)),.fz (drD (und (a,b'))),.fz (drD (und (c,d))),.ow ((h0++[x,y]).map drD)]∧Run (und (a,b')) (und (c,d)) 200 h0 x y∧n=(cr y (und (c,d))).toNat) _ ⟨[],_,q,rfl,R0,rfl⟩ ?_
 rintro n τ N ⟨h0,x,y,rfl,R,rfl⟩ hN
 have at1:atT ((h0++[x,y]).map drD) (-1)=some (drD y):=by
  rw[show h0++[x,y]=(h0++[x])++[y] by simp,xkC];exact fJ _ _
 have at2:atT ((h0++[x,y]).map drD) (-2)=some (drD x):=by
  rw[xkC];exact xbK _ _ _
 show gW (atT ((h0++[x,y]).map drD) (-1)) _
 rw[at1]
 refine⟨xc1 _ _,?_⟩
 have st:=R.stop gl
 refine xP (b := !teq (drD y) (drD (und (c,d)))) (fun c0=>?_) (fun c0=>?_)
 ·rw[xbI] at c0
  have c0:y≠und (c,d):=by simpa using c0
  have y0:0<cr y (und (c,d)):=by have:=R.t.1;have:cr y (und (c,d))≠0:=fun z=>c0 (st.mp z);omega
  obtain⟨m2,mD,R',lt⟩:=R.step hf hl2 y0 rfl
  have bx:=R.bd x (by simp)
  have by':=R.bd y (by simp)
  show gW (atT ((h0++[x,y]).map drD) (-2)) _
  rw[at2]
  show gW (atT ((h0++[x,y]).map drD) (-1)) _
  rw[at1]
  refine⟨x,y,und (c,d),rfl,⟨bx.mono (by decide),by'.mono (by decide),hl2.mono (by decide)⟩,y0,?_⟩
  have len:=R.len
  refine⟨by rw[xkv,xkq];exact sqz (by simp only[xkr,xkw];omega),hN _ _ ?_ ⟨h0++[x],y,_,?_,R',rfl⟩⟩
  ·omega
  ·simp
 ·rw[xbI] at c0
  have c0:y=und (c,d):=by simpa using c0
  have len:=R.len
  refine k (h0++[x,y]) ⟨R.chn,by simp,by simp only[xkq,xkr,xkw];have:=R.t.1;omega,R.fst,?_,fun z hz=>(R.bd z hz).mono (by decide)⟩
  rw[c0,show(h0++[x,und (c,d)]).length-1=h0.length+1 by simp,xkh (by omega)]
  simp[show h0.length+1-h0.length=1 by omega]
theorem nU (B:Blt mg bn)(F:Fun K "undivided" "undivided" jo f fd)(m:mg "undivided" = some (.ref f))(b:Binds K fd ["direction"] [])(xU:Own P w K mg base 1 "greatest_divisor" ["one", "other"] (spT 2 false false xd3)) :
  Own P w K mg base 2 "undivided" ["direction"] (spT 1 false false xev):=by
 refine xy F u_ m b rfl (fun _ _ _ _ _ _ hr=>⟨_,_,
  (xc (zR (pv 0) (ym K (n:=2) rfl (xq (yq 1 u_.nd) (xq (yq 2 u_.nd) yh))))
  (xc (yI 3 u_.nd (xm xU hr (xS (pv 1) (pv 2))))
  (xi (xE (yd (xS (xD zT (pv 1) (pv 3)) (xD zT (pv 2) (pv 3)))))))),
  (xj (za xa (yn (xl xk (xl xk x_))).g)
  (xj (xQ (xt (xw xa xa)))
  (xC (yc (b:=true) (xw (xg uG xa xa) (xg uG xa xa)))))),fun ts KK hl h=>?_⟩)
 obtain⟨⟨a,c⟩,rfl,nz,bx,k⟩:=h
 have g0:=vf nz
 have gb:Bd (gd (a,c)):=by
  have u:=fi nz
  refine wK ⟨by omega,?_⟩
  show((Int.gcd a c:Nat):Int)≤1000000
  unfold Bx at bx
  simp only at bx
  by_cases ha:a=0
  ·have:c≠0:=fun z=>nz (by rw[ha,z])
   have:=Int.gcd_le_natAbs_right a this
   omega
  ·have:=Int.gcd_le_natAbs_left c ha
   omega
 have g1:gd (a,c)≠0:=by omega
 refine⟨rfl,a,c,rfl,⟨g1,gb⟩,⟨g1,gb⟩,?_⟩
 have e:∀x:Int,x.fdiv ((Int.gcd a c:Nat):Int)=x / gd (a,c):=fun x=>zK (xjB g0)
 show KK (.tup [.int (a.fdiv ((Int.gcd a c:Nat):Int)),.int (c.fdiv ((Int.gcd a c:Nat):Int))])
 rw[e,e]
 exact k
theorem rH (B:Blt mg bn)(F:Fun K "next_least" "next_least" ko f fd)(m:mg "next_least" = some (.ref f))(b:Binds K fd ["first", "last"] [])(jk:Own P w K mg base 1 "makes_one" ["a", "b"] (spT 2 false false bV))(x9:Own P w K mg base 1 "turn_to" ["one", "other"] (spT 2 false false tm)) :
  Own P w K mg base 2 "next_least" ["first", "last"] (spT 2 false false rE):=by
 refine xy F zN m b rfl (fun _ _ _ _ _ _ hr=>⟨_,_,
  (xc (zR (pv 0) (ym K (n:=2) rfl (xq (yq 2 zN.nd) (xq (yq 3 zN.nd) yh))))
  (xc (zR (xm jk hr (xS (pv 2) (pv 3))) (ym K (n:=2) rfl (xq (yq 4 zN.nd) (xq (yq 5 zN.nd) yh))))
  (xc (yI 6 zN.nd (xD zT (xm x9 hr (xS (yd (xS (uu zg (pv 5)) (pv 4))) (pv 1))) (xm x9 hr (xS (pv 0) (pv 1)))))
  (xi (xE (yd (xS (xD zb (uu zg (pv 5)) (xD xI (pv 6) (pv 2))) (xD zb (pv 4) (xD xI (pv 6) (pv 3)))))))))),
  (xj (za xa (yn (xl xk (xl xk x_))).g)
  (xj (za (xt (xw xa xa)) (yn (xl xk (xl xk x_))).g)
  (xj (xQ (xg uG (xt (xw (yc (b:=true) (xw (zd xa) xa)) xa)) (xt (xw xa xa))))
  (xC (yc (b:=true) (xw (xg ze (zd xa) (xg xW xa xa)) (xg ze xa (xg xW xa xa)))))))),fun ts KK hl h=>?_⟩)
 obtain⟨⟨a,b'⟩,⟨c,d⟩,rfl,hf,hl2,g,hp,k⟩:=h
 have bf:=l9 (by decide) hf
 have bl:=l9 (by decide) hl2
 refine⟨rfl,a,b',rfl,hf,g,fun p q e bp bq=>?_⟩
 refine⟨rfl,?_⟩
 have D:=xc2 hf hl2
 have bD:Bd (cr (a,b') (c,d)):=wK (by omega)
 refine⟨_,_,_,_,[],[],rfl,⟨⟨bq.neg.bd,bp.bd⟩,bl.1,bl.2⟩,a,b',c,d,[],[],rfl,⟨⟨bf.1,bf.2⟩,bl.1,bl.2⟩,⟨Int.ne_of_gt hp,bD⟩,?_⟩
 have e0:-q*d-p*c=cr (-q,p) (c,d):=rfl
 have e1:a*d-b'*c=cr (a,b') (c,d):=rfl
 rw[e0,e1]
 have dpos:0≤cr (a,b') (c,d):=xjB hp
 have bt:Bk 1800 (cr (-q,p) (c,d)):=by
  have c6:Bk 20 c:=by unfold Bk;unfold Bx at hl2;simp only at hl2;omega
  have d6:Bk 20 d:=by unfold Bk;unfold Bx at hl2;simp only at hl2;omega
  exact((bq.neg.mul d6).sub (bp.mul c6)).mono (by decide)
 have nb:Bd ((cr (-q,p) (c,d)).fdiv (cr (a,b') (c,d))):=by
  have:=fG (a:=cr (-q,p) (c,d)) (b:=cr (a,b') (c,d)) (Int.ne_of_gt hp)
  unfold Bd
  unfold Bk at bt
  have:=Nat.pow_lt_pow_right (a:=2) (m:=1800) (n:=2000) (by decide) (by decide)
  exact xlf ‹_› (by generalize 2 ^ 1800=X at *;generalize 2 ^ 2000=Y at *;omega)
 refine⟨⟨nb,bf.1⟩,⟨nb,bf.2⟩,k (-q-(cr (-q,p) (c,d)).fdiv (cr (a,b') (c,d))*a,p-(cr (-q,p) (c,d)).fdiv (cr (a,b') (c,d))*b') ?_ ?_ ?_⟩
 all_goals
  have fe:=fmod_eq (cr (-q,p) (c,d)) (cr (a,b') (c,d))
  have f0:=xjw (cr (-q,p) (c,d)) hp
  have f1:=Int.fmod_lt_of_pos (cr (-q,p) (c,d)) hp
  generalize (cr (-q,p) (c,d)).fdiv (cr (a,b') (c,d))=m at *
 ·unfold cr;simp only;grind
 ·have:cr (-q-m*a,p-m*b') (c,d)=cr (-q,p) (c,d)-m*cr (a,b') (c,d):=by unfold cr;simp only;grind
  omega
 ·have:cr (-q-m*a,p-m*b') (c,d)=cr (-q,p) (c,d)-m*cr (a,b') (c,d):=by unfold cr;simp only;grind
  omega
theorem ai (B:Blt mg bn)(F:Fun K "next_behind" "next_behind" vS f fd)(m:mg "next_behind" = some (.ref f))(b:Binds K fd ["before", "here", "last"] [])(x9:Own P w K mg base 1 "turn_to" ["one", "other"] (spT 2 false false tm)) :
  Own P w K mg base 2 "next_behind" ["before", "here", "last"] (spT 3 false false s_):=by
 refine xy F kZ m b rfl (fun _ _ _ _ _ _ hr=>⟨_,_,
  (xc (yI 3 kZ.nd (uu zg (xD zT (uu zg (xm x9 hr (xS (pv 0) (pv 2)))) (xm x9 hr (xS (pv 1) (pv 2))))))
  (xi (xE (yd (xS (xD zb (xD xI (pv 3) (xn K 1)) (xn K 0)) (xD zb (xD xI (pv 3) (xn K 1)) (xn K 0))))))),
  (xj (xQ (zd (xg uG (zd (xt (xw xa xa))) (xt (xw xa xa)))))
  (xC (yc (b:=true) (xw (xg ze (xg xW xa xo) xo) (xg ze (xg xW xa xo) xo))))),fun ts KK hl h=>?_⟩)
 obtain⟨⟨a,b'⟩,⟨c,d⟩,⟨e,f'⟩,rfl,⟨h1,h2,h3⟩,hp,k⟩:=h
 have b1:=l9 (by decide) h1
 have b2:=l9 (by decide) h2
 have b3:=l9 (by decide) h3
 have D1:=xc2 (n:=1000) h1 h3
 have D2:=xc2 (n:=1000) h2 h3
 refine⟨a,b',e,f',[],[],rfl,⟨⟨b1.1,b1.2⟩,b3.1,b3.2⟩,c,d,e,f',[],[],rfl,⟨⟨b2.1,b2.2⟩,b3.1,b3.2⟩,⟨Int.ne_of_gt hp,cG (by show _≤cr (c,d) (e,f');omega) (by show cr (c,d) (e,f')≤_;omega)⟩,?_⟩
 have mb:=fG (a:=-(cr (a,b') (e,f'))) (b:=cr (c,d) (e,f')) (Int.ne_of_gt hp)
 have bm:Bd (-((-(cr (a,b') (e,f'))).fdiv (cr (c,d) (e,f')))):=cG (by omega) (by omega)
 exact⟨⟨bm,b2.1⟩,⟨bm,b2.2⟩,k⟩
theorem nB (B:Blt mg bn)(F:Fun K "makes_one" "makes_one" jG f fd)(m:mg "makes_one" = some (.ref f))(b:Binds K fd ["a", "b"] [])  :
  Own P w K mg base 1 "makes_one" ["a", "b"] (spT 2 false false bV):=by
 refine xy F zD m b rfl (fun _ _ _ _ _ _ hr=>⟨_,_,
  (xc (xbP (i:=2) (j:=3) (k:=4) rfl zD.nd rfl rfl rfl (by decide) rfl rfl rfl (xM (pv 0) (xS xh xh)) (by rfl))
  (xc (xbP (i:=5) (j:=6) (k:=7) rfl zD.nd rfl rfl rfl (by decide) rfl rfl rfl (xM (pv 1) (xS xh xh)) (by rfl))
  (xc (fP PassesOwn.never (xN (y8 hr.units) (pv 5) xh (xO _)) (xc (yI 8 zD.nd (xD zT (pv 2) (pv 5)))
  (xc (jW (i:=2) (j:=5) rfl zD.nd rfl rfl (by decide) rfl rfl (xS (pv 5) (xD zb (pv 2) (xD xI (pv 8) (pv 5)))) (by rfl))
  (xc (jW (i:=3) (j:=6) rfl zD.nd rfl rfl (by decide) rfl rfl (xS (pv 6) (xD zb (pv 3) (xD xI (pv 8) (pv 6)))) (by rfl))
  (xi (jW (i:=4) (j:=7) rfl zD.nd rfl rfl (by decide) rfl rfl (xS (pv 7) (xD zb (pv 4) (xD xI (pv 8) (pv 7)))) (by rfl)))))))
  (xi (xE (yd (xS (xD xI (pv 2) (pv 3)) (xD xI (pv 2) (pv 4))))))))),
  (xj (oC (xJ xa (xw xr xr)))
  (xj (oC (xJ xa (xw xr xr)))
  (xj (j0 (xH (xg wX xa xr)) (xj (xQ (xg uG xa xa))
  (xj (v_ (xw xa (xg ze xa (xg xW xa xa))))
  (xj (v_ (xw xa (xg ze xa (xg xW xa xa))))
  (v_ (xw xa (xg ze xa (xg xW xa xa))))))))
  (xC (yc (b:=true) (xw (xg xW xa xa) (xg xW xa xa))))))),fun ts KK hl h=>?_⟩)
 obtain⟨a,b',rfl,hb,hg,k⟩:=h
 refine jM (fun n τ=>∃(x p q y r s:Int) (z:TV),τ=[.fz (.int a),.fz (.int b'),.fz (.int x),.fz (.int p),.fz (.int q),.fz (.int y),.fz (.int r),.fz (.int s),z]∧n=y.natAbs∧(x.natAbs≤200∧y.natAbs≤200) ∧
  (x=a*p+b'*q∧y=a*r+b'*s)∧Int.gcd x y=1∧(p.natAbs≤2 ^ (8*(200-n))∧q.natAbs≤2 ^ (8*(200-n))∧r.natAbs≤2 ^ (8*(200-n))∧s.natAbs≤2 ^ (8*(200-n)))) b'.natAbs ?_ ?_
 ·have:=Nat.one_le_two_pow (n:=8*(200-b'.natAbs))
  exact⟨a,1,0,b',0,1,_,rfl,rfl,⟨by omega,by omega⟩,⟨by omega,by omega⟩,hg,this,by omega,by omega,this⟩
 ·rintro n τ N ⟨x,p,q,y,r,s',z,rfl,rfl,⟨x2,y2⟩,⟨e1,e2⟩,g,p1,q1,r1,s1⟩ hN
  have bk:∀ {i:Int},i.natAbs≤2 ^ (8*(200-y.natAbs))→Bk 1650 i:=fun h=>xlf h (Nat.pow_lt_pow_right (by decide) (by omega))
  refine xP (b := !decide (y=0)) (fun c0=>?_) (fun c0=>?_)
  ·have c0:y≠0:=by simpa using c0
   have fm:=oQ (a:=x) c0
   have fd':=fG (a:=x) c0
   have mb:Bd (x.fdiv y):=wK (by omega)
   refine⟨⟨c0,wK (by omega)⟩,⟨mb,wK (by omega)⟩,⟨mb,(bk r1).bd⟩,⟨mb,(bk s1).bd⟩,?_⟩
   have ey:=fmod_eq x y
   have pw:2 ^ (8*(200-y.natAbs))*256≤2 ^ (8*(200-(x.fmod y).natAbs)):=by
    rw[show(256:Nat)=2 ^ 8 from rfl,←Nat.pow_add]
    exact Nat.pow_le_pow_right (by decide) (by omega)
   have big:∀ {i j:Int},i.natAbs≤2 ^ (8*(200-y.natAbs))→j.natAbs≤2 ^ (8*(200-y.natAbs))→(i-x.fdiv y*j).natAbs≤2 ^ (8*(200-(x.fmod y).natAbs)):=fun {i j} h1 h2=>by
    have m1:(x.fdiv y*j).natAbs=(x.fdiv y).natAbs*j.natAbs:=xjT _ _
    have m2:(x.fdiv y).natAbs*j.natAbs≤201*2 ^ (8*(200-y.natAbs)):=xlj (by omega) h2
    have:=Int.natAbs_sub_le i (x.fdiv y*j)
    omega
   have le:∀ {i:Int},i.natAbs≤2 ^ (8*(200-y.natAbs))→i.natAbs≤2 ^ (8*(200-(x.fmod y).natAbs)):=fun h=>xld h (by omega)
   refine hN (x.fmod y).natAbs _ fm ⟨y,r,s',x-x.fdiv y*y,p-x.fdiv y*r,q-x.fdiv y*s',_,rfl,by rw[ey],⟨y2,by rw[ey];omega⟩,⟨e2,?_⟩,?_,le r1,le s1,big p1 r1,big q1 s1⟩
   ·generalize x.fdiv y=m
    rw[e1,e2];grind
   ·rw[ey,xdQ];exact g
  ·have c0:y=0:=by simpa using c0
   have gx:x.natAbs=1:=by rw[c0,Int.gcd_zero_right] at g;exact g
   have xx:x*x=1:=by
    rcases(show x=1∨x = -1 by omega) with rfl | rfl<;>rfl
   refine⟨⟨wK (by omega),(bk p1).bd⟩,⟨wK (by omega),(bk q1).bd⟩,k _ _ ?_ ?_ ?_⟩
   ·rw[show a*(x*p)+b'*(x*q)=x*(a*p+b'*q) by grind,←e1,xx]
   ·have:(x*p).natAbs=p.natAbs:=by rw[xjT,gx,Nat.one_mul]
    exact((bk p1).le (by omega)).mono (by decide)
   ·have:(x*q).natAbs=q.natAbs:=by rw[xjT,gx,Nat.one_mul]
    exact((bk q1).le (by omega)).mono (by decide)
end
end K19
namespace K19
open PySem L2 Trn
section
variable {P:Program} {w:World} {K:PySem.W.Frag} {mg:Str→Option Value} {base:Heap} {f:Addr} {fd:FuncData}
theorem xci (B:Blt mg bn)(F:Fun K "sum_of" "sum_of" fF f fd)(m:mg "sum_of" = some (.ref f))(b:Binds K fd ["rows", "weights"] [])(js:Own P w K mg base 2 "whole_sum" ["rows", "weights"] (spT 2 false false bN))(yW:Own P w K mg base 2 "lowest" ["top", "bottom"] (spT 2 false false xfV)) :
  Own P w K mg base 3 "sum_of" ["rows", "weights"] (spT 2 false false xd5):=by
 refine xy F sM m b rfl (fun _ _ _ _ _ _ hr=>⟨_,_,
  (xc (zR (xm js hr (xS (pv 0) (pv 1))) (ym K (n:=2) rfl (xq (yq 2 sM.nd) (xq (yb (i:=3) sM.nd rfl (Or.inr rfl)) yh))))
  (xi (xE (qH (uZ K) rfl (B.get "tuple") wo (yL (zC (yf (N:=["top", "bottom"]) (tau:=[none,some 3]) (XN:=["rows", "weights", "tops", "bottom"]) (xs:=xf fF) (by decide +kernel) rfl rfl) rfl (zS rfl) (yS K (pv 2)) (fun _ _ _ _=>(yb (i:=0) (show(["top", "bottom"]:List Str).Nodup by decide +kernel) rfl (Or.inl rfl))) (fun _ _ _ _=>vA) (fun _ _ _ _=>(xm yW hr (xS (pv 0) (pv 1)))))))))),
  (xj (za (xt (xw xa xa)) (yn (xl xk (xl xk x_))).g)
  (xC (tu (xV (OkF.e (yx (yC xa).c xk uh (xt (xw xa xa)))))))),fun ts KK hl h=>?_⟩)
 obtain⟨rows,ws,rfl,H0,k⟩:=h
 refine⟨rows,ws,rfl,H0,fun a b' c D ha hb hc hD=>?_⟩
 refine⟨rfl,sqz (by show 3≤1000000;decide),?_⟩
 have hz:∀x∈rows.zip ws,0<x.2.2:=fun x hx=>(H0.zip hx).2.pos
 have nz:D≠0:=by have:=ha.pd;omega
 refine⟨_,_,rfl,nz,hD,_,_,rfl,nz,hD,_,_,rfl,nz,hD,?_⟩
 have e:∀ {k:Pol.R3→Int} {n:Int},Sd (wsum k (rows.zip ws)) n D→frT (mZ n D) (rp n D)=fT (wsum k (rows.zip ws)):=fun {k n} h=>by
  rw[oP h.pd,h.low (ma k _ hz)]
 rw[e ha,e hb,e hc]
 exact k
theorem bW (B:Blt mg bn)(F:Fun K "whole_sum" "whole_sum" uQ f fd)(m:mg "whole_sum" = some (.ref f))(b:Binds K fd ["rows", "weights"] [])(xU:Own P w K mg base 1 "greatest_divisor" ["one", "other"] (spT 2 false false xd3)) :
  Own P w K mg base 2 "whole_sum" ["rows", "weights"] (spT 2 false false bN):=by
 refine xy F yF m b rfl (fun _ _ _ _ _ _ hr=>⟨_,_,
  (xc (uf (i:=2) yF.nd rfl (Or.inl rfl) (yf (N:=["row", "weight"]) (tau:=[none,none]) (XN:=["rows", "weights", "used", "bottom", "row", "weight", "tops", "many"]) (xs:=xf uQ) (by decide +kernel) rfl rfl) rfl (uw (yP rfl (yP rfl kh))) (rM K rfl (B.get "zip") (xS (pv 0) (pv 1))) (fun _ _ _ _=>(ym K (n:=2) rfl (xq (yb (i:=0) (show(["row", "weight"]:List Str).Nodup by decide +kernel) rfl (Or.inl rfl)) (xq (yb (i:=1) (show(["row", "weight"]:List Str).Nodup by decide +kernel) rfl (Or.inl rfl)) yh)))) (fun _ _ _ _=>(wu (xN (y8 hr.units) (xn K 1) xh (xO _)))) (fun _ _ _ _=>(yd (xS (pv 0) (pv 1)))))
  (xc (yI 3 yF.nd xh)
  (xc (zW PassesOwn.never rfl (yS K (pv 2)) (ym K (n:=2) rfl (xq (yq 4 yF.nd) (xq (yq 5 yF.nd) yh))) (xi (yI 3 yF.nd (xD xI (xD zT (pv 3) (xm xU hr (xS (pv 3) (xn K 5)))) (xn K 5)))))
  (xc (yI 6 yF.nd (yU (xM xh (xS xh xh))))
  (xc (zW PassesOwn.never rfl (yS K (pv 2)) (ym K (n:=2) rfl (xq (yq 4 yF.nd) (xq (yq 5 yF.nd) yh))) (xc (wx (i:=7) yF.nd rfl (Or.inr rfl) (xD xI (xD zT (pv 3) (xn K 5)) (xn K 5)))
  (xi (uf (i:=6) yF.nd rfl (Or.inl rfl) (yf (N:=["top", "number", "many"]) (tau:=[none,none,some 7]) (XN:=["rows", "weights", "used", "bottom", "row", "weight", "tops", "many"]) (xs:=xf uQ) (by decide +kernel) rfl rfl) rfl (uw (yP rfl (yP rfl kh))) (rM K rfl (B.get "zip") (xS (pv 6) (pv 4))) (fun _ _ _ _=>(ym K (n:=2) rfl (xq (yb (i:=0) (show(["top", "number", "many"]:List Str).Nodup by decide +kernel) rfl (Or.inl rfl)) (xq (yb (i:=1) (show(["top", "number", "many"]:List Str).Nodup by decide +kernel) rfl (Or.inl rfl)) yh)))) (fun _ _ _ _=>vA) (fun _ _ _ _=>(xD wc (pv 0) (xD xI (pv 2) (pv 1))))))))
  (xi (xE (yd (xS (pv 6) (pv 3)))))))))),
  (xj (xQ (OkF.e (yx (fK (xw xa xa)).c (yn (xl xk (xl xk x_))) (xH (xg wX xo xr)) (yc (b:=true) (xw xa xa)))))
  (xj (xQ xr)
  (xj (yY (yC xa) (yn (xl xk (xl xk x_))).g (xQ (xg xW (xg uG xa (xt (xw xa xo))) xo)))
  (xj (xQ (uy (b:=true) (xJ xr (xw xr xr))))
  (xj (yY (yC xa) (yn (xl xk (xl xk x_))).g (xj (xQ (xg xW (xg uG xa xo) xo))
  (xQ (OkF.e (yx (fK (xw xa xa)).c (yn (xl xk (xl xk x_))) uh (xg uM xa (xg xW xa xa)))))))
  (xC (yc (b:=true) (xw xa xa)))))))),fun ts KK hl h=>?_⟩)
 obtain⟨rows,ws,rfl,H0,k⟩:=h
 have hl8:=H0.l100
 have hlen:=H0.len
 have zl:(rows.zip ws).length=rows.length:=by rw[List.length_zip];omega
 have hz:=fun x hx=>H0.zip (x:=x) hx
 have hu:∀x∈(rows.zip ws).filter ar,B3k 10 x.1∧Wt x.2:=fun x hx=>hz x (xkM.mp hx).1
 have ul:((rows.zip ws).filter ar).length≤8:=by have:=xku ar (rows.zip ws);omega
 refine yi (fun τ=>τ=[.fz (.tup (rows.map trR)),.fz (.tup (ws.map fT)),.fz (.lst (((rows.zip ws).filter ar).map rwT)),.un,.un,.un,.un,.un]) ?_ (fun N hN=>?_)
 rotate_left
 ·show(xan (rows.map trR) (ws.map fT)).length<sizeLine∧_
  rw[t8]
  refine⟨by rw[xkv];exact sqz (by omega),yw ar rwT (fun x hx N M h1 h0=>?_) (hN _ rfl)⟩
  exact⟨rfl,xP (b := !decide (x.2.1=0)) h1 h0⟩
 rintro _ rfl
 rw[←sO k0 _ fun x hx=>(hz x hx).2,←sO k1 _ fun x hx=>(hz x hx).2,←sO k2 _ fun x hx=>(hz x hx).2] at k
 generalize (rows.zip ws).filter ar=U at hu ul k
 refine yi (fun τ=>τ=[.fz (.tup (rows.map trR)),.fz (.tup (ws.map fT)),.fz (.lst (U.map rwT)),.fz (.int 1),.un,.un,.un,.un]) ?_ (fun N hN=>hN _ rfl)
 rintro _ rfl
 refine yi (fun τ=>∃(D:Int) (x4 x5:TV),(0<D∧Bk 330 D∧∀x∈U,x.2.2 ∣ D)∧τ=[.fz (.tup (rows.map trR)),.fz (.tup (ws.map fT)),.fz (.lst (U.map rwT)),.fz (.int D),x4,x5,.un,.un]) ?_ (fun N hN=>?_)
 rotate_left
 ·refine kR (U.map rwT) (fun i τ=>∃(D:Int) (x4 x5:TV),(0<D∧Bk (1+40*i) D∧∀x∈U.take i,x.2.2 ∣ D)∧τ=[.fz (.tup (rows.map trR)),.fz (.tup (ws.map fT)),.fz (.lst (U.map rwT)),.fz (.int D),x4,x5,.un,.un]) (fun KK h=>h) ⟨1,_,_,⟨by decide,by unfold Bk;decide,fun x hx=>by simp at hx⟩,rfl⟩ ?_ (fun τ h=>?_)
  rotate_left
  ·obtain⟨D,x4,x5,⟨d1,d2,d3⟩,rfl⟩:=h
   rw[xkv] at d2 d3
   rw[xk6] at d3
   exact hN _ ⟨D,_,_,⟨d1,d2.mono (by omega),d3⟩,rfl⟩
  rintro i x τ N2 hx ⟨D,x4,x5,⟨d1,d2,d3⟩,rfl⟩ hN2
  obtain⟨y,hy,rfl⟩:=wB hx
  have il:i<U.length:=(xkk.mp hy).1
  obtain⟨hr,hw⟩:=hu y (xkR hy)
  have bD:Bk 330 D:=d2.mono (by omega)
  obtain⟨s1,s2,s3,s4⟩:=xc6 d1 hw.pos
  have g0:(0:Int)<(Int.gcd D y.2.2:Nat):=by have:=xjA D (show y.2.2≠0 by have:=hw.pos;omega);omega
  have bg:Bd (Int.gcd D y.2.2:Nat):=by
   have:=Int.gcd_le_natAbs_left y.2.2 (show D≠0 by omega)
   exact(bD.le (by omega)).bd
  have bq:Bk 330 (D.fdiv (Int.gcd D y.2.2:Nat)):=by
   rw[zK (by omega)]
   exact bD.le (Int.natAbs_ediv_le_natAbs _ _)
  refine⟨rfl,D,y.2.2,rfl,⟨by omega,bg⟩,⟨bq.bd,hw.sm.bot.bd⟩,?_⟩
  have e:D.fdiv (Int.gcd D y.2.2:Nat)*y.2.2=D / (Int.gcd D y.2.2:Nat)*y.2.2:=by rw[zK (by omega)]
  refine hN2 _ ⟨D / (Int.gcd D y.2.2:Nat)*y.2.2,.fz (trR y.1),.fz (fT y.2),⟨s1,?_,fun z hz'=>?_⟩,by rw[←e];rfl⟩
  ·exact((d2.mul hw.sm.bot).le s4).mono (by omega)
  ·rw[xk8,hy] at hz'
   rcases xkG.mp hz' with h | h
   ·exact xjr (d3 z h) s2
   ·simp at h;rw[h];exact s3
 rintro _ ⟨D,x4,x5,⟨d1,d2,d3⟩,rfl⟩
 refine yi (fun τ=>τ=[.fz (.tup (rows.map trR)),.fz (.tup (ws.map fT)),.fz (.lst (U.map rwT)),.fz (.int D),x4,x5,.fz (.lst [.int 0,.int 0,.int 0]),.un]) ?_ (fun N hN=>hN _ rfl)
 rintro _ rfl
 refine yi (fun τ=>∃(a b c:Int) (x4 x5 x7:TV),(Sd (wsum k0 U) a D∧Sd (wsum k1 U) b D∧Sd (wsum k2 U) c D)∧τ=[.fz (.tup (rows.map trR)),.fz (.tup (ws.map fT)),.fz (.lst (U.map rwT)),.fz (.int D),x4,x5,.fz (.lst [.int a,.int b,.int c]),x7]) ?_ (fun N hN=>?_)
 ·rintro _ ⟨a,b',c,x4,x5,x7,⟨h1,h2,h3⟩,rfl⟩
  exact k a b' c D h1 h2 h3 d2.bd
 have z0:∀k:Pol.R3→Int,Sd (wsum k []) 0 D:=fun k=>⟨by show(0:Int)<1;decide,d1,by show(0:Int)*D=0*1;omega⟩
 refine kR (U.map rwT) (fun i τ=>∃(a b c:Int) (x4 x5 x7:TV),(Sd (wsum k0 (U.take i)) a D∧Sd (wsum k1 (U.take i)) b D∧Sd (wsum k2 (U.take i)) c D)∧τ=[.fz (.tup (rows.map trR)),.fz (.tup (ws.map fT)),.fz (.lst (U.map rwT)),.fz (.int D),x4,x5,.fz (.lst [.int a,.int b,.int c]),x7]) (fun KK h=>h) ⟨0,0,0,_,_,_,⟨z0 _,z0 _,z0 _⟩,rfl⟩ ?_ (fun τ h=>?_)
 rotate_left
 ·obtain⟨a,b',c,x4,x5,x7,hs,rfl⟩:=h
  rw[xkv,xk6] at hs
  exact hN _ ⟨a,b',c,_,_,_,hs,rfl⟩
 rintro i x τ N2 hx ⟨a,b',c,x4,x5,x7,⟨h1,h2,h3⟩,rfl⟩ hN2
 obtain⟨y,hy,rfl⟩:=wB hx
 obtain⟨hr,hw⟩:=hu y (xkR hy)
 have dv:=d3 y (xkR hy)
 have qe:y.2.2*D.fdiv y.2.2=D:=by rw[zK (xjB hw.pos)];exact xjK dv
 have bq:Bk 330 (D.fdiv y.2.2):=by
  rw[zK (xjB hw.pos)]
  exact d2.le (Int.natAbs_ediv_le_natAbs _ _)
 have bm:=bq.mul hw.sm.top
 have tk1:U.take (i+1)=U.take i++[y]:=by rw[xk8,hy];rfl
 refine⟨rfl,⟨by have:=hw.pos;show y.2.2≠0;omega,hw.sm.bot.bd⟩,⟨bq.bd,hw.sm.top.bd⟩,sqz (by show 3≤1000000;decide),?_⟩
 refine⟨rfl,⟨bm.bd,hr.1.1.bd⟩,rfl,⟨bm.bd,hr.1.2.bd⟩,rfl,⟨bm.bd,hr.2.bd⟩,?_⟩
 refine hN2 _ ⟨_,_,_,_,_,_,⟨?_,?_,?_⟩,rfl⟩
 ·rw[tk1,wsum_snoc];exact h1.plusD (xbe hw.pos d1 qe)
 ·rw[tk1,wsum_snoc];exact h2.plusD (xbe hw.pos d1 qe)
 ·rw[tk1,wsum_snoc];exact h3.plusD (xbe hw.pos d1 qe)
theorem xb1 (B:Blt mg bn)(F:Fun K "cut_of" "cut_of" r9 f fd)(m:mg "cut_of" = some (.ref f))(b:Binds K fd ["totals"] [])  :
  Own P w K mg base 1 "cut_of" ["totals"] (spT 1 false false xek):=by
 refine xy F j7 m b rfl (fun _ _ _ _ _ _ hr=>⟨_,_,
  (xc (zR (pv 0) (ym K (n:=3) rfl (xq (yq 1 j7.nd) (xq (yq 2 j7.nd) (xq (yq 3 j7.nd) yh)))))
  (xc (yR (PW.pt (uA (xN (y8 hr.units) (xn K 1) xh (xO _)) (uA (xN (y8 hr.units) (xn K 2) xh (xO _)) (wV (PW.pt (g6 (xN (wR hr.units) (xn K 1) xh (xO _)) (qY (xN (wR hr.units) (xn K 2) xh (xO _))))))))) (xi fM) xZ)
  (xi (xE (yd (xM (xn K 1) (xS (xn K 2) (xD zT (xn K 3) (xn K 3))))))))),
  (xj (za xa (yn (xl xk (xl xk (xl xk x_)))).g)
  (xj (yr (zq (xH (xg wX xo xr)) (zq (xH (xg wX xo xr)) (qz (xH (xg os_eq xo xr)) (xH (xg os_eq xo xr))))) ku xT)
  (xC (yc (b:=true) (xJ xo (xw xo (xg uG xo xo))))))),fun ts KK hl h=>?_⟩)
 obtain⟨a,b',c,rfl,hc,⟨h1,h2,h3⟩,k⟩:=h
 refine⟨rfl,?_⟩
 have cn:c.2≠0:=by omega
 refine xP (b := !decide (a.2=1)) (fun z=>?_) (fun _=>?_)
 ·simp[h1] at z
 refine xP (b := !decide (b'.2=1)) (fun z=>?_) (fun _=>?_)
 ·simp[h2] at z
 refine xP (b:=decide (a.1=0)) (fun z=>?_) (fun _=>?_)
 ·have z:=xlx z
  refine xP (b:=decide (b'.1=0)) (fun z2=>?_) (fun _=>?_)
  ·exact absurd ⟨z,xlx z2⟩ h3
  ·exact⟨⟨cn,hc.2⟩,k⟩
 ·exact⟨⟨cn,hc.2⟩,k⟩
end
end K19
namespace K19
open PySem L2 Trn
section
variable {P:Program} {w:World} {K:PySem.W.Frag} {mg:Str→Option Value} {base:Heap} {f:Addr} {fd:FuncData}
theorem pP (B:Blt mg bn)(F:Fun K "sides_at" "sides_at" hZ f fd)(m:mg "sides_at" = some (.ref f))(b:Binds K fd ["field", "place"] [])(vY:Own P w K mg base 3 "sides_among" ["rows", "numbers"] (spT 2 false true s9))(uT:Own P w K mg base 6 "tight_numbers" ["rows", "place"] (spT 2 false false aU)) :
  Own P w K mg base 7 "sides_at" ["field", "place"] (spT 2 false false oj):=by
 refine xy F pH m b rfl (fun _ _ _ _ _ _ hr=>⟨_,_,
  (xi (xE (xm vY hr (xS (pv 0) (xm uT hr (xS (pv 0) (pv 1))))))),
  (xC (xt (xw xa (xt (xw xa xa))))),fun ts KK hl h=>?_⟩)
 obtain⟨rows,p,rfl,hf,hp,k⟩:=h
 have l8:=(af hf).1.2
 have:=t5 (rows:=rows) (p:=p)
 exact⟨rows,p,rfl,by omega,af.b200 hf,hp,rows,mI rows p,rfl,hf,fun m hm=>pe hm,by omega,k⟩
theorem ay (B:Blt mg bn)(F:Fun K "sides_among" "sides_among" qi f fd)(m:mg "sides_among" = some (.ref f))(b:Binds K fd ["rows", "numbers"] [])(wM:Own P w K mg base 2 "next_to_the_left" ["rows", "numbers", "number"] (spT 3 false false mO)) :
  Own P w K mg base 3 "sides_among" ["rows", "numbers"] (spT 2 false true s9):=by
 refine xy F uq m b rfl (fun _ _ _ _ _ _ hr=>⟨_,_,
  (xc (yI 2 uq.nd (yU uF))
  (xc (zW PassesOwn.never rfl (yS K (pv 1)) (yq 3 uq.nd) (xc (yI 4 uq.nd (xm wM hr (xM (pv 0) (xS (pv 1) (pv 3)))))
  (xi (yR (sW (xco (pv 4))) (xi (ub (dN PySem.F.plainAttrs_list PySem.F.slot_list_append PySem.F.type_list_append zY (pv 2) (yL (yd (xS (pv 3) (pv 4))))))) xZ))))
  (xi (xE (pv 2))))),
  (xj (zo (vy ud))
  (xj (yY (yC xa) xk.g (xj (xQ (xt (xJ xa (xw xa xa))))
  (yr (yB (xb3 xa)) (vk (yc (b:=true) (xw xa xa))) xT)))
  jT)),fun ts KK hl h=>?_⟩)
 obtain⟨rows,nums,rfl,hf,hm,hl',k⟩:=h
 refine zk (all:=nums.map aG) (fun i τ=>∃x3 x4,τ=[.fz (.tup (rows.map trR)),.fz (.tup (nums.map aG)),.ow (((nums.take i).filterMap fun n=>(lW rows nums n).map fun m=>(n,m)).map j5),x3,x4]) ⟨_,_,rfl⟩ ?_ ?_
 ·rintro i x τ N hxi ⟨x3,x4,rfl⟩ hN
  obtain⟨n,hyi,rfl⟩:=wB hxi
  have hn:=hm n (xkR hyi)
  rw[pR (rows:=rows) hyi] at hN
  refine⟨rows,nums,n,rfl,hf,hm,hn,?_⟩
  cases q:lW rows nums n with
  | none =>
   rw[q] at hN
   exact hN _ ⟨_,_,by rw[show(Option.map (fun m=>(n,m)) none).toList=([]:List (Nat×Nat)) from rfl,xj5];rfl⟩
  | some m =>
   rw[q] at hN
   refine⟨by rw[xkv];exact sqz (xld (List.length_filterMap_le _ _) (by rw[xkA];omega)),hN _ ⟨_,_,by rw[xkC];rfl⟩⟩
 ·rintro τ ⟨x3,x4,rfl⟩
  rw[xkv,xk7 (xlb _)]
  exact k
theorem jb (B:Blt mg bn)(F:Fun K "next_to_the_left" "next_to_the_left" wN f fd)(m:mg "next_to_the_left" = some (.ref f))(b:Binds K fd ["rows", "numbers", "number"] [])(x9:Own P w K mg base 1 "turn_to" ["one", "other"] (spT 2 false false tm)) :
  Own P w K mg base 2 "next_to_the_left" ["rows", "numbers", "number"] (spT 3 false false mO):=by
 refine xy F zm m b rfl (fun _ _ _ _ _ _ hr=>⟨_,_,
  (xc (yI 3 zm.nd j6)
  (xc (zW PassesOwn.never rfl (yS K (pv 1)) (yq 4 zm.nd) (xi (yR (xN pV (xm x9 hr (xS (y4 (yj K) (pv 0) (pv 2) (fun _ _=>rfl)) (y4 (yj K) (pv 0) (pv 4) (fun _ _=>rfl)))) xh (xO _)) (xi (yR (PW.pt (uA (sW (nR (pv 3))) (wV (xN pV (xm x9 hr (xS (y4 (yj K) (pv 0) (pv 4) (fun _ _=>rfl)) (y4 (yj K) (pv 0) (pv 3) (fun _ _=>rfl)))) xh (xO _))))) (xi (yI 3 zm.nd (pv 4))) xZ)) xZ)))
  (xi (xE (pv 3))))),
  (xj (xQ (xae (t:=Tr.non)))
  (xj (yY (yC xa) xk.g (yr (xH (xg pF (xt (xw (w_ xa xa) (w_ xa xa))) xr)) (yr (zq (yB (mK xa)) (xH (xg pF (xt (xw (w_ xa xa) (w_ xa xa))) xr))) (xQ xa) xT) xT))
  (xC xa))),fun ts KK hl h=>?_⟩)
 obtain⟨rows,nums,n,rfl,hf,hm,hn,k⟩:=h
 refine zk (all:=nums.map aG) (fun i τ=>∃x4,τ=[.fz (.tup (rows.map trR)),.fz (.tup (nums.map aG)),.fz (aG n),.fz (optN ((nums.take i).foldl (wy rows n) none)),x4]∧∀y,(nums.take i).foldl (wy rows n) none=some y→y<rows.length) ⟨_,rfl,fun y hy=>by cases hy⟩ ?_ ?_
 ·rintro i x τ N hxi ⟨x4,rfl,hb⟩ hN
  obtain⟨o,hyi,rfl⟩:=wB hxi
  have ho:=hm o (xkR hyi)
  have fold:=Pol.kL (wy rows n) none hyi
  generalize hacc:(nums.take i).foldl (wy rows n) none=acc at fold hb ⊢
  have leaf:∀oo:Option Nat,oo=wy rows n acc o→N [.fz (.tup (rows.map trR)),.fz (.tup (nums.map aG)),.fz (aG n),.fz (optN oo),.fz (aG o)]:=fun oo e=>by
   rw[fold] at hN
   refine hN _ ⟨_,by rw[e],?_⟩
   ·unfold wy
    split
    ·split
     ·intro z hz;cases hz;exact ho
     ·split
      ·intro z hz;cases hz;exact ho
      ·intro z hz;cases hz;exact hb _ rfl
    ·exact hb
  show gW (atT (rows.map trR) (n:Int)) _
  rw[jH hn]
  show gW (atT (rows.map trR) (o:Int)) _
  rw[jH ho]
  refine⟨(wJ rows n).1,(wJ rows n).2.1,(wJ rows o).1,(wJ rows o).2.1,_,_,rfl,⟨af.bd hf hn,af.bd hf ho⟩,?_⟩
  refine xP (b:=decide (0<cr (yg rows n) (yg rows o))) (fun c=>?_) (fun c=>?_)
  ·have c:=xlx c
   cases acc with
   | none=>exact leaf (some o) (by unfold wy;rw[if_pos c])
   | some z =>
    have hz:=hb z rfl
    show gW (atT (rows.map trR) (o:Int)) _
    rw[jH ho]
    show gW (atT (rows.map trR) (z:Int)) _
    rw[jH hz]
    refine⟨(wJ rows o).1,(wJ rows o).2.1,(wJ rows z).1,(wJ rows z).2.1,_,_,rfl,⟨af.bd hf ho,af.bd hf hz⟩,?_⟩
    refine xP (b:=decide (0<cr (yg rows o) (yg rows z))) (fun d=>?_) (fun d=>?_)
    ·exact leaf (some o) (by unfold wy;rw[if_pos c];exact(if_pos (xlx d)).symm)
    ·exact leaf (some z) (by unfold wy;rw[if_pos c];exact(if_neg (xlw d)).symm)
  ·have c:=xlw c
   exact leaf acc (by unfold wy;rw[if_neg c])
 ·rintro τ ⟨x4,rfl,_⟩
  rw[xkv,xk7 (xlb _)]
  exact k
theorem sU (B:Blt mg bn)(F:Fun K "direction_of" "direction_of" vh f fd)(m:mg "direction_of" = some (.ref f))(b:Binds K fd ["row"] [])  :
  Own P w K mg base 1 "direction_of" ["row"] (spT 1 false false xcl):=by
 refine xy F dG m b rfl (fun _ _ _ _ _ _ hr=>⟨_,_,
  (xi (xE (yd (xS (xn K 0) (xn K 0))))),
  (xC (yc (b:=true) (xw xo xo))),fun ts KK hl h=>?_⟩)
 obtain⟨a,b',x,rfl,k⟩:=h
 exact k
theorem jU (B:Blt mg bn)(F:Fun K "weights_towards" "weights_towards" ue f fd)(m:mg "weights_towards" = some (.ref f))(b:Binds K fd ["field", "pair", "direction"] [])(pK:Own P w K mg base 4 "parts" ["one", "other", "thing"] (spT 3 false false xeo))(yM:Own P w K mg base 1 "direction_of" ["row"] (spT 1 false false xcl)) :
  Own P w K mg base 5 "weights_towards" ["field", "pair", "direction"] (spT 3 false false xhg):=by
 refine xy F yV m b rfl (fun _ _ _ _ _ _ hr=>⟨_,_,
  (xc (zR (pv 1) (ym K (n:=2) rfl (xq (yq 3 yV.nd) (xq (yq 4 yV.nd) yh))))
  (xc (yI 5 yV.nd (xm pK hr (xM (xm yM hr (yL (y4 (yj K) (pv 0) (pv 3) (fun _ _=>rfl)))) (xS (xm yM hr (yL (y4 (yj K) (pv 0) (pv 4) (fun _ _=>rfl)))) (pv 2)))))
  (xc (yR (sW (nR (pv 5))) (xi (xE j6)) xZ)
  (xc (yI 6 yV.nd (xD xhb (yU (yL (yd (xS xh xh)))) (xG (yl K) rfl (B.get "len") zO (yL (pv 0)))))
  (xc (zR (pv 5) (ym K (n:=2) rfl (xq (nZ (pv 6) (pv 3) set_list) (xq (nZ (pv 6) (pv 4) set_list) yh))))
  (xi (xE (qH (uZ K) rfl (B.get "tuple") wo (yL (pv 6)))))))))),
  (xj (za xa (yn (xl xk (xl xk x_))).g)
  (xj (xQ (xt (xJ (xt (xV (w_ xa xa))) (xw (xt (xV (w_ xa xa))) xa))))
  (xj (yr (yB (mK xa)) (xC (xae (t:=Tr.non))) xT)
  (xj (zo (xeN (uy (b:=true) (xV (yc (b:=true) (xw xr xr)))) (yG we (xV xa))))
  (xj (za xa (xfb (nN (p6 xa) (nN (p6 xa) xdi))))
  (xC xaZ)))))),fun ts KK hl h=>?_⟩)
 obtain⟨rows,x,rfl,hf,G,k⟩:=h
 obtain⟨⟨i,j⟩,d⟩:=x
 have i1:=G.i1
 have i2:=G.i2
 have l8:=(af hf).1.2
 have ml:(rows.map trR).length=rows.length:=xkv _
 refine yi (fun τ=>τ=[.fz (.tup (rows.map trR)),.fz (j5 (i,j)),.fz (drD d),.fz (.int (i:Nat)),.fz (.int (j:Nat)),.un,.un]) ?_ (fun N hN=>⟨rfl,hN _ rfl⟩)
 rintro _ rfl
 refine yi (fun τ=>τ=[.fz (.tup (rows.map trR)),.fz (j5 (i,j)),.fz (drD d),.fz (.int (i:Nat)),.fz (.int (j:Nat)),.fz (.tup [fT (lfr (cr d (yg rows j)) (cr (yg rows i) (yg rows j))),fT (lfr (cr (yg rows i) d) (cr (yg rows i) (yg rows j)))]),.un]) ?_ (fun N hN=>?_)
 rotate_left
 ·show gW (atT (rows.map trR) (i:Int)) _
  rw[jH i1]
  refine⟨(wJ rows i).1,(wJ rows i).2.1,_,rfl,?_⟩
  show gW (atT (rows.map trR) (j:Int)) _
  rw[jH i2]
  refine⟨(wJ rows j).1,(wJ rows j).2.1,_,rfl,?_⟩
  have b1:=vQ hf i1
  have b2:=vQ hf i2
  refine⟨_,_,_,_,_,rfl,xgg (n:=30) (u:=yg rows i) (v:=yg rows j) (by decide) b1 b2,?_,?_,G.pos,?_⟩
  ·exact xc5 _ _
  ·exact xf2 (by decide) G.bx
  have e:fh (yg rows i).1 (yg rows i).2 (yg rows j).1 (yg rows j).2 (drD d)=_:=cO G.nz G.inc
  have e1:=xcA (n:=cr d (yg rows j)) G.pos
  have e2:=xcA (n:=cr (yg rows i) d) G.pos
  refine hN _ ?_
  show([.fz (.tup (rows.map trR)),.fz (j5 (i,j)),.fz (drD d),.fz (.int (i:Nat)),.fz (.int (j:Nat)),.fz (fh (yg rows i).1 (yg rows i).2 (yg rows j).1 (yg rows j).2 (drD d)),.un]:TSt)=_
  rw[e,e1,e2]
 rintro _ rfl
 refine yi (fun τ=>τ=[.fz (.tup (rows.map trR)),.fz (j5 (i,j)),.fz (drD d),.fz (.int (i:Nat)),.fz (.int (j:Nat)),.fz (.tup [fT (lfr (cr d (yg rows j)) (cr (yg rows i) (yg rows j))),fT (lfr (cr (yg rows i) d) (cr (yg rows i) (yg rows j)))]),.un]) ?_ (fun N hN=>hN _ rfl)
 rintro _ rfl
 refine yi (fun τ=>τ=[.fz (.tup (rows.map trR)),.fz (j5 (i,j)),.fz (drD d),.fz (.int (i:Nat)),.fz (.int (j:Nat)),.fz (.tup [fT (lfr (cr d (yg rows j)) (cr (yg rows i) (yg rows j))),fT (lfr (cr (yg rows i) d) (cr (yg rows i) (yg rows j)))]),.ow ((List.replicate rows.length ((0:Int),(1:Int))).map fT)]) ?_ (fun N hN=>⟨⟨by omega,by rw[ml];omega⟩,xg3 (by simp;omega),hN _ (by
  show([.fz (.tup (rows.map trR)),.fz (j5 (i,j)),.fz (drD d),.fz (.int (i:Nat)),.fz (.int (j:Nat)),.fz (.tup [fT (lfr (cr d (yg rows j)) (cr (yg rows i) (yg rows j))),fT (lfr (cr (yg rows i) d) (cr (yg rows i) (yg rows j)))]),.ow (List.replicate (rows.map trR).length [fT (0,1)]).flatten]:TSt)=_
  rw[oO,List.map_replicate,ml])⟩)
 rintro _ rfl
 refine yi (fun τ=>τ=[.fz (.tup (rows.map trR)),.fz (j5 (i,j)),.fz (drD d),.fz (.int (i:Nat)),.fz (.int (j:Nat)),.fz (.tup [fT (lfr (cr d (yg rows j)) (cr (yg rows i) (yg rows j))),fT (lfr (cr (yg rows i) d) (cr (yg rows i) (yg rows j)))]),.ow ((jn rows ((i,j),d)).map fT)]) ?_ (fun N hN=>?_)
 ·rintro _ rfl
  exact k
 refine⟨rfl,?_⟩
 refine xbn ?_
 refine lC (f:=fT) (n:=i) (l:=List.replicate rows.length ((0:Int),(1:Int))) rfl (by rw[xkx];exact i1) (fun _ h=>h) ?_
 refine xbn ?_
 refine lC (f:=fT) (n:=j) (l:=(List.replicate rows.length ((0:Int),(1:Int))).set i (lfr (cr d (yg rows j)) (cr (yg rows i) (yg rows j)))) rfl (by rw[xky,xkx];exact i2) (fun _ h=>h) ?_
 refine hN _ ?_
 show _=([.fz (.tup (rows.map trR)),.fz (j5 (i,j)),.fz (drD d),.fz (.int (i:Nat)),.fz (.int (j:Nat)),.fz (.tup [fT (lfr (cr d (yg rows j)) (cr (yg rows i) (yg rows j))),fT (lfr (cr (yg rows i) d) (cr (yg rows i) (yg rows j)))]),.ow ((wtw rows.length i j (cr d (yg rows j)) (cr (yg rows i) d) (cr (yg rows i) (yg rows j))).map fT)]:TSt)
 rw[xel G.pos]
 rfl
theorem pI (B:Blt mg bn)(F:Fun K "paper_of" "paper_of" gj f fd)(m:mg "paper_of" = some (.ref f))(b:Binds K fd ["field", "weights"] [])(r_:Own P w K mg base 1 "cut_of" ["totals"] (spT 1 false false xek))(t4:Own P w K mg base 3 "sum_of" ["rows", "weights"] (spT 2 false false xd5)) :
  Own P w K mg base 4 "paper_of" ["field", "weights"] (spT 2 false false ou):=by
 refine xy F pC m b rfl (fun _ _ _ _ _ _ hr=>⟨_,_,
  (xi (xE (yd (xS (pv 1) (xm r_ hr (yL (xm t4 hr (xS (pv 0) (pv 1))))))))),
  (xC (yc (b:=true) (xw xa (xt (xV (xt (xw xa xa))))))),fun ts KK hl h=>?_⟩)
 obtain⟨rows,ws,rfl,H0,hc,k⟩:=h
 have hb:=H0.bot
 exact⟨rows,ws,rfl,H0,_,_,_,rfl,hb,hc,k⟩
theorem nh (B:Blt mg bn)(F:Fun K "papers_at" "papers_at" ju f fd)(m:mg "papers_at" = some (.ref f))(b:Binds K fd ["field", "place"] [])(gy:Own P w K mg base 7 "sides_at" ["field", "place"] (spT 2 false false oj))(sS:Own P w K mg base 3 "between" ["one", "other"] (spT 2 false true lB))(yM:Own P w K mg base 1 "direction_of" ["row"] (spT 1 false false xcl))(gz:Own P w K mg base 4 "paper_of" ["field", "weights"] (spT 2 false false ou))(uc:Own P w K mg base 5 "weights_towards" ["field", "pair", "direction"] (spT 3 false false xhg)) :
  Own P w K mg base 8 "papers_at" ["field", "place"] (spT 2 false false bG):=by
 refine xy F wd m b rfl (fun _ _ _ _ _ _ hr=>⟨_,_,
  (xc (yI 2 wd.nd (yU uF))
  (xc (zW PassesOwn.never rfl (yS K (xm gy hr (xS (pv 0) (pv 1)))) (yq 3 wd.nd) (xc (zR (pv 3) (ym K (n:=2) rfl (xq (yq 4 wd.nd) (xq (yq 5 wd.nd) yh))))
  (xi (zW PassesOwn.never rfl (yS K (xm sS hr (xS (xm yM hr (yL (y4 (yj K) (pv 0) (pv 4) (fun _ _=>rfl)))) (xm yM hr (yL (y4 (yj K) (pv 0) (pv 5) (fun _ _=>rfl))))))) (yq 6 wd.nd) (xi (ub (dN PySem.F.plainAttrs_list PySem.F.slot_list_append PySem.F.type_list_append zY (pv 2) (yL (xm gz hr (xS (pv 0) (xm uc hr (xM (pv 0) (xS (pv 3) (pv 6))))))))))))))
  (xi (xE (pv 2))))),
  (xj (zo (vy ud))
  (xj (yY (yC (xt (xw xa xa))) xk.g (xj (za xa (yn (xl xk (xl xk x_))).g)
  (yY (yC (xt (xw (xt (xV (w_ xa xa))) (xt (xV (w_ xa xa)))))) xk.g (vk (xt (xw xa (xt (xJ xa (xw xa xa)))))))))
  jT)),fun ts KK hl h=>?_⟩)
 obtain⟨rows,p,rfl,hf,hp,k⟩:=h
 have l8:=(af hf).1.2
 have sl:(vI rows (mI rows p)).length≤8:=xld aD (xld t5 l8)
 have sm:∀ij∈vI rows (mI rows p),ij.1<rows.length∧ij.2<rows.length∧0<cr (yg rows ij.1) (yg rows ij.2):=fun ij h=>⟨pe (vD h).1,pe (vD h).2.1,(vD h).2.2⟩
 refine⟨rows,p,rfl,hf,hp,?_⟩
 generalize vI rows (mI rows p)=S at k sl sm ⊢
 refine zk (all:=S.map j5) (fun i τ=>∃(L:List SX) (x3 x4 x5 x6:TV),xfT rows (S.take i) L∧τ=[.fz (.tup (rows.map trR)),.fz (pT p),.ow (L.map (xcD rows)),x3,x4,x5,x6]) ⟨[],_,_,_,_,⟨fun x hx=>by simp at hx,fun x hx=>by simp at hx,by simp⟩,rfl⟩ ?_ ?_
 ·rintro i x τ N hxi ⟨L,x3,x4,x5,x6,hL,rfl⟩ hN
  obtain⟨⟨a,b'⟩,hyi,rfl⟩:=wB hxi
  obtain⟨i1,i2,hp'⟩:=sm _ (xkR hyi)
  refine⟨rfl,?_⟩
  show gW (atT (rows.map trR) (a:Int)) _
  rw[jH i1]
  refine⟨(wJ rows a).1,(wJ rows a).2.1,_,rfl,?_⟩
  show gW (atT (rows.map trR) (b':Int)) _
  rw[jH i2]
  refine⟨(wJ rows b').1,(wJ rows b').2.1,_,rfl,?_⟩
  refine⟨yg rows a,yg rows b',rfl,(vQ hf i1).mono (by decide),(vQ hf i2).mono (by decide),hp',fun h B=>?_⟩
  have tl:(S.take i).length≤8:=by rw[xkA];omega
  have L1:=hL.len
  refine zk (all:=h.map drD) (fun j τ=>∃x6:TV,τ=[.fz (.tup (rows.map trR)),.fz (pT p),.ow ((L++(h.take j).map fun d=>((a,b'),d)).map (xcD rows)),.fz (j5 (a,b')),.fz (.int (a:Nat)),.fz (.int (b':Nat)),x6]) ⟨x6,by rw[List.take_zero,xkF,xj5];rfl⟩ ?_ ?_
  ·rintro j y τ N2 hyj ⟨x6,rfl⟩ hN2
   obtain⟨d,hdj,rfl⟩:=wB hyj
   have G:=tE i1 i2 hp' B (xkR hdj)
   refine⟨rows,((a,b'),d),rfl,hf,G,rows,jn rows ((a,b'),d),rfl,af.ws hf (G.gw hf),G.cut hf,?_⟩
   have B1:=B.len
   refine⟨by rw[xkv,xkq,xkv,xkA];exact sqz (by omega),hN2 _ ⟨.fz (drD d),?_⟩⟩
   rw[xk8,hdj]
   simp only[xkC,Option.toList,xkD,xkF,←xj4]
   rfl
  ·rintro τ ⟨x6,rfl⟩
   rw[xkv,xk7 (xlb _)]
   refine hN _ ⟨_,_,_,_,_,?_,rfl⟩
   rw[xk8,hyi]
   exact hL.snoc i1 i2 hp' B
 ·rintro τ ⟨L,x3,x4,x5,x6,hL,rfl⟩
  rw[xkv,xk7 (xlb _)] at hL
  exact k L hL
theorem sL (B:Blt mg bn)(F:Fun K "corner_paper" "corner_paper" zX f fd)(m:mg "corner_paper" = some (.ref f))(b:Binds K fd ["field", "number"] [])(kJ:Own P w K mg base 10 "broken" ["field"] (spT 1 false false cY))(zM:Own P w K mg base 1 "is_whole" ["thing"] (spT 1 false false aF))(k_:Own P w K mg base 8 "papers_at" ["field", "place"] (spT 2 false false bG))(cD:Own P w K mg base 5 "keeps" ["row", "place"] (spT 2 false false xd_)) :
  Own P w K mg base 11 "corner_paper" ["field", "number"] (spT 2 false false ff):=by
 refine xy F y_ m b rfl (fun _ _ _ _ _ _ hr=>⟨_,_,
  (xc (yI 2 y_.nd (xm kJ hr (yL (pv 0))))
  (xc (yR (PW.pt (uA (zf (yO (xm zM hr (yL (pv 1))))) (wV (zf (tW fy (vE K hr.units) xh (pv 1) (xG (yl K) rfl (B.get "len") zO (yL (pv 2)))))))) (xi fM) xZ)
  (xc (wx (i:=3) y_.nd rfl (Or.inr rfl) (y4 (yj K) (pv 2) (pv 1) (fun _ _=>rfl)))
  (xc (uf (i:=4) y_.nd rfl (Or.inl rfl) (yf (N:=["paper", "place"]) (tau:=[none,some 3]) (XN:=["field", "number", "places", "place", "against"]) (xs:=xf zX) (by decide +kernel) rfl rfl) rfl (zS rfl) (yS K (xm k_ hr (xS (pv 0) (pv 3)))) (fun _ _ _ _=>(yb (i:=0) (show(["paper", "place"]:List Str).Nodup by decide +kernel) rfl (Or.inl rfl))) (fun _ _ _ _=>(wu (zf (yO (xm cD hr (xS (xn K 0) (pv 1))))))) (fun _ _ _ _=>(pv 0)))
  (xi (xE (xn K 4))))))),
  (xj (xQ (xt (xV xa)))
  (xj (yr (zq (yE (yB (xt (xV xa)))) (yE (xH (mE fw vG xr xa (yG we (xV xa)))))) ku xT)
  (xj (xQ (w_ xa xa))
  (xj (xQ (OkF.e (yx (yC (xt (xw xa xa))).c xk (yE (yB (xt (xw xo xa)))) xa)))
  (xC xo))))),fun ts KK hl h=>?_⟩)
 obtain⟨rows,n,v,rfl,hf,FR,hv,k⟩:=h
 have cl:=tJ FR
 have fl:((uo rows).filter brk).length≤900:=xld (xku _ _) cl
 have hn:n<((uo rows).filter brk).length:=(xkk.mp hv).1
 have ml:(((uo rows).filter brk).map yT).length=((uo rows).filter brk).length:=xkv _
 obtain⟨mv,bv⟩:=xkM.mp (xkR hv)
 refine yi (fun τ=>τ=[.fz (.tup (rows.map trR)),.fz (aG n),.fz (.lst (((uo rows).filter brk).map yT)),.un,.un]) ?_ (fun N hN=>⟨rows,rfl,hf,FR,hN _ rfl⟩)
 rintro _ rfl
 refine yi (fun τ=>τ=[.fz (.tup (rows.map trR)),.fz (aG n),.fz (.lst (((uo rows).filter brk).map yT)),.un,.un]) ?_ (fun N hN=>?_)
 rotate_left
 ·refine⟨_,rfl,?_⟩
  have c2:decide ((n:Int)<((((uo rows).filter brk).map yT).length:Nat))=true:=xlt (by rw[ml];omega)
  exact xP (b := !decide ((n:Int)<((((uo rows).filter brk).map yT).length:Nat))) (fun c=>by rw[c2] at c;cases c) (fun _=>hN _ rfl)
 rintro _ rfl
 refine yi (fun τ=>τ=[.fz (.tup (rows.map trR)),.fz (aG n),.fz (.lst (((uo rows).filter brk).map yT)),.fz (yT v),.un]) ?_ (fun N hN=>?_)
 rotate_left
 ·show gW (atT (((uo rows).filter brk).map yT) (n:Int)) _
  rw[jf,xkl,hv]
  exact hN _ rfl
 rintro _ rfl
 refine⟨rows,plc v,rfl,hf,FR.pk mv,fun L hL=>?_⟩
 have ll:L.length≤800000:=by
  have a:=hL.len
  have b:=aD (rows:=rows) (nums:=mI rows (plc v))
  have c:=t5 (rows:=rows) (p:=plc v)
  have d:=(af hf).1.2
  omega
 refine⟨by rw[xkv];exact sqz (by omega),yw (fun x=>!wD (sE rows x) (plc v)) (xcD rows) (fun x hx N M h1 h0=>?_) ?_⟩
 ·have G:=(hL.good x hx).2
  exact⟨sE rows x,plc v,rfl,G.r200 hf,FR.pk mv,xP h1 h0⟩
 obtain⟨x,hx,nk⟩:=xaq hf FR mv bv hL
 cases e:L.filter (fun x=>!wD (sE rows x) (plc v)) with
 | nil =>
  have:x∈L.filter (fun x=>!wD (sE rows x) (plc v)):=xkM.mpr ⟨hx,by rw[nk];rfl⟩
  rw[e] at this
  exact absurd this (by simp)
 | cons y ys =>
  have:y∈L.filter (fun x=>!wD (sE rows x) (plc v)):=by rw[e];exact xkL
  obtain⟨hy,ny⟩:=xkM.mp this
  exact k y (hL.good y hy).1 (hL.good y hy).2 (by simpa using ny)
theorem u9 (B:Blt mg bn)(F:Fun K "corner_paper" "corner_paper" zX f fd)(m:mg "corner_paper" = some (.ref f))(b:Binds K fd ["field", "number"] []){a_NoCorner:Addr}(O_NoCorner:PyProof.Rows.OwnCls "NoCorner" a_NoCorner xiO "ValueError.__new__" mg base)(zM:Own P w K mg base 1 "is_whole" ["thing"] (spT 1 false false aF))(kJ:Own P w K mg base 10 "broken" ["field"] (spT 1 false false cY)) :
  xd0 P w K mg base 11 "corner_paper" ["field", "number"] (spX 2 a_NoCorner gU):=by
 refine xb2 F y_ m b rfl (fun _ _ _ _ _ _ hr=>⟨_,
  (xc (yI 2 y_.nd (xm kJ hr (yL (pv 0))))
  (xc (yR (PW.pt (uA (zf (yO (xm zM hr (yL (pv 1))))) (wV (zf (tW fy (vE K hr.units) xh (pv 1) (xG (yl K) rfl (B.get "len") zO (yL (pv 2)))))))) (xi (xdR O_NoCorner PySem.F.excBase_ValueError (yL xdX))) gi) gi)),fun BB hE=>⟨_,
  (xgM (fr:=false) (xQ (xt (xV xa)))
  (xhf (xhS (zq (yE (yB (xt (xV xa)))) (yE (xH (mE fw vG xr xa (yG we (xV xa)))))) (xdH hE (xV (xae (t:=Tr.str _)))) xcQ))),fun ts hl h=>?_⟩⟩)
 obtain⟨rows,t,rfl,hf,FR,hb⟩:=h
 refine⟨rows,rfl,hf,FR,t,rfl,?_⟩
 have ml:(((uo rows).filter brk).map yT).length=((uo rows).filter brk).length:=xkv _
 cases t with
 | int z =>
  have hb:=xlx hb
  refine xP (b:=decide ((0:Int)≤z)) (fun c=>?_) (fun c=>trivial)
  refine xP (b := !decide (z<((((uo rows).filter brk).map yT).length:Nat))) (fun c2=>trivial) (fun c2=>?_)
  have c:=xlx c
  have c2:z<((((uo rows).filter brk).map yT).length:Nat):=by simpa using c2
  rw[ml] at c2
  omega
 | _=>exact trivial
end
end K19
namespace K19
open PySem L2 Trn
section
variable {P:Program} {w:World} {K:PySem.W.Frag} {mg:Str→Option Value} {base:Heap} {f:Addr} {fd:FuncData}
theorem tO (B:Blt mg bn)(F:Fun K "_law_field" "_law_field" ux f fd)(m:mg "_law_field" = some (.ref f))(b:Binds K fd ["_law_state_here"] [])(x8:Own P w K mg base 1 "_law_take" ["_law_state_here", "_law_many"] (spT 1 true false xdk)) :
  Own P w K mg base 2 "_law_field" ["_law_state_here"] (spT 0 true false xba):=by
 refine xb_ F xX m b rfl (fun _ _ _ _ _ _ hr=>⟨_,_,
  (xc (yI 1 xX.nd (xm x8 hr (xS (pv 0) xh)))
  (xc (yI 2 xX.nd (yU uF))
  (xc (yR (xN (vE K hr.units) (pv 1) xh (xO _)) (xc (zW PassesOwn.never rfl (yS K (yU (xM (yd (xS (uu zg xh) xh)) (xM (yd (xS xh xh)) (xS (yd (xS xh (uu zg xh))) (yd (xS xh xh))))))) (ym K (n:=2) rfl (xq (yq 3 xX.nd) (xq (yq 4 xX.nd) yh))) (xc (yI 5 xX.nd (xD wc xh (xm x8 hr (xS (pv 0) xh))))
  (xi (ub (dN PySem.F.plainAttrs_list PySem.F.slot_list_append PySem.F.type_list_append zY (pv 2) (yL (yd (xM (xD xI (pv 3) (pv 5)) (xS (xD xI (pv 4) (pv 5)) (xD wc (xD xI (pv 5) (xm x8 hr (xS (pv 0) xh))) (xm x8 hr (xS (pv 0) (pv 5)))))))))))))
  (xc (zW PassesOwn.never rfl (u5 rfl (B.get "range") (yL (xm x8 hr (xS (pv 0) xh)))) (yq 6 xX.nd) (xc (jW (i:=3) (j:=4) rfl xX.nd rfl rfl (by decide) rfl rfl (xS (xD zb (xm x8 hr (xS (pv 0) xh)) xh) (xD zb (xm x8 hr (xS (pv 0) xh)) xh)) (by rfl))
  (xc (yR (PW.pt (g6 (xN (wR hr.units) (pv 3) xh (xO _)) (qY (xN (wR hr.units) (pv 4) xh (xO _))))) (xi (yI 3 xX.nd xh)) xZ)
  (xc (yI 7 xX.nd (xD wc (xD xI (pv 3) (xD zb (xm x8 hr (xS (pv 0) xh)) xh)) (xD xI (pv 4) (xD zb (xm x8 hr (xS (pv 0) xh)) xh))))
  (xi (ub (dN PySem.F.plainAttrs_list PySem.F.slot_list_append PySem.F.type_list_append zY (pv 2) (yL (yd (xM (pv 3) (xS (pv 4) (xD zb (xD wc (pv 7) (xm x8 hr (xS (pv 0) xh))) xh))))))))))))
  (xi (yR (xN (wR hr.units) (xm x8 hr (xS (pv 0) xh)) xh (xO _)) (xi (ub (dN PySem.F.plainAttrs_list PySem.F.slot_list_append PySem.F.type_list_append zY (pv 2) (yL (yd (xM (xD zb xh (y4 (yj K) (y4 (yj K) (pv 2) (uu zg xh) (fun _ _=>rfl)) xh (fun _ _=>rfl))) (xS (xD zb xh (y4 (yj K) (y4 (yj K) (pv 2) (uu zg xh) (fun _ _=>rfl)) xh (fun _ _=>rfl))) (xD zb xh (y4 (yj K) (y4 (yj K) (pv 2) (uu zg xh) (fun _ _=>rfl)) xh (fun _ _=>rfl)))))))))) xZ)))) xZ)
  (xc (yR (xN (wR hr.units) (pv 1) xh (xO _)) (xc (yI 8 xX.nd (xD wc xh (xm x8 hr (xS (pv 0) xh))))
  (xi (yI 2 xX.nd (yU (xM (yd (xM (uu zg xh) (xS xh xh))) (xS (yd (xM xh (xS (xD xI (uu zg xh) (pv 8)) xh))) (yd (xM xh (xS (xD xI xh (pv 8)) (xD xI xh (pv 8))))))))))) xZ)
  (xc (yR (xN (wR hr.units) (pv 1) xh (xO _)) (xc (yI 9 xX.nd (y4 (yj K) (yU (xS (yU (xM (yd (xS (uu zg xh) xh)) (xS (yd (xS xh (uu zg xh))) (yd (xS xh xh))))) (yU (xM (yd (xS (uu zg xh) (uu zg xh))) (xS (yd (xS xh (uu zg xh))) (yd (xS xh xh))))))) (xm x8 hr (xS (pv 0) xh)) (fun _ _=>rfl)))
  (xi (uf (i:=2) xX.nd rfl (Or.inl rfl) (yf (N:=["_law_a", "_law_b", "_law_state_here"]) (tau:=[none,none,some 0]) (XN:=["_law_state_here", "_law_way", "_law_rows", "_law_a", "_law_b", "_law_by", "_law_turn", "_law_near", "_law_k", "_law_some", "_law_u", "_law_v"]) (xs:=xf ux) (by decide +kernel) rfl rfl) rfl (uw (yP rfl (yP rfl kh))) (yS K (pv 9)) (fun _ _ _ _=>(ym K (n:=2) rfl (xq (yb (i:=0) (show(["_law_a", "_law_b", "_law_state_here"]:List Str).Nodup by decide +kernel) rfl (Or.inl rfl)) (xq (yb (i:=1) (show(["_law_a", "_law_b", "_law_state_here"]:List Str).Nodup by decide +kernel) rfl (Or.inl rfl)) yh)))) (fun _ _ _ _=>vA) (fun _ _ _ _=>(yd (xM (pv 0) (xS (pv 1) (xm x8 hr (xS (pv 2) xh))))))))) xZ)
  (xc (zR (yd (xS (xD zb (xm x8 hr (xS (pv 0) xh)) xh) (xD zb (xm x8 hr (xS (pv 0) xh)) xh))) (ym K (n:=2) rfl (xq (yb (i:=10) xX.nd rfl (Or.inr rfl)) (xq (yb (i:=11) xX.nd rfl (Or.inr rfl)) yh))))
  (xc (uf (i:=2) xX.nd rfl (Or.inl rfl) (yf (N:=["_law_a", "_law_b", "_law_c", "_law_v", "_law_u"]) (tau:=[none,none,none,some 11,some 10]) (XN:=["_law_state_here", "_law_way", "_law_rows", "_law_a", "_law_b", "_law_by", "_law_turn", "_law_near", "_law_k", "_law_some", "_law_u", "_law_v"]) (xs:=xf ux) (by decide +kernel) rfl rfl) rfl (uw (yP rfl (yP rfl (yP rfl kh)))) (yS K (pv 2)) (fun _ _ _ _=>(ym K (n:=3) rfl (xq (yb (i:=0) (show(["_law_a", "_law_b", "_law_c", "_law_v", "_law_u"]:List Str).Nodup by decide +kernel) rfl (Or.inl rfl)) (xq (yb (i:=1) (show(["_law_a", "_law_b", "_law_c", "_law_v", "_law_u"]:List Str).Nodup by decide +kernel) rfl (Or.inl rfl)) (xq (yb (i:=2) (show(["_law_a", "_law_b", "_law_c", "_law_v", "_law_u"]:List Str).Nodup by decide +kernel) rfl (Or.inl rfl)) yh))))) (fun _ _ _ _=>vA) (fun _ _ _ _=>(yd (xM (pv 0) (xS (pv 1) (xD wc (xD wc (pv 2) (xD xI (pv 0) (pv 4))) (xD xI (pv 1) (pv 3))))))))
  (xc (yI 6 xX.nd (xm x8 hr (xS (pv 0) (xG (yl K) rfl (B.get "len") zO (yL (pv 2))))))
  (xi (xE (qH (uZ K) rfl (B.get "tuple") wo (yL (xD aL (qg (fR K) (pv 2) (k9 (pv 6)) jd) (qg (fR K) (pv 2) jd (k9 (pv 6)))))))))))))))),
  (xj (xQ (zi (xV xr)))
  (xj (zo (vy ud))
  (xj (yr (xH (xg vG xa xr)) (xj (yY (yC (uy (b:=true) (xJ (yc (b:=true) (xw (zd xr) xr)) (xJ (yc (b:=true) (xw xr xr)) (xw (yc (b:=true) (xw xr (zd xr))) (yc (b:=true) (xw xr xr))))))) (yn (xl xk (xl xk x_))).g (xj (xQ (xg uM xr (zi (xV xr))))
  (vk (yc (b:=true) (xJ (xg xW xa xa) (xw (xg xW xa xa) (xg uM (xg xW xa (zi (xV xr))) (zi (xV xa)))))))))
  (xj (yY (w4 (xV (zi (xV xr)))) xk.g (xj (v_ (xw (xg ze (zi (xV xr)) xr) (xg ze (zi (xV xr)) xr)))
  (xj (yr (qz (xH (xg os_eq xa xr)) (xH (xg os_eq xa xr))) (xQ xr) xT)
  (xj (xQ (xg uM (xg xW xa (xg ze (zi (xV xr)) xr)) (xg xW xa (xg ze (zi (xV xr)) xr))))
  (vk (yc (b:=true) (xJ xa (xw xa (xg ze (xg uM xa (zi (xV xr))) xr)))))))))
  (yr (xH (xg os_eq (zi (xV xr)) xr)) (vk (yc (b:=true) (xJ (xg ze xr (w_ (dX (zd xr)) xr)) (xw (xg ze xr (w_ (dX (zd xr)) xr)) (xg ze xr (w_ (dX (zd xr)) xr)))))) xT))) xT)
  (xj (yr (xH (xg os_eq xa xr)) (xj (xQ (xg uM xr (zi (xV xr))))
  (zo (vy (xJ (yc (b:=true) (xJ (zd xr) (xw xr xr))) (xw (yc (b:=true) (xJ xr (xw (xg xW (zd xr) xa) xr))) (yc (b:=true) (xJ xr (xw (xg xW xr xa) (xg xW xr xa))))))))) xT)
  (xj (yr (xH (xg os_eq xa xr)) (xj (xQ (w_ (uy (b:=true) (xw (uy (b:=true) (xJ (yc (b:=true) (xw (zd xr) xr)) (xw (yc (b:=true) (xw xr (zd xr))) (yc (b:=true) (xw xr xr))))) (uy (b:=true) (xJ (yc (b:=true) (xw (zd xr) (zd xr))) (xw (yc (b:=true) (xw xr (zd xr))) (yc (b:=true) (xw xr xr))))))) (zi (xV xr))))
  (zo (yx (yC xa).c (yn (xl xk (xl xk x_))) uh (yc (b:=true) (xJ xa (xw xa (zi (xV xr)))))))) xT)
  (xj (za (yc (b:=true) (xw (xg ze (zi (xV xr)) xr) (xg ze (zi (xV xr)) xr))) (yn (xl xk (xl xk x_))).g)
  (xj (zo (yx sk (yn (xl xk (xl xk (xl xk x_)))) uh (yc (b:=true) (xJ xa (xw xa (xg uM (xg uM xa (xg xW xa xa)) (xg xW xa xa)))))))
  (xj (xQ (zi (xV (yG we (xV si)))))
  (xC (tu (xV (OkF.e (pM (OkF.e (xb7 (qa xa) vP)) (OkF.e (xb7 vP (qa xa)))))))))))))))),fun ts KK hl h=>?_⟩)
 obtain⟨rfl,k⟩:=h
 refine⟨tk (by decide),fun w w0 w6=>?_⟩
 dsimp only
 refine yi (fun τ=>τ=[.st,.fz (.int w),.ow [],.un,.un,.un,.un,.un,.un,.un,.un,.un]) ?_ (fun N hN=>hN _ rfl)
 rintro _ rfl
 refine yi (fun τ=>∃(rows:List Pol.R3) (x:TV9),τ=[.st,.fz (.int w),.ow (rows.map trR),x.1,x.2.1,x.2.2.1,x.2.2.2.1,x.2.2.2.2.1,x.2.2.2.2.2.1,x.2.2.2.2.2.2.1,x.2.2.2.2.2.2.2.1,x.2.2.2.2.2.2.2.2]∧(w<4→LF0 rows)) ?_ ?_
 rotate_left
 ·intro N hN
  refine xP (b:=decide (w<4)) (fun c=>?_) (fun c=>hN _ ⟨[],⟨_,_,_,_,_,_,_,_,_⟩,rfl,fun z=>absurd z (xlw c)⟩)
  refine yi (fun τ=>∃(rows:List Pol.R3) (x:TV9),τ=[.st,.fz (.int w),.ow (rows.map trR),x.1,x.2.1,x.2.2.1,x.2.2.2.1,x.2.2.2.2.1,x.2.2.2.2.2.1,x.2.2.2.2.2.2.1,x.2.2.2.2.2.2.2.1,x.2.2.2.2.2.2.2.2]∧kg rows) ?_ ?_
  rotate_left
  ·intro N hN
   refine kR (xcz.map dT) (fun i τ=>∃(rows:List Pol.R3) (x:TV9),τ=[.st,.fz (.int w),.ow (rows.map trR),x.1,x.2.1,x.2.2.1,x.2.2.2.1,x.2.2.2.2.1,x.2.2.2.2.2.1,x.2.2.2.2.2.2.1,x.2.2.2.2.2.2.2.1,x.2.2.2.2.2.2.2.2]∧l7 i rows) (fun KK h=>h) ⟨[],⟨_,_,_,_,_,_,_,_,_⟩,rfl,rfl,fun j r d h=>by simp at h⟩ ?_ ?_
   ·rintro i it τ N2 hx ⟨rows,x,rfl,hu⟩ hN2
    obtain⟨d,hd,rfl⟩:=wB hx
    have ds:=pO hd
    have hi:=(xkk.mp hd).1
    have hi:i<4:=hi
    refine⟨rfl,tk (by decide),fun r a1 a2=>⟨ui (by omega) (by omega),ui (by omega) (by omega),tk (by decide),fun s a3 a4=>⟨ui (by omega) (by omega),tk (by omega),fun q a5 a6=>⟨by rw[xkv,hu.1];exact sqz (by omega),?_⟩⟩⟩⟩
    have x1:=Pol.pz (show 0≤1+r by omega) a3
    have x2:(1+r)*s≤(1+r)*4:=xjM (by omega) (by omega)
    have st:=hu.step hd (b:=1+r) (c:=(1+r)*s+q) (by omega)
    have e:rows.map trR++[Tr.tup [.int (d.1*(1+r)),.int (d.2*(1+r)),.int ((1+r)*s+q)]]=(rows++[(d.1*(1+r),d.2*(1+r),(1+r)*s+q)]).map trR:=by rw[xkC];rfl
    show N2 [.st,.fz (.int w),.ow (rows.map trR++[Tr.tup [.int (d.1*(1+r)),.int (d.2*(1+r)),.int ((1+r)*s+q)]]),_,_,_,_,_,_,_,_,_]
    rw[e]
    exact hN2 _ ⟨_,⟨_,_,_,_,_,_,_,_,_⟩,rfl,st⟩
   ·rintro τ ⟨rows,x,rfl,hu⟩
    exact hN _ ⟨rows,⟨_,_,_,_,_,_,_,_,_⟩,rfl,hu.box⟩
  rintro _ ⟨four,x,rfl,hB⟩
  have fl:=hB.len
  refine yi (fun τ=>∃(ex:List Pol.R3) (x:TV9),τ=[.st,.fz (.int w),.ow ((four++ex).map trR),x.1,x.2.1,x.2.2.1,x.2.2.2.1,x.2.2.2.2.1,x.2.2.2.2.2.1,x.2.2.2.2.2.2.1,x.2.2.2.2.2.2.2.1,x.2.2.2.2.2.2.2.2]∧ex.length≤3∧∀r∈ex,Extra r) ?_ ?_
  rotate_left
  ·intro N hN
   refine⟨tk (by decide),fun n n0 n4=>⟨⟨by omega,by omega⟩,?_⟩⟩
   refine zk (fun i τ=>∃(ex:List Pol.R3) (x:TV9),τ=[.st,.fz (.int w),.ow ((four++ex).map trR),x.1,x.2.1,x.2.2.1,x.2.2.2.1,x.2.2.2.2.1,x.2.2.2.2.2.1,x.2.2.2.2.2.2.1,x.2.2.2.2.2.2.2.1,x.2.2.2.2.2.2.2.2]∧ex.length=i∧∀r∈ex,Extra r) ⟨[],⟨_,_,_,_,_,_,_,_,_⟩,by rw[xj5],rfl,fun r hr=>by simp at hr⟩ ?_ ?_
   ·rintro i it τ N2 hx ⟨ex,x,rfl,hl,he⟩ hN2
    have hi:i<n.toNat:=by have:=(xkk.mp hx).1;rw[wL] at this;exact this
    show xgX _ _ _ ([.st,.fz (.int w),.ow ((four++ex).map trR),x.1,x.2.1,x.2.2.1,.fz it,x.2.2.2.2.1,x.2.2.2.2.2.1,x.2.2.2.2.2.2.1,x.2.2.2.2.2.2.2.1,x.2.2.2.2.2.2.2.2]:TSt)
    refine yi (fun τ=>∃a b:Int,τ=[.st,.fz (.int w),.ow ((four++ex).map trR),.fz (.int a),.fz (.int b),x.2.2.1,.fz it,x.2.2.2.2.1,x.2.2.2.2.2.1,x.2.2.2.2.2.2.1,x.2.2.2.2.2.2.2.1,x.2.2.2.2.2.2.2.2]∧((-6≤a∧a≤6)∧(-6≤b∧b≤6))) ?_ (fun N3 hN3=>⟨tk (by decide),fun a a0 a1=>⟨tk (by decide),fun b b0 b1=>hN3 _ ⟨a-6,b-6,rfl,by omega⟩⟩⟩)
    rintro _ ⟨a,b,rfl,hab⟩
    refine yi (fun τ=>∃a b:Int,τ=[.st,.fz (.int w),.ow ((four++ex).map trR),.fz (.int a),.fz (.int b),x.2.2.1,.fz it,x.2.2.2.2.1,x.2.2.2.2.2.1,x.2.2.2.2.2.2.1,x.2.2.2.2.2.2.2.1,x.2.2.2.2.2.2.2.2]∧((-6≤a∧a≤6)∧(-6≤b∧b≤6))∧(a≠0∨b≠0)) ?_ ?_
    rotate_left
    ·intro N3 hN3
     refine xP (b:=decide (a=0)) (fun c=>?_) (fun c=>?_)
     ·refine xP (b:=decide (b=0)) (fun d=>?_) (fun d=>?_)
      ·exact hN3 _ ⟨2,b,rfl,by omega,.inl (by decide)⟩
      ·exact hN3 _ ⟨a,b,rfl,by omega,.inr (xlw d)⟩
     ·exact pN (hN3 _ ⟨a,b,rfl,by omega,.inl (xlw c)⟩)
    rintro _ ⟨a,b,rfl,hab,hne⟩
    refine⟨tk (by decide),fun s s0 s5=>⟨ui (by omega) (by omega),tk (by decide),fun q q0 q5=>⟨ui (by omega) (by omega),tk (by decide),fun t t0 t9=>⟨by rw[xkv,xkq];exact sqz (by omega),?_⟩⟩⟩⟩
    have m1:=lg hab.1.1 hab.1.2 (show -2≤s-2 by omega) (show s-2≤2 by omega) (by decide) (by decide)
    have m2:=lg hab.2.1 hab.2.2 (show -2≤q-2 by omega) (show q-2≤2 by omega) (by decide) (by decide)
    have e:(four++ex).map trR++[Tr.tup [.int a,.int b,.int (a*(s-2)+b*(q-2)+t-1)]]=(four++(ex++[(a,b,a*(s-2)+b*(q-2)+t-1)])).map trR:=by
     rw[←xj4,p_];rfl
    show N2 [.st,.fz (.int w),.ow ((four++ex).map trR++[Tr.tup [.int a,.int b,.int (a*(s-2)+b*(q-2)+t-1)]]),_,_,_,_,_,_,_,_,_]
    rw[e]
    refine hN2 _ ⟨ex++[(a,b,a*(s-2)+b*(q-2)+t-1)],⟨.fz (.int a),.fz (.int b),x.2.2.1,.fz it,.fz (.int (a*(s-2)+b*(q-2))),x.2.2.2.2.2.1,x.2.2.2.2.2.2.1,x.2.2.2.2.2.2.2.1,x.2.2.2.2.2.2.2.2⟩,rfl,by simp[hl],fun r hr=>?_⟩
    rcases xkG.mp hr with h | h
    ·exact he r h
    ·rw[xkU.mp h]
     unfold Extra
     simp only
     omega
   ·rintro τ ⟨ex,x,rfl,hl,he⟩
    rw[wL] at hl
    exact hN _ ⟨ex,⟨_,_,_,_,_,_,_,_,_⟩,rfl,by omega,he⟩
  rintro _ ⟨ex,x,rfl,hl,he⟩
  refine⟨tk (by decide),fun e e0 e8=>?_⟩
  refine xP (b:=decide (e=0)) (fun c=>?_) (fun c=>?_)
  ·obtain⟨ini,l,el,hx⟩:=hB.last he
   have la:atT ((four++ex).map trR) (-1)=some (trR l):=by rw[el,xkC];exact fJ _ _
   show gW (atT ((four++ex).map trR) (-1)) _
   rw[la]
   show gW (atT ((four++ex).map trR) (-1)) _
   rw[la]
   show gW (atT ((four++ex).map trR) (-1)) _
   rw[la]
   have e:(four++ex).map trR++[Tr.tup [.int (0-l.1),.int (0-l.2.1),.int (0-l.2.2)]]=(four++(ex++[(0-l.1,0-l.2.1,0-l.2.2)])).map trR:=by
    rw[←xj4,p_];rfl
   refine⟨by rw[xkv,xkq];exact sqz (by omega),?_⟩
   show N [.st,.fz (.int w),.ow ((four++ex).map trR++[Tr.tup [.int (0-l.1),.int (0-l.2.1),.int (0-l.2.2)]]),_,_,_,_,_,_,_,_,_]
   rw[e]
   refine hN _ ⟨_,⟨_,_,_,_,_,_,_,_,_⟩,rfl,fun _=>hB.lf (fun r hr=>?_) (by simp;omega)⟩
   rcases xkG.mp hr with h | h
   ·exact he r h
   ·rw[xkU.mp h];exact hx
  ·exact hN _ ⟨_,⟨_,_,_,_,_,_,_,_,_⟩,rfl,fun _=>hB.lf he (by omega)⟩
 rintro _ ⟨rows,x,rfl,h4⟩
 refine yi (fun τ=>∃(rows:List Pol.R3) (x:TV9),τ=[.st,.fz (.int w),.ow (rows.map trR),x.1,x.2.1,x.2.2.1,x.2.2.2.1,x.2.2.2.2.1,x.2.2.2.2.2.1,x.2.2.2.2.2.2.1,x.2.2.2.2.2.2.2.1,x.2.2.2.2.2.2.2.2]∧(w<5→LF0 rows)) ?_ ?_
 rotate_left
 ·intro N hN
  refine xP (b:=decide (w=4)) (fun c=>?_) (fun c=>hN _ ⟨_,⟨_,_,_,_,_,_,_,_,_⟩,rfl,fun z=>h4 (by have:=xlw c;omega)⟩)
  refine⟨tk (by decide),fun r a1 a2=>⟨ui (by omega) (by omega),ui (by omega) (by omega),ui (by omega) (by omega),?_⟩⟩
  exact hN _ ⟨[(-1,0,0),(1,-2*(1+r),0),(1,2*(1+r),2*(1+r))],⟨x.1,x.2.1,x.2.2.1,x.2.2.2.1,x.2.2.2.2.1,.fz (.int (1+r)),x.2.2.2.2.2.2.1,x.2.2.2.2.2.2.2.1,x.2.2.2.2.2.2.2.2⟩,rfl,fun _=>xdE (by omega) (by omega)⟩
 rintro _ ⟨rows,x,rfl,h5⟩
 refine yi (fun τ=>∃(rows:List Pol.R3) (x:TV9),τ=[.st,.fz (.int w),.ow (rows.map trR),x.1,x.2.1,x.2.2.1,x.2.2.2.1,x.2.2.2.2.1,x.2.2.2.2.2.1,x.2.2.2.2.2.2.1,x.2.2.2.2.2.2.2.1,x.2.2.2.2.2.2.2.2]∧LF0 rows) ?_ ?_
 rotate_left
 ·intro N hN
  refine xP (b:=decide (w=5)) (fun c=>?_) (fun c=>hN _ ⟨_,⟨_,_,_,_,_,_,_,_,_⟩,rfl,h5 (by have:=xlw c;omega)⟩)
  refine⟨tk (by decide),fun e e0 e2=>?_⟩
  obtain rfl | rfl:e=0∨e=1:=by omega
  ·refine⟨sqz (show(3:Nat)≤1000000 by decide),bB (f:=dT) (l:=[(-2,1),(1,-3),(2,3)]) Drawn (fun d _ N2 h2=>?_) (fun ys hy=>?_)⟩
   ·exact⟨rfl,tk (by decide),fun c c0 c8=>h2 _ ⟨c,⟨c0,c8⟩,rfl⟩⟩
   ·obtain⟨d1,d2,d3,g,rfl⟩:=xeA hy
    exact hN _ ⟨[(-2,1,d1),(1,-3,d2),(2,3,d3)],⟨x.1,x.2.1,x.2.2.1,x.2.2.2.1,x.2.2.2.2.1,x.2.2.2.2.2.1,.fz (.lst (([(-2,1),(1,-3),(2,3)]:List (Int×Int)).map dT)),x.2.2.2.2.2.2.2.1,x.2.2.2.2.2.2.2.2⟩,rfl,xe9 g.1 g.2.1 g.2.2⟩
  ·refine⟨sqz (show(3:Nat)≤1000000 by decide),bB (f:=dT) (l:=[(-3,-2),(3,-1),(1,4)]) Drawn (fun d _ N2 h2=>?_) (fun ys hy=>?_)⟩
   ·exact⟨rfl,tk (by decide),fun c c0 c8=>h2 _ ⟨c,⟨c0,c8⟩,rfl⟩⟩
   ·obtain⟨d1,d2,d3,g,rfl⟩:=xeA hy
    exact hN _ ⟨[(-3,-2,d1),(3,-1,d2),(1,4,d3)],⟨x.1,x.2.1,x.2.2.1,x.2.2.2.1,x.2.2.2.2.1,x.2.2.2.2.2.1,.fz (.lst (([(-3,-2),(3,-1),(1,4)]:List (Int×Int)).map dT)),x.2.2.2.2.2.2.2.1,x.2.2.2.2.2.2.2.2⟩,rfl,xeR g.1 g.2.1 g.2.2⟩
 rintro _ ⟨rows,x,rfl,hF⟩
 have l3:=hF.l3
 have l8:=hF.l8
 refine⟨tk (by decide),fun u u0 u7=>⟨tk (by decide),fun v v0 v7=>⟨rfl,?_⟩⟩⟩
 refine⟨by rw[xkv];exact sqz (by omega),xby (f:=trR) (fun r=>trR (rO (u-3) (v-3) r)) (fun r hr N hN=>?_) ?_⟩
 ·have:=hF.sm r hr
  exact⟨rfl,ui (by omega) (by omega),ui (by omega) (by omega),hN⟩
 have hM:=hF.moved (u:=u-3) (v:=v-3) (by omega) (by omega)
 have em:rows.map (fun r=>trR (rO (u-3) (v-3) r))=(rows.map (rO (u-3) (v-3))).map trR:=by rw[xkE];rfl
 rw[em]
 generalize rows.map (rO (u-3) (v-3))=mv at hM
 have m3:=hM.l3
 have m8:=hM.l8
 refine⟨tk (by rw[xkv];omega),fun t t0 t1=>?_⟩
 obtain⟨n,rfl⟩:∃n:Nat,t=(n:Int):=⟨t.toNat,by omega⟩
 show(dU (mv.map trR) (some (n:Int)) none).length+(dU (mv.map trR) none (some (n:Int))).length≤sizeLine∧KK (.tup (dU (mv.map trR) (some (n:Int)) none++dU (mv.map trR) none (some (n:Int))))
 rw[mf,oI]
 refine⟨xg3 (by simp;omega),?_⟩
 have:=k _ (hM.rot n)
 rw[xkC,List.map_drop,List.map_take] at this
 exact this
theorem sF (B:Blt mg bn)(F:Fun K "_law_divisor" "_law_divisor" vj f fd)(m:mg "_law_divisor" = some (.ref f))(b:Binds K fd ["_law_one", "_law_other"] [])  :
  Own P w K mg base 1 "_law_divisor" ["_law_one", "_law_other"] (spT 2 false false xd3):=by
 refine xy F qO m b rfl (fun _ _ _ _ _ _ hr=>⟨_,_,
  (xc (fP PassesOwn.never (xN (y8 hr.units) (pv 1) xh (xO _)) (xi (jW (i:=0) (j:=1) rfl qO.nd rfl rfl (by decide) rfl rfl (xS (pv 1) (xD xbj (pv 0) (pv 1))) (by rfl))))
  (xi (xE (xG uJ rfl (B.get "abs") jZ (yL (pv 0)))))),
  (xj (j0 (xH (xg wX xa xr)) (v_ (xw xa (xg xer xa xa))))
  (xC (yG jY (xV xa)))),fun ts KK hl h=>?_⟩)
 obtain⟨a,c,rfl,k⟩:=h
 refine jM (fun n τ=>∃x y:Int,τ=[.fz (.int x),.fz (.int y)]∧n=y.natAbs∧Fra.gd x y=Fra.gd a c) c.natAbs ⟨_,_,rfl,rfl,rfl⟩ ?_
 rintro n τ N ⟨x,y,rfl,rfl,hg⟩ hN
 refine xP (b := !decide (y=0)) (fun c0=>?_) (fun c0=>?_)
 ·have c0:y≠0:=by simpa using c0
  exact⟨c0,hN (x.fmod y).natAbs _ (Fra.xaj c0) ⟨_,_,rfl,rfl,by rw[Fra.xfo];exact hg⟩⟩
 ·have c0:y=0:=by simpa using c0
  subst c0
  rw[Fra.xe4] at hg
  have k:KK (.int (Fra.gd a c)):=k
  rw[←hg] at k
  exact k
theorem pB (B:Blt mg bn)(F:Fun K "_law_low" "_law_low" gO f fd)(m:mg "_law_low" = some (.ref f))(b:Binds K fd ["_law_top", "_law_bottom"] [])(zz:Own P w K mg base 1 "_law_divisor" ["_law_one", "_law_other"] (spT 2 false false xd3)) :
  Own P w K mg base 2 "_law_low" ["_law_top", "_law_bottom"] (spT 2 false false lP):=by
 refine xy F jt m b rfl (fun _ _ _ _ _ _ hr=>⟨_,_,
  (xc (yI 2 jt.nd (xm zz hr (xS (pv 0) (pv 1))))
  (xc (yR (xN (vE K hr.units) (pv 1) xh (xO _)) (xi (yI 2 jt.nd (xD zb xh (pv 2)))) xZ)
  (xi (xE (yd (xS (xD zT (pv 0) (pv 2)) (xD zT (pv 1) (pv 2)))))))),
  (xj (xQ (xt (xw xa xa)))
  (xj (yr (xH (xg vG xa xr)) (xQ (xg ze xr xa)) xT)
  (xC (yc (b:=true) (xw (xg uG xa xa) (xg uG xa xa)))))),fun ts KK hl h=>?_⟩)
 obtain⟨t,b,rfl,hb,bd,k⟩:=h
 refine⟨t,b,rfl,?_⟩
 have gp:=Fra.vf (a:=t) (b:=b) (.inr hb)
 have gb:Bd (Fra.gd t b):=xbF hb bd
 refine xP (b:=decide (b<0)) (fun c=>?_) (fun c=>?_)
 ·have c:=xlx c
  rw[xeK c] at k
  have gn:Bd (0-Fra.gd t b):=by unfold Bd at *;omega
  have e1:∀x:Int,x.fdiv (0-Fra.gd t b)=(-x) / Fra.gd t b:=fun x=>by
   have h:=Int.neg_fdiv_neg (-x) (Fra.gd t b)
   rw[Int.neg_neg] at h
   rw[show 0-Fra.gd t b = -(Fra.gd t b) by omega,h,zK (by omega)]
  have e2:Fra.low (-t) (-b)=((-t) / Fra.gd t b,(-b) / Fra.gd t b):=by
   unfold Fra.low
   rw[show Fra.gd (-t) (-b)=Fra.gd t b by unfold Fra.gd;simp]
  rw[e2,←e1,←e1] at k
  exact⟨⟨by show(0-Fra.gd t b)≠0;omega,gn⟩,⟨by show(0-Fra.gd t b)≠0;omega,gn⟩,k⟩
 ·have c:=xlw c
  rw[uD (by omega)] at k
  refine⟨⟨by show Fra.gd t b≠0;omega,gb⟩,⟨by show Fra.gd t b≠0;omega,gb⟩,?_⟩
  show KK (.tup [.int (t.fdiv (Fra.gd t b)),.int (b.fdiv (Fra.gd t b))])
  rw[zK (by omega),zK (by omega)]
  exact k
theorem fv (B:Blt mg bn)(F:Fun K "_law_crossing" "_law_crossing" u4 f fd)(m:mg "_law_crossing" = some (.ref f))(b:Binds K fd ["_law_one", "_law_other"] [])(yA:Own P w K mg base 2 "_law_low" ["_law_top", "_law_bottom"] (spT 2 false false lP)) :
  Own P w K mg base 3 "_law_crossing" ["_law_one", "_law_other"] (spT 2 false false rh):=by
 refine xy F uB m b rfl (fun _ _ _ _ _ _ hr=>⟨_,_,
  (xc (yI 2 uB.nd (xD zb (xD xI (xn K 0) (xn K 1)) (xD xI (xn K 0) (xn K 1))))
  (xc (yR (xN (wR hr.units) (pv 2) xh (xO _)) (xi (xE j6)) xZ)
  (xc (yI 3 uB.nd (xm yA hr (xS (xD zb (xD xI (xn K 0) (xn K 1)) (xD xI (xn K 0) (xn K 1))) (pv 2))))
  (xi (xE (yd (xS (pv 3) (xm yA hr (xS (xD zb (xD xI (xn K 0) (xn K 1)) (xD xI (xn K 0) (xn K 1))) (pv 2)))))))))),
  (xj (xQ (xg ze (xg xW xo xo) (xg xW xo xo)))
  (xj (yr (xH (xg os_eq xa xr)) (xC (xae (t:=Tr.non))) xT)
  (xj (xQ (xt (xw (xg ze (xg xW xo xo) (xg xW xo xo)) xa)))
  (xC (yc (b:=true) (xw xa (xt (xw (xg ze (xg xW xo xo) (xg xW xo xo)) xa)))))))),fun ts KK hl h=>?_⟩)
 obtain⟨s,t,rfl,hs,ht,k⟩:=h
 refine⟨⟨hs.1.1.bd,ht.1.2.bd⟩,⟨hs.1.2.bd,ht.1.1.bd⟩,?_⟩
 refine xP (b:=decide (Pol.turn s t=0)) (fun c=>?_) (fun c=>?_)
 ·rw[bP (xlx c)] at k
  exact k
 ·have c:=xlw c
  have bt:Bd (Pol.turn s t):=((hs.1.1.mul ht.1.2).sub (hs.1.2.mul ht.1.1)).bd
  rw[aK c,pq c] at k
  exact⟨⟨hs.2.bd,ht.1.2.bd⟩,⟨hs.1.2.bd,ht.2.bd⟩,_,_,rfl,c,bt,⟨hs.1.1.bd,ht.2.bd⟩,⟨hs.2.bd,ht.1.1.bd⟩,_,_,rfl,c,bt,k⟩
theorem mw (B:Blt mg bn)(F:Fun K "_law_value" "_law_value" qP f fd)(m:mg "_law_value" = some (.ref f))(b:Binds K fd ["_law_row", "_law_place"] [])(yA:Own P w K mg base 2 "_law_low" ["_law_top", "_law_bottom"] (spT 2 false false lP)) :
  Own P w K mg base 3 "_law_value" ["_law_row", "_law_place"] (spT 2 false false pj):=by
 refine xy F qd m b rfl (fun _ _ _ _ _ _ hr=>⟨_,_,
  (xc (zR (pv 1) (ym K (n:=2) rfl (xq (yq 2 qd.nd) (xq (yq 3 qd.nd) yh))))
  (xi (xE (xm yA hr (xS (xD wc (xD xI (xD xI (xn K 0) (xn K 2)) (xn K 3)) (xD xI (xD xI (xn K 0) (xn K 3)) (xn K 2))) (xD xI (xn K 2) (xn K 3))))))),
  (xj (za xa (yn (xl xk (xl xk x_))).g)
  (xC (xt (xw (xg uM (xg xW (xg xW xo xo) xo) (xg xW (xg xW xo xo) xo)) (xg xW xo xo))))),fun ts KK hl h=>?_⟩)
 obtain⟨r,p,rfl,hr,hx,hy,k⟩:=h
 exact⟨rfl,⟨hr.1.1.bd,hx.top.bd⟩,⟨(hr.1.1.mul hx.top).bd,hy.bot.bd⟩,⟨hr.1.2.bd,hy.top.bd⟩,⟨(hr.1.2.mul hy.top).bd,hx.bot.bd⟩,⟨hx.bot.bd,hy.bot.bd⟩,_,_,rfl,by have:=Pol.pp hx.pos hy.pos;omega,(hx.bot.mul hy.bot).bd,k⟩
theorem rZ (B:Blt mg bn)(F:Fun K "_law_keeps" "_law_keeps" qX f fd)(m:mg "_law_keeps" = some (.ref f))(b:Binds K fd ["_law_row", "_law_place"] [])(wa:Own P w K mg base 3 "_law_value" ["_law_row", "_law_place"] (spT 2 false false pj)) :
  Own P w K mg base 4 "_law_keeps" ["_law_row", "_law_place"] (spT 2 false false cU):=by
 refine xy F jO m b rfl (fun _ _ _ _ _ _ hr=>⟨_,_,
  (xc (yI 2 jO.nd (xm wa hr (xS (pv 0) (pv 1))))
  (xi (xE (yZ fy (xn K 2) (xD xI (xn K 0) (xn K 2)) (xO _))))),
  (xj (xQ (xt (xw xa xa)))
  (xC (xg fw xo (xg xW xo xo)))),fun ts KK hl h=>?_⟩)
 obtain⟨r,p,rfl,hr,hx,hy,k⟩:=h
 exact⟨r,p,rfl,hr,hx,hy,⟨hr.2.bd,xdn hx hy hr⟩,k⟩
theorem bF (B:Blt mg bn)(F:Fun K "_law_less" "_law_less" je f fd)(m:mg "_law_less" = some (.ref f))(b:Binds K fd ["_law_one", "_law_other"] [])  :
  Own P w K mg base 1 "_law_less" ["_law_one", "_law_other"] (spT 2 false false xew):=by
 refine xy F n8 m b rfl (fun _ _ _ _ _ _ hr=>⟨_,_,
  (xi (xE (yZ (vE K hr.units) (xD xI (xn K 0) (xn K 1)) (xD xI (xn K 1) (xn K 0)) (xO _)))),
  (xC (xg vG (xg xW xo xo) (xg xW xo xo))),fun ts KK hl h=>?_⟩)
 obtain⟨f,g,rfl,hf,hg,k⟩:=h
 exact⟨⟨hf.top.bd,hg.bot.bd⟩,⟨hg.top.bd,hf.bot.bd⟩,k⟩
theorem mh (B:Blt mg bn)(F:Fun K "_law_minus" "_law_minus" qE f fd)(m:mg "_law_minus" = some (.ref f))(b:Binds K fd ["_law_one", "_law_other"] [])(yA:Own P w K mg base 2 "_law_low" ["_law_top", "_law_bottom"] (spT 2 false false lP)) :
  Own P w K mg base 3 "_law_minus" ["_law_one", "_law_other"] (spT 2 false false xaN):=by
 refine xy F mq m b rfl (fun _ _ _ _ _ _ hr=>⟨_,_,
  (xi (xE (xm yA hr (xS (xD zb (xD xI (xn K 0) (xn K 1)) (xD xI (xn K 1) (xn K 0))) (xD xI (xn K 0) (xn K 1)))))),
  (xC (xt (xw (xg ze (xg xW xo xo) (xg xW xo xo)) (xg xW xo xo)))),fun ts KK hl h=>?_⟩)
 obtain⟨f,g,rfl,hf,hg,k⟩:=h
 exact⟨⟨hf.top.bd,hg.bot.bd⟩,⟨hg.top.bd,hf.bot.bd⟩,⟨hf.bot.bd,hg.bot.bd⟩,_,_,rfl,by have:=Pol.pp hf.pos hg.pos;omega,(hf.bot.mul hg.bot).bd,k⟩
theorem tD (B:Blt mg bn)(F:Fun K "_law_cross" "_law_cross" qK f fd)(m:mg "_law_cross" = some (.ref f))(b:Binds K fd ["_law_one", "_law_other", "_law_third"] [])(zF:Own P w K mg base 3 "_law_times" ["_law_one", "_law_other"] (spT 2 false false ck))(zG:Own P w K mg base 3 "_law_minus" ["_law_one", "_law_other"] (spT 2 false false xaN)) :
  Own P w K mg base 4 "_law_cross" ["_law_one", "_law_other", "_law_third"] (spT 3 false false xbM):=by
 refine xy F jK m b rfl (fun _ _ _ _ _ _ hr=>⟨_,_,
  (xc (yI 3 jK.nd (xm zF hr (xS (xm zG hr (xS (xn K 1) (xn K 0))) (xm zG hr (xS (xn K 2) (xn K 0))))))
  (xi (xE (y4 (yj K) (xm zG hr (xS (pv 3) (xm zF hr (xS (xm zG hr (xS (xn K 1) (xn K 0))) (xm zG hr (xS (xn K 2) (xn K 0))))))) xh (fun _ _=>rfl))))),
  (xj (xQ (xt (xw (xt (xw xo xo)) (xt (xw xo xo)))))
  (xC (w_ (xt (xw xa (xt (xw (xt (xw xo xo)) (xt (xw xo xo)))))) xr))),fun ts KK hl h=>?_⟩)
 obtain⟨p,q,w,rfl,hp,hq,hw,k⟩:=h
 have m:∀ {f g:F2},Fk 200 f→Fk 200 g→Fk 401 (fmin f g):=fun h1 h2=>h1.min h2
 have t:∀ {f g:F2},Fk 401 f→Fk 401 g→Fk 900 (aS f g):=fun h1 h2=>(h1.tim h2).mono (by decide)
 have u:∀ {k:Nat} {f:F2},Fk k f→k≤900→Fk 900 f:=fun h hk=>h.mono hk
 exact⟨q.1,p.1,rfl,u hq.1 (by decide),u hp.1 (by decide),w.2,p.2,rfl,u hw.2 (by decide),u hp.2 (by decide),_,_,rfl,u (m hq.1 hp.1) (by decide),u (m hw.2 hp.2) (by decide),
  q.2,p.2,rfl,u hq.2 (by decide),u hp.2 (by decide),w.1,p.1,rfl,u hw.1 (by decide),u hp.1 (by decide),_,_,rfl,u (m hq.2 hp.2) (by decide),u (m hw.1 hp.1) (by decide),
  _,_,rfl,t (m hq.1 hp.1) (m hw.2 hp.2),t (m hq.2 hp.2) (m hw.1 hp.1),k⟩
theorem mW (B:Blt mg bn)(F:Fun K "_law_ring" "_law_ring" wW f fd)(m:mg "_law_ring" = some (.ref f))(b:Binds K fd ["_law_places"] [])(vN:Own P w K mg base 1 "_law_less" ["_law_one", "_law_other"] (spT 2 false false xew))(uY:Own P w K mg base 5 "_law_all_left" ["_law_here", "_law_place", "_law_some"] (spT 3 false false sR)) :
  Own P w K mg base 6 "_law_ring" ["_law_places"] (spT 1 false false xdV):=by
 refine xy F yX m b rfl (fun _ _ _ _ _ _ hr=>⟨_,_,
  (xc (wx (i:=1) yX.nd rfl (Or.inr rfl) (yU uF))
  (xc (zW PassesOwn.never rfl (yS K (pv 0)) (yb (i:=2) yX.nd rfl (Or.inr rfl)) (xc (uf (i:=3) yX.nd rfl (Or.inl rfl) (yf (N:=["_law_one", "_law_place"]) (tau:=[none,some 2]) (XN:=["_law_places", "_law_some", "_law_place", "_law_ahead", "_law_found", "_law_k", "_law_here"]) (xs:=xf wW) (by decide +kernel) rfl rfl) rfl (zS rfl) (yS K (pv 1)) (fun _ _ _ _=>(yb (i:=0) (show(["_law_one", "_law_place"]:List Str).Nodup by decide +kernel) rfl (Or.inl rfl))) (fun _ _ _ _=>(wu (yO (xm vN hr (xS (xn K 0) (xn K 1)))))) (fun _ _ _ _=>(pv 0)))
  (xc (yI 3 yX.nd (xD aL (pv 3) (zC (yf (N:=["_law_one", "_law_place"]) (tau:=[none,some 2]) (XN:=["_law_places", "_law_some", "_law_place", "_law_ahead", "_law_found", "_law_k", "_law_here"]) (xs:=xf wW) (by decide +kernel) rfl rfl) rfl (zS rfl) (yS K (pv 1)) (fun _ _ _ _=>(yb (i:=0) (show(["_law_one", "_law_place"]:List Str).Nodup by decide +kernel) rfl (Or.inl rfl))) (fun _ _ _ _=>(wu (PW.pt (g6 (xN (wR hr.units) (xn K 0) (xn K 1) (xO _)) (qY (yO (xm vN hr (xS (xn K 0) (xn K 1))))))))) (fun _ _ _ _=>(pv 0)))))
  (xi (yR (xN (c_ hr.units) (pv 2) (pv 1) (by with_unfolding_all rfl)) (xi (ub (dN PySem.F.plainAttrs_list PySem.F.slot_list_insert PySem.F.type_list_insert xcf (pv 1) (xS (xG (yl K) rfl (B.get "len") zO (yL (pv 3))) (pv 2))))) xZ)))))
  (xc (yR (xN (vE K hr.units) (xG (yl K) rfl (B.get "len") zO (yL (pv 1))) xh (xO _)) (xi (xE (pv 1))) xZ)
  (xc (wx (i:=4) yX.nd rfl (Or.inr rfl) (qg (xbu K) (pv 1) jd (k9 xh)))
  (xc (zW PassesOwn.never rfl (u5 rfl (B.get "range") (yL (xD zb (xG (yl K) rfl (B.get "len") zO (yL (pv 1))) xh))) (yq 5 yX.nd) (xc (wx (i:=6) yX.nd rfl (Or.inr rfl) (y4 (yj K) (pv 4) (uu zg xh) (fun _ _=>rfl)))
  (xi (wx (i:=4) yX.nd rfl (Or.inr rfl) (xD (xfE K) (pv 4) (qg (xbu K) (zC (yf (N:=["_law_place", "_law_found", "_law_here", "_law_some"]) (tau:=[none,some 4,some 6,some 1]) (XN:=["_law_places", "_law_some", "_law_place", "_law_ahead", "_law_found", "_law_k", "_law_here"]) (xs:=xf wW) (by decide +kernel) rfl rfl) rfl (zS rfl) (yS K (pv 1)) (fun _ _ _ _=>(yb (i:=0) (show(["_law_place", "_law_found", "_law_here", "_law_some"]:List Str).Nodup by decide +kernel) rfl (Or.inl rfl))) (fun _ _ _ _=>(wu (PW.pt (g6 (xN (c_ hr.units) (pv 0) (pv 1) (by with_unfolding_all rfl)) (qY (yO (xm uY hr (xM (pv 2) (xS (pv 0) (pv 3)))))))))) (fun _ _ _ _=>(pv 0))) jd (k9 xh)))))))
  (xi (xE (pv 4)))))))),
  (xj (zo (vy ud))
  (xj (yY (yC xa) xk.g (xj (xQ (OkF.e (yx sk xk (yB (xt (xw xo xo))) xa)))
  (xj (xQ (OkF.e (pM xa (OkF.e (yx sk xk (qz (xH (xg os_eq xo xo)) (yB (xt (xw xo xo)))) xa)))))
  (yr (xH (xg xfB xa si)) (xeX (yG we (xV xa)) xa) xT))))
  (xj (yr (xH (xg vG (yG we (xV si)) xr)) jT xT)
  (xj (xbT (i:=1) (xQ (xa7 xa vP (qa xr))))
  (xj (yY (w4 (xV (xg ze (yG we (xV xa)) xr))) xk.g (xj (xQ (w_ xa (zd xr)))
  (xQ (xfn xa (xa7 (OkF.e (yx (yC xa).c xk (qz (xH (xg xfB xa xa)) (yB (xt (xJ xa (xw xa xa))))) xa)) vP (qa xr))))))
  (xC xa)))))),fun ts KK hl h=>?_⟩)
 obtain⟨ps,l,rfl,hm,hl',hr,k⟩:=h
 have inl:∀ {i v},v∈ps.take i→v∈l:=fun hv=>(hm _).mp (xkS hv)
 have pk:∀ {v},v∈l→Pk 190 (plc v):=fun {v} hv=>xaY (hr.pos v hv) (hr.sm v hv)
 refine zk (all:=ps.map yT) (fun i τ=>∃(ss:List Pol.R3) (x2 x3 x4 x5 x6:TV),τ=[.fz (.lst (ps.map yT)),.ow (ss.map yT),x2,x3,x4,x5,x6]∧dO ss (ps.take i)∧ss.length≤i)
  ⟨[],_,_,_,_,_,rfl,⟨List.nodup_nil,fun v=>by simp,fun h t e=>by cases e⟩,xlb _⟩ ?_ ?_
 ·rintro i x τ N hx ⟨ss,x2,x3,x4,x5,x6,rfl,hs,hlen⟩ hN
  obtain⟨p,hp,rfl⟩:=wB hx
  have hpl:=(hm p).mp (xkR hp)
  have hi:=(xkk.mp hp).1
  have tk:ps.take (i+1)=ps.take i++[p]:=by rw[xk8,hp];rfl
  have sl:∀v∈ss,v∈l:=fun v hv=>inl ((hs.mem v).mp hv)
  have sp:∀v∈ss,0<v.2.2:=fun v hv=>hr.pos v (sl v hv)
  have z:∀n,n≤2000→n<sizeLine:=fun n hn=>sqz (by omega)
  have fk1:∀ {v},v∈l→Fk 1000 (plc v).1:=fun hv=>(pk hv).1.mono (by decide)
  have fk2:∀ {v},v∈l→Fk 1000 (plc v).2:=fun hv=>(pk hv).2.mono (by decide)
  refine⟨by rw[xkv];exact z _ (by omega),yw (f:=yT) (fun v=>kW (plc v).1 (plc p).1) yT (fun v hv N M h1 h0=>?_) ?_⟩
  ·exact⟨(plc v).1,(plc p).1,rfl,fk1 (sl v hv),fk1 hpl,xP h1 h0⟩
  refine⟨by rw[xkv];exact z _ (by omega),yw (f:=yT) (fun v=>decide ((plc v).1=(plc p).1)&&kW (plc v).2 (plc p).2) yT (fun v hv N M h1 h0=>?_) ?_⟩
  ·refine⟨⟨rfl,rfl,by show min 1 1≤64;decide⟩,?_⟩
   refine xP (b:=teq (fT (plc v).1) (fT (plc p).1)) (fun c=>?_) (fun c=>?_)
   ·rw[dB] at c
    refine⟨(plc v).2,(plc p).2,rfl,fk2 (sl v hv),fk2 hpl,?_⟩
    exact xP (fun d=>h1 (by rw[c,d];rfl)) (fun d=>h0 (by rw[c,d];rfl))
   ·rw[dB] at c
    exact pN (h0 (by rw[c];rfl))
  have f1:=xku (fun v=>kW (plc v).1 (plc p).1) ss
  have f2:=xku (fun v=>decide ((plc v).1=(plc p).1)&&kW (plc v).2 (plc p).2) ss
  refine⟨xg3 (by rw[xkv,xkv];omega),?_⟩
  refine⟨⟨rfl,d_ ss,by show(2:Nat)≤60;decide⟩,?_⟩
  refine xP (b := !((ss.map yT).any fun u=>teq u (yT p))) (fun c=>?_) (fun c=>?_)
  ·rw[oR hr.pos hr.prim sl hpl] at c
   have c:p∉ss:=by simpa using c
   refine⟨zJ ss p,?_,?_,?_,?_⟩
   ·unfold zJ
    rw[xkq,xkv,xkv]
   ·rw[xkv];exact xbk
   ·rw[xkv];exact z _ (by omega)
   ·have hh:=hs.ins sp (hr.pos p hpl) c
    rw[←tk] at hh
    have e:(ss.map yT).take (zJ ss p)++[yT p]++(ss.map yT).drop (zJ ss p)=(ss.take (zJ ss p)++[p]++ss.drop (zJ ss p)).map yT:=by
     rw[xkC,xkC,List.map_take,List.map_drop];rfl
    rw[e]
    refine hN _ ⟨_,_,_,_,_,_,rfl,hh,?_⟩
    rw[xkq,xkq,xkA,xks,xkz];omega
  ·rw[oR hr.pos hr.prim sl hpl] at c
   have c:p∈ss:=by simpa using c
   have hh:=hs.stay c
   rw[←tk] at hh
   exact hN _ ⟨ss,_,_,_,_,_,rfl,hh,by omega⟩
 ·rintro τ ⟨ss,x2,x3,x4,x5,x6,rfl,hs,hlen⟩
  rw[xkv,xk7 (xlb _)] at hs
  have hml:∀v,v∈ss↔v∈l:=fun v=>(hs.mem v).trans (hm v)
  have eqlen:=Pol.rm hs.nd hr.ccw.nd hml
  refine xP (b:=decide (((ss.map yT).length:Int)<3)) (fun c=>?_) (fun c=>?_)
  ·have c:=xlx c
   rw[xkv] at c
   rw[←lL hr hs.nd hml hs.least (by omega)] at k
   exact k
  ·have c:=xlw c
   rw[xkv] at c
   have hh:=nE hr hml hs.least
   have tk1:(ss.map yT).take 1=(l.take 1).map yT:=by
    rw[←List.map_take]
    congr 1
    cases ss with
    | nil=>simp at c
    | cons a t =>
     cases l with
     | nil=>simp at eqlen
     | cons b u=>simp at hh;rw[hh];rfl
   have z:∀n,n≤2000→n<sizeLine:=fun n hn=>sqz (by omega)
   have hln:=hr.len
   have sl:∀v∈ss,v∈l:=fun v hv=>(hml v).mp hv
   have pk2:∀ {v},v∈l→Pk 200 (plc v):=fun hv=>⟨(pk hv).1.mono (by decide),(pk hv).2.mono (by decide)⟩
   have rn:(((ss.map yT).length:Int)-1).toNat=l.length-1:=by rw[xkv];omega
   have main:xcC (eName 5) (xgX (xho 6 (d2 fIx (cf 4) (d1 xiK (dC (Tr.int 1)))))
             (xho 4
              (d2 xcH (cf 4)
               (dSl
                (xgK [none,some 4,some 6,some 1] (xiR (cf 1)) (eName 0)
                 (xiL (xhw (d2 (fIn true) (cf 0) (cf 1)))
                  (xhw (xdm sR (tZ (cf 2) (tZ (cf 0) (tZ (cf 3) xes))))))
                 (cf 0))
                cL (xfs (dC (Tr.int 1))))))) { nx:=xhy (cf 4) { nx:=fun x=>false=false∧KK Tr.non,rt:=KK },rt:=KK } (xfa 0 (l.length-1))
         [.fz (.lst (ps.map yT)),.fz (.lst (ss.map yT)),x2,x3,.fz (.lst ((l.take 1).map yT)),x5,x6]:=by
    refine zk (fun i τ=>∃(x5 x6:TV),τ=[.fz (.lst (ps.map yT)),.fz (.lst (ss.map yT)),x2,x3,.fz (.lst ((l.take (i+1)).map yT)),x5,x6]) ⟨_,_,rfl⟩ ?_ ?_
    ·rintro i x τ N hx ⟨x5,x6,rfl⟩ hN
     have hi:i<l.length-1:=by have:=(xkk.mp hx).1;rw[wL] at this;exact this
     have ha:l[i]? = some l[i]:=xki (by omega)
     have hb:l[i+1]? = some l[i+1]:=xki (by omega)
     generalize ea:l[i]=a at ha
     generalize eb:l[i+1]=b at hb
     have ham:=xkR ha
     have t1:l.take (i+1)=l.take i++[a]:=by rw[xk8,ha];rfl
     have t2:l.take (i+1+1)=l.take (i+1)++[b]:=by rw[xk8,hb];rfl
     have last:atT ((l.take (i+1)).map yT) (-1)=some (yT a):=by rw[t1,xkC];exact fJ _ _
     show gW (atT ((l.take (i+1)).map yT) (-1)) _
     rw[last]
     refine⟨by rw[xkv];exact z _ (by omega),?_⟩
     refine yw (f:=yT) (fun v=>!decide (plc v∈(l.take (i+1)).map plc)&&(ss.map plc).all fun w=>!decide (gY (plc a) (plc v) w<0)) yT (fun v hv N M h1 h0=>?_) ?_
     ·refine⟨⟨rfl,d_ _,by show(2:Nat)≤60;decide⟩,?_⟩
      refine xP (b := !(((l.take (i+1)).map yT).any fun u=>teq u (yT v))) (fun d=>?_) (fun d=>?_)
      ·rw[fS,qW,xcw] at d
       refine⟨plc a,plc v,ss.map plc,by rw[←fS];rfl,pk2 ham,pk2 (sl v hv),fun w hw=>?_,by rw[xkv];omega,?_⟩
       ·obtain⟨y,hy,rfl⟩:=xkP.mp hw
        exact pk2 (sl y hy)
       ·exact xP (fun e=>h1 (by rw[d,e];rfl)) (fun e=>h0 (by rw[d,e];rfl))
      ·rw[fS,qW,xcw] at d
       exact pN (h0 (by rw[d];rfl))
     ·rw[xaS hr hs.nd hml ha hb]
      have e1:dU (List.map yT [b]) none (some 1)=[yT b]:=oI _ 1
      dsimp only[cL,xfs,dC]
      rw[e1]
      rw[t2] at hN
      refine⟨xg3 (by simp;omega),hN _ ⟨.fz x,.fz (yT a),?_⟩⟩
      rw[xkC];rfl
    ·rintro τ ⟨x5,x6,rfl⟩
     rw[wL,show l.length-1+1=l.length by omega,xk7 (xlb _)]
     exact k
   refine⟨⟨by have:=hr.len;simp;omega,by have:=hr.len;simp;omega⟩,?_⟩
   rw[rn]
   have e1:dU (ss.map yT) none (some 1)=(l.take 1).map yT:=(oI _ 1).trans tk1
   rw[←e1] at main
   exact main
theorem ft (B:Blt mg bn)(F:Fun K "_law_all_left" "_law_all_left" wq f fd)(m:mg "_law_all_left" = some (.ref f))(b:Binds K fd ["_law_here", "_law_place", "_law_some"] [])(qC:Own P w K mg base 4 "_law_cross" ["_law_one", "_law_other", "_law_third"] (spT 3 false false xbM)) :
  Own P w K mg base 5 "_law_all_left" ["_law_here", "_law_place", "_law_some"] (spT 3 false false sR):=by
 refine xy F fE m b rfl (fun _ _ _ _ _ _ hr=>⟨_,_,
  (xi (xE (yZ (wR hr.units) (zC (yf (N:=["_law_one", "_law_here", "_law_place"]) (tau:=[none,some 0,some 1]) (XN:=["_law_here", "_law_place", "_law_some"]) (xs:=xf wq) (by decide +kernel) rfl rfl) rfl (zS rfl) (yS K (pv 2)) (fun _ _ _ _=>(yb (i:=0) (show(["_law_one", "_law_here", "_law_place"]:List Str).Nodup by decide +kernel) rfl (Or.inl rfl))) (fun _ _ _ _=>(wu (xN (vE K hr.units) (xm qC hr (xM (pv 1) (xS (pv 2) (pv 0)))) xh (xO _)))) (fun _ _ _ _=>(pv 0))) (yU uF) (xO _)))),
  (xC (xg os_eq (OkF.e (yx (yC xa).c xk (xH (xg vG (xt (xJ xa (xw xa xa))) xr)) xa)) (uy (b:=true) ud))),fun ts KK hl h=>?_⟩)
 obtain⟨p,q,ws,rfl,hp,hq,hw,hl',k⟩:=h
 refine⟨by rw[xkv];exact sqz (by omega),yw (fun w=>decide (gY p q w<0)) pT (fun w hwm N M h1 h0=>?_) ?_⟩
 ·refine⟨p,q,w,rfl,hp,hq,hw w hwm,?_⟩
  exact xP (b:=decide (gY p q w<0)) h1 h0
 ·refine tQ (xaw _) ?_
  rw[List.isEmpty_map,filter_empty]
  exact k
theorem dM (B:Blt mg bn)(F:Fun K "_law_corners" "_law_corners" uj f fd)(m:mg "_law_corners" = some (.ref f))(b:Binds K fd ["_law_rows"] [])(jv:Own P w K mg base 6 "_law_ring" ["_law_places"] (spT 1 false false xdV))(uX:Own P w K mg base 3 "_law_crossing" ["_law_one", "_law_other"] (spT 2 false false rh))(wg:Own P w K mg base 4 "_law_keeps" ["_law_row", "_law_place"] (spT 2 false false cU)) :
  Own P w K mg base 7 "_law_corners" ["_law_rows"] (spT 1 false false nM):=by
 refine xy F zE m b rfl (fun _ _ _ _ _ _ hr=>⟨_,_,
  (xc (yI 1 zE.nd (yU uF))
  (xc (zW PassesOwn.never rfl (u5 rfl (B.get "range") (yL (xG (yl K) rfl (B.get "len") zO (yL (pv 0))))) (yq 2 zE.nd) (xi (zW PassesOwn.never rfl (yS K (qg (xbu K) (pv 0) (k9 (xD wc (pv 2) xh)) jd)) (yq 3 zE.nd) (xc (wx (i:=4) zE.nd rfl (Or.inr rfl) (xm uX hr (xS (y4 (yj K) (pv 0) (pv 2) (fun _ _=>rfl)) (pv 3))))
  (xi (yR (PW.pt (g6 (sW (xco (pv 4))) (qY (xN (wR hr.units) (zC (yf (N:=["_law_row", "_law_place"]) (tau:=[none,some 4]) (XN:=["_law_rows", "_law_found", "_law_at", "_law_other", "_law_place"]) (xs:=xf uj) (by decide +kernel) rfl rfl) rfl (zS rfl) (yS K (pv 0)) (fun _ _ _ _=>(yb (i:=0) (show(["_law_row", "_law_place"]:List Str).Nodup by decide +kernel) rfl (Or.inl rfl))) (fun _ _ _ _=>(wu (zf (yO (xm wg hr (xS (pv 0) (pv 1))))))) (fun _ _ _ _=>(pv 0))) (yU uF) (xO _))))) (xi (ub (dN PySem.F.plainAttrs_list PySem.F.slot_list_append PySem.F.type_list_append zY (pv 1) (yL (pv 4))))) xZ))))))
  (xi (xE (xm jv hr (yL (pv 1))))))),
  (xj (zo (vy ud))
  (xj (yY (w4 (xV (yG we (xV xa)))) xk.g (yY (yC (xa7 xa (qa (xg uM xa xr)) vP)) xk.g (xj (xQ (xt (xw (w_ xa xa) xa)))
  (yr (qz (yB (xb3 xa)) (xH (xg os_eq (OkF.e (yx (yC xa).c xk (yE (yB (xt (xw xa xa)))) xa)) (uy (b:=true) ud)))) (vk xa) xT))))
  (xC (xt (xV si))))),fun ts KK hl h=>?_⟩)
 obtain⟨rows,rfl,hr,k⟩:=h
 have ring:=hr.ring
 have rl:=hr.len
 have r3:∀r∈rows,B3k 10 r:=fun r hm=>uv (hr.fine.fr r hm)
 have cl:(uo rows).length≤900:=ring.len
 let W:Nat→Nat→List Pol.R3→Prop:=fun i j ps=>(∀v∈ps,v∈uo rows)∧ps.length≤i*8+j∧∀v∈uo rows,∀a b s t,a<b→rows[a]? = some s→rows[b]? = some t→Pol.val s v=0→Pol.val t v=0→Pol.turn s t≠0→(a<i∨a=i∧b<i+1+j)→v∈ps
 refine⟨⟨by rw[xkv];omega,by rw[xkv];omega⟩,?_⟩
 rw[xkv,xjX]
 refine zk (fun i τ=>∃(ps:List Pol.R3) (x2 x3 x4:TV),τ=[.fz (.tup (rows.map trR)),.ow (ps.map yT),x2,x3,x4]∧W i 0 ps) ⟨[],_,_,_,rfl,by simp,by simp,?_⟩ ?_ ?_
 ·intro v hv a b s t hab ha hb e1 e2 hn hc
  omega
 ·rintro i x τ N hx ⟨ps,x2,x3,x4,rfl,hW⟩ hN
  have hi:i<rows.length:=by have:=(xkk.mp hx).1;rw[wL] at this;exact this
  rw[tw hi] at hx
  cases hx
  have es:rows[i]? = some rows[i]:=xki hi
  generalize egen:rows[i]=s at es
  have hs:=xkR es
  show xcC _ _ _ (dU (rows.map trR) (some ((0:Int)+i+1)) none) _
  rw[show(0:Int)+(i:Int)+1=((i+1:Nat):Int) by omega,mf,←List.map_drop]
  refine zk (fun j τ=>∃(ps:List Pol.R3) (x3 x4:TV),τ=[.fz (.tup (rows.map trR)),.ow (ps.map yT),.fz (.int ((0:Int)+i)),x3,x4]∧W i j ps) ⟨ps,_,_,rfl,hW⟩ ?_ ?_
  ·rintro j y τ N2 hy ⟨ps,x3,x4,rfl,hW⟩ hN2
   obtain⟨t,ht,rfl⟩:=wB hy
   rw[List.getElem?_drop] at ht
   have htm:=xkR ht
   have hj:=(xkk.mp ht).1
   have at0:atT (rows.map trR) ((0:Int)+i)=some (trR s):=by rw[show(0:Int)+(i:Int)=((i:Nat):Int) by omega,jf,xkl,es];rfl
   show gW (atT (rows.map trR) ((0:Int)+i)) _
   rw[at0]
   have step:∀qs:List Pol.R3,(∀v∈qs,v∈uo rows)→(∀v∈ps,v∈qs)→qs.length≤ps.length+1→(∀v∈uo rows,Pol.val s v=0→Pol.val t v=0→Pol.turn s t≠0→v∈qs)→W i (j+1) qs:=fun qs h1 h2 h3 h4=>by
    refine⟨h1,by have:=hW.2.1;omega,fun v hv a b s' t' hab ha hb e1 e2 hn hc=>?_⟩
    by_cases q:a=i∧b=i+1+j
    ·obtain⟨rfl,rfl⟩:=q
     rw[es] at ha;rw[ht] at hb
     cases ha;cases hb
     exact h4 v hv e1 e2 hn
    ·exact h2 v (hW.2.2 v hv a b s' t' hab ha hb e1 e2 hn (by omega))
   refine⟨s,t,rfl,(r3 s hs).mono (by decide),(r3 t htm).mono (by decide),?_⟩
   by_cases hn:Pol.turn s t=0
   ·rw[bP hn]
    exact hN2 _ ⟨ps,_,_,rfl,step ps hW.1 (fun v h=>h) (by omega) (fun v hv e1 e2 h=>absurd hn h)⟩
   ·rw[aK hn]
    obtain⟨cz,c1,c2⟩:=Pol.vB hn
    have cb:B3k 21 (Pol.yH s t):=by
     have S:=r3 s hs
     have T:=r3 t htm
     have m:∀ {x y z w:Int},Bk 10 x→Bk 10 y→Bk 10 z→Bk 10 w→Bk 21 (x*y-z*w):=fun h1 h2 h3 h4=>(h1.mul h2).sub (h3.mul h4)
     unfold Pol.yH Pol.turn
     split
     ·exact⟨⟨(m S.2 T.1.2 S.1.2 T.2).neg,(m S.1.1 T.2 S.2 T.1.1).neg⟩,(m S.1.1 T.1.2 S.1.2 T.1.1).neg⟩
     ·exact⟨⟨m S.2 T.1.2 S.1.2 T.2,m S.1.1 T.2 S.2 T.1.1⟩,m S.1.1 T.1.2 S.1.2 T.1.1⟩
    have pk:=xaY cz cb
    refine⟨by rw[xkv];exact sqz (by omega),yw (f:=trR) (fun r=>!wD r (plc (Pol.yH s t))) trR (fun r hm N M h1 h0=>?_) ?_⟩
    ·refine⟨r,plc (Pol.yH s t),rfl,(r3 r hm).mono (by decide),pk.1.mono (by decide),pk.2.mono (by decide),?_⟩
     exact xP (b := !wD r (plc (Pol.yH s t))) h1 h0
    ·dsimp only[xgi,xes]
     refine tQ (vC trR cM _) ?_
     rw[List.isEmpty_map,filter_empty]
     have ek:(rows.all fun r=>!!wD r (plc (Pol.yH s t)))=true↔∀r∈rows,Pol.val r (Pol.yH s t)≤0:=by
      rw[xj1]
      refine⟨fun h r hm=>?_,fun h r hm=>?_⟩
      ·have:=h r hm
       rw[Bool.not_not,hJ r cz] at this
       exact xlx this
      ·rw[Bool.not_not,hJ r cz]
       exact xlt (h r hm)
     refine xP (b:=rows.all fun r=>!!wD r (plc (Pol.yH s t))) (fun c=>?_) (fun c=>?_)
     ·have c:=ek.mp c
      obtain⟨v,hv,e⟩:=hr.crossing hs htm hn c
      refine⟨by rw[xkv];exact sqz (by have:=hW.2.1;omega),?_⟩
      have e2:ps.map yT++[yT (Pol.yH s t)]=(ps++[v]).map yT:=by rw[e,xkC];rfl
      show N2 _
      rw[e2]
      refine hN2 _ ⟨ps++[v],_,_,rfl,step _ ?_ (fun w hw=>xkH _ hw) (by simp) (fun w hw e1 e2 _=>?_)⟩
      ·intro w hw
       rcases xkG.mp hw with q | q
       ·exact hW.1 w q
       ·rw[xkU.mp q];exact hv
      ·have e3:=(hr.tightPt hw hn e1 e2).1
       have:w=v:=by
        have p1:=hr.corner hw
        have p2:=hr.corner hv
        refine tT p1.1.1 p2.1.1 p1.1.2.1 p2.1.2.1 ?_
        have e4:yT w=yT v:=e3.symm.trans e
        exact xgO e4
       rw[this];simp
     ·exact hN2 _ ⟨ps,_,_,rfl,step ps hW.1 (fun v h=>h) (by omega) (fun v hv e1 e2 _=>by
       have:=ek.mpr (hr.tightPt hv hn e1 e2).2
       rw[c] at this;cases this)⟩
  ·rintro τ ⟨ps,x3,x4,rfl,hW⟩
   refine hN _ ⟨ps,_,_,_,rfl,hW.1,?_,fun v hv a b s' t' hab ha hb e1 e2 hn hc=>?_⟩
   ·have:=hW.2.1
    rw[xkv,xks] at this
    omega
   ·refine hW.2.2 v hv a b s' t' hab ha hb e1 e2 hn ?_
    have:=(xkk.mp hb).1
    rw[xkv,xks]
    omega
 ·rintro τ ⟨ps,x2,x3,x4,rfl,hW⟩
  rw[wL] at hW
  refine⟨ps,uo rows,rfl,fun v=>⟨hW.1 v,fun hv=>?_⟩,by have:=hW.2.1;omega,ring,k⟩
  obtain⟨⟨_,_,hc⟩,_⟩:=hr.corner hv
  obtain⟨s,hs,t,ht,e1,e2,hn⟩:=hc.two
  obtain⟨a,ha,ea⟩:=xkO.mp hs
  obtain⟨b,hb,eb⟩:=xkO.mp ht
  have ha':rows[a]? = some s:=by rw[xki ha,ea]
  have hb':rows[b]? = some t:=by rw[xki hb,eb]
  rcases Nat.lt_trichotomy a b with q | q | q
  ·exact hW.2.2 v hv a b s t q ha' hb' e1 e2 hn (.inl ha)
  ·subst q
   rw[ha'] at hb'
   cases hb'
   unfold Pol.turn at hn
   grind
  ·exact hW.2.2 v hv b a t s q hb' ha' e2 e1 (fun z=>hn (by unfold Pol.turn at *;grind)) (.inl hb)
theorem fD (B:Blt mg bn)(F:Fun K "_law_is_tight" "_law_is_tight" uW f fd)(m:mg "_law_is_tight" = some (.ref f))(b:Binds K fd ["_law_row", "_law_place"] [])(wa:Own P w K mg base 3 "_law_value" ["_law_row", "_law_place"] (spT 2 false false pj)) :
  Own P w K mg base 4 "_law_is_tight" ["_law_row", "_law_place"] (spT 2 false false bY):=by
 refine xy F fo m b rfl (fun _ _ _ _ _ _ hr=>⟨_,_,
  (xi (xE (yZ (wR hr.units) (xm wa hr (xS (pv 0) (pv 1))) (yd (xS (xn K 0) xh)) (xO _)))),
  (xC (xg os_eq (xt (xw xa xa)) (yc (b:=true) (xw xo xr)))),fun ts KK hl h=>?_⟩)
 obtain⟨r,p,rfl,hr,hp,k⟩:=h
 refine⟨r,p,rfl,hr,hp.1,hp.2,⟨rfl,rfl,by show min 1 1≤64;decide⟩,?_⟩
 show KK (.bl (teq (fT (n6 r p)) (fT (r.2.2,1))))
 rw[dB,←xbX hp.1.pos hp.2.pos]
 exact k
end
end K19
namespace K19
open PySem L2 Trn
section
variable {P:Program} {w:World} {K:PySem.W.Frag} {mg:Str→Option Value} {base:Heap} {f:Addr} {fd:FuncData}
theorem mL (B:Blt mg bn)(F:Fun K "_law_plus" "_law_plus" jB f fd)(m:mg "_law_plus" = some (.ref f))(b:Binds K fd ["_law_one", "_law_other"] [])(yA:Own P w K mg base 2 "_law_low" ["_law_top", "_law_bottom"] (spT 2 false false lP)) :
  Own P w K mg base 3 "_law_plus" ["_law_one", "_law_other"] (spT 2 false false xd1):=by
 refine xy F bH m b rfl (fun _ _ _ _ _ _ hr=>⟨_,_,
  (xi (xE (xm yA hr (xS (xD wc (xD xI (xn K 0) (xn K 1)) (xD xI (xn K 1) (xn K 0))) (xD xI (xn K 0) (xn K 1)))))),
  (xC (xt (xw (xg uM (xg xW xo xo) (xg xW xo xo)) (xg xW xo xo)))),fun ts KK hl h=>?_⟩)
 obtain⟨f,g,rfl,hf,hg,k⟩:=h
 exact⟨⟨hf.top.bd,hg.bot.bd⟩,⟨hg.top.bd,hf.bot.bd⟩,⟨hf.bot.bd,hg.bot.bd⟩,_,_,rfl,by have:=Pol.pp hf.pos hg.pos;omega,(hf.bot.mul hg.bot).bd,k⟩
theorem ak (B:Blt mg bn)(F:Fun K "_law_summed" "_law_summed" vR f fd)(m:mg "_law_summed" = some (.ref f))(b:Binds K fd ["_law_rows", "_law_weights"] [])(jj:Own P w K mg base 3 "_law_plus" ["_law_one", "_law_other"] (spT 2 false false xd1))(zF:Own P w K mg base 3 "_law_times" ["_law_one", "_law_other"] (spT 2 false false ck)) :
  Own P w K mg base 4 "_law_summed" ["_law_rows", "_law_weights"] (spT 2 false false oN):=by
 refine xy F zZ m b rfl (fun _ _ _ _ _ _ hr=>⟨_,_,
  (xc (yI 2 zZ.nd (yU (xM (yd (xS xh xh)) (xS (yd (xS xh xh)) (yd (xS xh xh))))))
  (xc (zW PassesOwn.never rfl (rM K rfl (B.get "zip") (xS (pv 0) (pv 1))) (ym K (n:=2) rfl (xq (yq 3 zZ.nd) (xq (yq 4 zZ.nd) yh))) (xi (zW PassesOwn.never rfl (u5 rfl (B.get "range") (yL xh)) (yq 5 zZ.nd) (xi (zR (xm jj hr (xS (y4 (yj K) (pv 2) (pv 5) (fun _ _=>rfl)) (xm zF hr (xS (pv 4) (yd (xS (y4 (yj K) (pv 3) (pv 5) (fun _ _=>rfl)) xh)))))) (nZ (pv 2) (pv 5) set_list))))))
  (xi (xE (qH (uZ K) rfl (B.get "tuple") wo (yL (pv 2))))))),
  (xj (zo (vy (xJ (yc (b:=true) (xw xr xr)) (xw (yc (b:=true) (xw xr xr)) (yc (b:=true) (xw xr xr))))))
  (xj (yY (fK (xw xa xa)) (yn (xl xk (xl xk x_))).g (yY (w4 (xV xr)) xk.g (za (xt (xw (dX xa) (xt (xw xa (yc (b:=true) (xw (w_ xa xa) xr)))))) (p6 xa))))
  (xC xaZ))),fun ts KK hl h=>?_⟩)
 obtain⟨rows,ws,rfl,H0,k⟩:=h
 have hl8:=H0.l100
 have hlen:=H0.len
 have zl:(rows.zip ws).length=rows.length:=by rw[List.length_zip];omega
 have hz:=fun x hx=>H0.zip (x:=x) hx
 refine yi (fun τ=>τ=[.fz (.tup (rows.map trR)),.fz (.tup (ws.map fT)),.ow [fT (0,1),fT (0,1),fT (0,1)],.un,.un,.un]) ?_ (fun N hN=>hN _ rfl)
 rintro _ rfl
 refine yi (fun τ=>∃x3 x4 x5:TV,τ=[.fz (.tup (rows.map trR)),.fz (.tup (ws.map fT)),.ow [fT (wsum k0 (rows.zip ws)),fT (wsum k1 (rows.zip ws)),fT (wsum k2 (rows.zip ws))],x3,x4,x5]) ?_ (fun N hN=>?_)
 ·rintro _ ⟨x3,x4,x5,rfl⟩
  exact k
 show xh1 _ _ _ _ _
 have zt:xan (rows.map trR) (ws.map fT)=(rows.zip ws).map rwT:=t8 trR fT rows ws
 refine kR ((rows.zip ws).map rwT) (fun i τ=>∃x3 x4 x5:TV,τ=[.fz (.tup (rows.map trR)),.fz (.tup (ws.map fT)),.ow [fT (wsum k0 ((rows.zip ws).take i)),fT (wsum k1 ((rows.zip ws).take i)),fT (wsum k2 ((rows.zip ws).take i))],x3,x4,x5]) (fun KK h=>by rw[←zt] at h;exact h) ⟨_,_,_,rfl⟩ ?_ (fun τ ⟨x3,x4,x5,e⟩=>hN _ ⟨x3,x4,x5,by rw[e,xkv,xk6]⟩)
 rintro i x τ N2 hx ⟨x3,x4,x5,rfl⟩ hN2
 obtain⟨y,hy,rfl⟩:=wB hx
 have il:=(xkk.mp hy).1
 obtain⟨hr,hw⟩:=hz y (xkR hy)
 have tk1:(rows.zip ws).take (i+1)=(rows.zip ws).take i++[y]:=by rw[xk8,hy];rfl
 have fk:∀(k:Pol.R3→Int),(∀r,B3k 10 r→Bk 10 (k r))→Fk 900 (wsum k ((rows.zip ws).take i)):=fun k hk =>
  (xa4 k _ fun x hx=>⟨(hz x (xkS hx)).2.sm,hk _ (hz x (xkS hx)).1⟩).mono (by rw[xkA];omega)
 have f0:=fk k0 fun r h=>h.1.1
 have f1:=fk k1 fun r h=>h.1.2
 have f2:=fk k2 fun r h=>h.2
 rw[tk1,wsum_snoc,wsum_snoc,wsum_snoc] at hN2
 generalize wsum k0 ((rows.zip ws).take i)=A0 at f0 hN2
 generalize wsum k1 ((rows.zip ws).take i)=A1 at f1 hN2
 generalize wsum k2 ((rows.zip ws).take i)=A2 at f2 hN2
 refine⟨rfl,?_⟩
 have one9:∀ {n:Int},Bk 10 n→Fk 900 (n,1):=fun h=>⟨h.mono (by decide),by show Bk 900 1;unfold Bk;decide,by show(0:Int)<1;decide⟩
 have w9:Fk 900 y.2:=hw.sm.mono (by decide)
 have t9:∀ {n:Int},Bk 10 n→Fk 900 (aS y.2 (n,1)):=fun h=>(hw.sm.timI h).mono (by decide)
 refine⟨⟨by decide,by decide⟩,?_⟩
 refine⟨y.2,(y.1.1,1),rfl,w9,one9 hr.1.1,A0,_,rfl,f0,t9 hr.1.1,?_⟩
 refine⟨y.2,(y.1.2.1,1),rfl,w9,one9 hr.1.2,A1,_,rfl,f1,t9 hr.1.2,?_⟩
 refine⟨y.2,(y.1.2.2,1),rfl,w9,one9 hr.2,A2,_,rfl,f2,t9 hr.2,?_⟩
 exact hN2 _ ⟨_,_,_,rfl⟩
theorem tX (B:Blt mg bn)(F:Fun K "_law_times" "_law_times" qZ f fd)(m:mg "_law_times" = some (.ref f))(b:Binds K fd ["_law_one", "_law_other"] [])(yA:Own P w K mg base 2 "_law_low" ["_law_top", "_law_bottom"] (spT 2 false false lP)) :
  Own P w K mg base 3 "_law_times" ["_law_one", "_law_other"] (spT 2 false false ck):=by
 refine xy F tx m b rfl (fun _ _ _ _ _ _ hr=>⟨_,_,
  (xi (xE (xm yA hr (xS (xD xI (xn K 0) (xn K 1)) (xD xI (xn K 0) (xn K 1)))))),
  (xC (xt (xw (xg xW xo xo) (xg xW xo xo)))),fun ts KK hl h=>?_⟩)
 obtain⟨f,g,rfl,hf,hg,k⟩:=h
 exact⟨⟨hf.top.bd,hg.top.bd⟩,⟨hf.bot.bd,hg.bot.bd⟩,_,_,rfl,by have:=Pol.pp hf.pos hg.pos;omega,(hf.bot.mul hg.bot).bd,k⟩
theorem p8 (B:Blt mg bn)(F:Fun K "_law_cut" "_law_cut" gk f fd)(m:mg "_law_cut" = some (.ref f))(b:Binds K fd ["_law_rows", "_law_weights"] [])(qp:Own P w K mg base 4 "_law_summed" ["_law_rows", "_law_weights"] (spT 2 false false oN)) :
  Own P w K mg base 5 "_law_cut" ["_law_rows", "_law_weights"] (spT 2 false false xgv):=by
 refine xy F vX m b rfl (fun _ _ _ _ _ _ hr=>⟨_,_,
  (xc (zR (xm qp hr (xS (pv 0) (pv 1))) (ym K (n:=3) rfl (xq (yq 2 vX.nd) (xq (yq 3 vX.nd) (xq (yq 4 vX.nd) yh)))))
  (xc (yR (PW.pt (uA (xN (y8 hr.units) (xn K 2) xh (xO _)) (uA (xN (y8 hr.units) (xn K 3) xh (xO _)) (wV (PW.pt (g6 (xN (wR hr.units) (xn K 2) xh (xO _)) (qY (xN (wR hr.units) (xn K 3) xh (xO _))))))))) (xi (xE j6)) xZ)
  (xi (xE (yd (xM (xn K 2) (xS (xn K 3) (xD zT (xn K 4) (xn K 4))))))))),
  (xj (za (xt (xw xa xa)) (yn (xl xk (xl xk (xl xk x_)))).g)
  (xj (yr (zq (xH (xg wX xo xr)) (zq (xH (xg wX xo xr)) (qz (xH (xg os_eq xo xr)) (xH (xg os_eq xo xr))))) (xC (xae (t:=Tr.non))) xT)
  (xC (yc (b:=true) (xJ xo (xw xo (xg uG xo xo))))))),fun ts KK hl h=>?_⟩)
 obtain⟨rows,ws,rfl,H0,k⟩:=h
 obtain⟨p0,pb⟩:=H0.bot
 refine⟨rows,ws,rfl,H0,?_⟩
 refine⟨rfl,?_⟩
 have cn:(wsum k2 (rows.zip ws)).2≠0:=by omega
 have ce:xbv (rows.zip ws)=trR ((wsum k0 (rows.zip ws)).1,(wsum k1 (rows.zip ws)).1,(wsum k2 (rows.zip ws)).1.fdiv (wsum k2 (rows.zip ws)).2):=rfl
 rw[ce] at k
 generalize wsum k0 (rows.zip ws)=a at *
 generalize wsum k1 (rows.zip ws)=b' at *
 generalize wsum k2 (rows.zip ws)=c at *
 have no:¬n9 a b'→KK .non:=fun h=>by rw[if_neg h] at k;exact k
 have yes:n9 a b'→KK (trR (a.1,b'.1,c.1.fdiv c.2)):=fun h=>by rw[if_pos h] at k;exact k
 refine xP (b := !decide (a.2=1)) (fun z=>no fun y=>?_) (fun z1=>?_)
 ·simp[y.1] at z
 have z1:a.2=1:=by simpa using z1
 refine xP (b := !decide (b'.2=1)) (fun z=>no fun y=>?_) (fun z2=>?_)
 ·simp[y.2.1] at z
 have z2:b'.2=1:=by simpa using z2
 refine xP (b:=decide (a.1=0)) (fun z=>?_) (fun z3=>?_)
 ·have z3:=xlx z
  refine xP (b:=decide (b'.1=0)) (fun z4=>?_) (fun z4=>?_)
  ·exact no fun y=>y.2.2 ⟨z3,xlx z4⟩
  ·exact⟨⟨cn,pb⟩,yes ⟨z1,z2,fun y=>xlw z4 y.2⟩⟩
 ·exact⟨⟨cn,pb⟩,yes ⟨z1,z2,fun y=>xlw z3 y.1⟩⟩
theorem r6 (B:Blt mg bn)(F:Fun K "_law_whole" "_law_whole" q8 f fd)(m:mg "_law_whole" = some (.ref f))(b:Binds K fd ["_law_thing"] [])  :
  Own P w K mg base 1 "_law_whole" ["_law_thing"] (spT 1 false false aF):=by
 refine xy F tK m b rfl (fun _ _ _ _ _ _ hr=>⟨_,_,
  (xi (xE (rg (xG um rfl (B.get "isinstance") xR (xS (pv 0) (uV (v:=V.ty "int") rfl (B.get "int") xdU rfl))) (jX (xb0 (xG um rfl (B.get "isinstance") xR (xS (pv 0) (uV (v:=V.ty "bool") rfl (B.get "bool") xa0 rfl)))))))),
  (xC (gD (kX xa) (pA (kX xa)))),fun ts KK hl h=>?_⟩)
 obtain⟨t,rfl,k⟩:=h
 cases t<;>exact k
theorem jC (B:Blt mg bn)(F:Fun K "_law_is_fraction" "_law_is_fraction" wH f fd)(m:mg "_law_is_fraction" = some (.ref f))(b:Binds K fd ["_law_thing"] [])(va:Own P w K mg base 1 "_law_whole" ["_law_thing"] (spT 1 false false aF))(zz:Own P w K mg base 1 "_law_divisor" ["_law_one", "_law_other"] (spT 2 false false xd3)) :
  Own P w K mg base 2 "_law_is_fraction" ["_law_thing"] (spT 1 false false xd6):=by
 refine xy F jz m b rfl (fun _ _ _ _ _ _ hr=>⟨_,_,
  (xc (yR (PW.pt (uA (zf (yO (xG um rfl (B.get "isinstance") xR (xS (pv 0) (uV (v:=V.ty "tuple") rfl (B.get "tuple") wo rfl))))) (uA (xN (y8 hr.units) (xG (yl K) rfl (B.get "len") zO (yL (pv 0))) xh (xO _)) (uA (zf (yO (xm va hr (yL (xn K 0))))) (wV (zf (yO (xm va hr (yL (xn K 0)))))))))) (xi (xE vF)) xZ)
  (xi (xE (rg (yZ pV (xn K 0) xh (xO _)) (jX (yZ (wR hr.units) (xm zz hr (xS (xn K 0) (xn K 0))) xh (xO _))))))),
  (xj (yr (zq (yE (yB (kX xa))) (zq (xH (xg wX (yG we (xV xa)) xr)) (zq (yE (yB (xt (xV xo)))) (yE (yB (xt (xV xo))))))) (xC qx) xT)
  (xC (gD (xg pF xo xr) (xg os_eq (xt (xw xo xo)) xr)))),fun ts KK hl h=>?_⟩)
 obtain⟨t,rfl,k⟩:=h
 cases t with
 | tup us =>
  refine xP (b := !decide ((us.length:Int)=2)) (fun c=>?_) (fun c=>?_)
  ·have c:¬(us.length:Int)=2:=by simpa using c
   have e:lY (.tup us)=false:=by
    unfold lY
    split
    ·rename_i z;injection z with z;rw[z] at c;exact absurd rfl c
    ·rfl
   rw[e] at k
   exact k
  ·have c:us.length=2:=by simp at c;omega
   obtain⟨x,y,rfl⟩:∃x y,us=[x,y]:=by
    match us,c with
    | [x,y],_=>exact⟨x,y,rfl⟩
   refine⟨x,rfl,?_⟩
   cases x with
   | int a =>
    refine⟨y,rfl,?_⟩
    cases y with
    | int b =>
     have e:lY (.tup [.int a,.int b])=(decide (1≤b)&&decide (Int.gcd a b=1)):=rfl
     rw[e] at k
     refine xP (b:=decide (0<b)) (fun c1=>?_) (fun c1=>?_)
     ·have c1:=xlx c1
      rw[xlt (show 1≤b by omega),Bool.true_and] at k
      refine⟨a,b,rfl,?_⟩
      have e2:decide (((Int.gcd a b:Nat):Int)=1)=decide (Int.gcd a b=1):=by rw[xlr];omega
      show KK (.bl (decide (((Int.gcd a b:Nat):Int)=1)))
      rw[e2];exact k
     ·have c1:=xlw c1
      rw[xls (show ¬1≤b by omega),Bool.false_and] at k;exact k
    | _=>exact k
   | _=>exact k
 | _=>exact k
end
end K19
namespace K19
open PySem L2 Trn
section
variable {P:Program} {w:World} {K:PySem.W.Frag} {mg:Str→Option Value} {base:Heap} {f:Addr} {fd:FuncData}
theorem mz (B:Blt mg bn)(F:Fun K "_law_right" "_law_right" wk f fd)(m:mg "_law_right" = some (.ref f))(b:Binds K fd ["_law_field_here", "_law_place", "_law_thing"] [])(gA:Own P w K mg base 5 "_law_cut" ["_law_rows", "_law_weights"] (spT 2 false false xgv))(wg:Own P w K mg base 4 "_law_keeps" ["_law_row", "_law_place"] (spT 2 false false cU))(uS:Own P w K mg base 4 "_law_is_tight" ["_law_row", "_law_place"] (spT 2 false false bY))(wG:Own P w K mg base 2 "_law_is_fraction" ["_law_thing"] (spT 1 false false xd6)) :
  Own P w K mg base 6 "_law_right" ["_law_field_here", "_law_place", "_law_thing"] (spT 3 false false xax):=by
 refine xy F j2 m b rfl (fun _ _ _ _ _ _ hr=>⟨_,_,
  (xc (yR (PW.pt (uA (zf (yO (xG um rfl (B.get "isinstance") xR (xS (pv 2) (uV (v:=V.ty "tuple") rfl (B.get "tuple") wo rfl))))) (uA (xN (y8 hr.units) (xG (yl K) rfl (B.get "len") zO (yL (pv 2))) xh (xO _)) (wV (zf (yO (xG um rfl (B.get "isinstance") xR (xS (xn K 2) (uV (v:=V.ty "tuple") rfl (B.get "tuple") wo rfl))))))))) (xi (xE vF)) xZ)
  (xc (yR (PW.pt (uA (xN (y8 hr.units) (xG (yl K) rfl (B.get "len") zO (yL (xn K 2))) (xG (yl K) rfl (B.get "len") zO (yL (pv 0))) (xO _)) (wV (xN (y8 hr.units) (zC (yf (N:=["_law_one"]) (tau:=[none]) (XN:=["_law_field_here", "_law_place", "_law_thing", "_law_some"]) (xs:=xf wk) (by decide +kernel) rfl rfl) rfl (zS rfl) (yS K (xn K 2)) (fun _ _ _ _=>(yb (i:=0) (show(["_law_one"]:List Str).Nodup by decide +kernel) rfl (Or.inl rfl))) (fun _ _ _ _=>(wu (PW.pt (uA (zf (yO (xm wG hr (yL (pv 0))))) (wV (xN (vE K hr.units) (xn K 0) xh (xO _))))))) (fun _ _ _ _=>(pv 0))) (yU uF) (xO _))))) (xi (xE vF)) xZ)
  (xc (uf (i:=3) j2.nd rfl (Or.inl rfl) (yf (N:=["_law_at", "_law_thing"]) (tau:=[none,some 2]) (XN:=["_law_field_here", "_law_place", "_law_thing", "_law_some"]) (xs:=xf wk) (by decide +kernel) rfl rfl) rfl (zS rfl) (u5 rfl (B.get "range") (yL (xG (yl K) rfl (B.get "len") zO (yL (pv 0))))) (fun _ _ _ _=>(yb (i:=0) (show(["_law_at", "_law_thing"]:List Str).Nodup by decide +kernel) rfl (Or.inl rfl))) (fun _ _ _ _=>(wu (xN (y8 hr.units) (y4 (yj K) (y4 (yj K) (xn K 1) (pv 0) (fun _ _=>rfl)) xh (fun _ _=>rfl)) xh (xO _)))) (fun _ _ _ _=>(pv 0)))
  (xc (yR (PW.pt (uA (xN pV (xG (yl K) rfl (B.get "len") zO (yL (pv 3))) xh (xO _)) (wV (xN (y8 hr.units) (zC (yf (N:=["_law_at", "_law_place", "_law_field_here"]) (tau:=[none,some 1,some 0]) (XN:=["_law_field_here", "_law_place", "_law_thing", "_law_some"]) (xs:=xf wk) (by decide +kernel) rfl rfl) rfl (zS rfl) (yS K (pv 3)) (fun _ _ _ _=>(yb (i:=0) (show(["_law_at", "_law_place", "_law_field_here"]:List Str).Nodup by decide +kernel) rfl (Or.inl rfl))) (fun _ _ _ _=>(wu (zf (yO (xm uS hr (xS (y4 (yj K) (pv 2) (pv 0) (fun _ _=>rfl)) (pv 1))))))) (fun _ _ _ _=>(pv 0))) (yU uF) (xO _))))) (xi (xE vF)) xZ)
  (xi (xE (rg (yZ (wR hr.units) (xm gA hr (xS (pv 0) (xn K 2))) (xn K 2) (xO _)) (jX (xb0 (xm wg hr (xS (xn K 2) (pv 1)))))))))))),
  (xj (yr (zq (yE (yB (kX xa))) (zq (xH (xg wX (yG we (xV xa)) xr)) (yE (yB (kX xo))))) (xC qx) xT)
  (xj (yr (zq (xH (xg wX (yG we (xV xo)) (yG we (xV xa)))) (xH (xg wX (OkF.e (yx (yC xo).c xk (zq (yE (yB (xt (xV xa)))) (xH (xg vG xo xr))) xa)) (uy (b:=true) ud)))) (xC qx) xT)
  (xj (xQ (OkF.e (yx (w4 (xV (yG we (xV xa)))).c xk (xH (xg wX (w_ (w_ xo xa) xr) xr)) xa)))
  (xj (yr (zq (xH (xg pF (yG we (xV xa)) xr)) (xH (xg wX (OkF.e (yx (yC xa).c xk (yE (yB (xt (xw (w_ xa xa) xa)))) xa)) (uy (b:=true) ud)))) (xC qx) xT)
  (xC (gD (xg os_eq (xt (xw xa xo)) xo) (pA (xt (xw xo xa))))))))),fun ts KK hl h=>?_⟩)
 obtain⟨rows,v,x,rfl,hf,FR,hv,hx,G,nk,k⟩:=h
 have l8:=(af hf).1.2
 have ml:(rows.map trR).length=rows.length:=xkv _
 have g:=G.gw hf
 have WSx:=af.ws hf g
 have wl:((jn rows x).map fT).length=rows.length:=by rw[xkv];exact g.1
 refine yi (fun τ=>τ=[.fz (.tup (rows.map trR)),.fz (yT v),.fz (xcD rows x),.un]) ?_ (fun N hN=>hN _ rfl)
 rintro _ rfl
 refine yi (fun τ=>τ=[.fz (.tup (rows.map trR)),.fz (yT v),.fz (xcD rows x),.un]) ?_ (fun N hN=>?_)
 rotate_left
 ·refine xP (b := !decide ((((jn rows x).map fT).length:Int)=((rows.map trR).length:Nat))) (fun c=>?_) (fun c=>?_)
  ·have c:¬(((jn rows x).map fT).length:Int)=((rows.map trR).length:Nat):=by simpa using c
   exact absurd (by rw[wl,ml]) c
  refine⟨by rw[wl];exact sqz (by omega),yw (fun _=>false) fT (fun w' hw N M h1 h0=>?_) ?_⟩
  ·have W':=g.2 w' hw
   have e:=W'.isFr
   have nn:=W'.nn
   refine⟨_,rfl,?_⟩
   refine xP (b := !lY (fT w')) (fun c=>by rw[e] at c;cases c) (fun _=>?_)
   exact xP (b:=decide (w'.1<0)) (fun c=>by have:=xlx c;omega) (fun _=>h0 rfl)
  ·dsimp only[xgi,xes]
   rw[show(jn rows x).filter (fun _=>false)=[] from xkb.mpr fun _ _=>xjn]
   exact tQ rfl (hN _ rfl)
 rintro _ rfl
 obtain⟨⟨hz,_,_⟩,_⟩:=FR.corner hv
 obtain⟨t1,t2,_⟩:=vD hx
 refine yi (fun τ=>∃Q:List Nat,Q.length≤2∧(∀j∈Q,j<rows.length∧qw (wJ rows j) (plc v)=true)∧τ=[.fz (.tup (rows.map trR)),.fz (yT v),.fz (xcD rows x),.fz (.lst (Q.map fun j=>Tr.int ((0:Int)+(j:Nat))))]) ?_ (fun N hN=>?_)
 rotate_left
 ·refine⟨⟨by omega,by rw[ml];omega⟩,by rw[wL,ml];exact sqz (by omega),yw (l:=List.range (rows.map trR).length) (f:=fun j:Nat=>Tr.int ((0:Int)+(j:Nat))) (fun j=>!decide (((jn rows x).getD j (0,1)).1=0)) (fun j:Nat=>Tr.int ((0:Int)+(j:Nat))) (fun j hj N M h1 h0=>?_) (hN _ ⟨_,?_,fun j hj=>?_,rfl⟩)⟩
  ·have jl:j<(jn rows x).length:=by rw[g.1,←ml];exact xkT.mp hj
   have ge:(jn rows x)[j]? = some ((jn rows x).getD j (0,1)):=by rw[xkf,xki jl];rfl
   show gW (atT ((jn rows x).map fT) ((0:Int)+(j:Nat))) _
   rw[xjY,jf,xkl,ge]
   rw[xjY] at h1
   exact xP (b := !decide (((jn rows x).getD j (0,1)).1=0)) h1 h0
  ·refine xgo (a:=x.1.1) (b:=x.1.2) (List.nodup_range.filter _) fun j hj=>?_
   obtain⟨hj,nz⟩:=xkM.mp hj
   have jl:j<rows.length:=by rw[←ml];exact xkT.mp hj
   refine Classical.byContradiction fun no=>?_
   have z:=bJ G jl (fun e=>no (.inl e)) (fun e=>no (.inr e))
   rw[xkf,z] at nz
   simp at nz
  ·obtain⟨hj,nz⟩:=xkM.mp hj
   have jl:j<rows.length:=by rw[←ml];exact xkT.mp hj
   refine⟨jl,(rC hz).mpr ?_⟩
   by_cases e1:j=x.1.1
   ·rw[e1];exact((kO hz).mp t1).2
   ·by_cases e2:j=x.1.2
    ·rw[e2];exact((kO hz).mp t2).2
    ·have z:=bJ G jl e1 e2
     rw[xkf,z] at nz
     simp at nz
 rintro _ ⟨Q,q2,hQ,rfl⟩
 refine yi (fun τ=>∃x3:TV,τ=[.fz (.tup (rows.map trR)),.fz (yT v),.fz (xcD rows x),x3]) ?_ (fun N hN=>?_)
 rotate_left
 ·have ql:(Q.map fun j=>Tr.int ((0:Int)+(j:Nat))).length=Q.length:=xkv _
  refine xP (b:=decide (((Q.map fun j=>Tr.int ((0:Int)+(j:Nat))).length:Int)>2)) (fun c=>?_) (fun c=>?_)
  ·have c:=xlx c
   rw[ql] at c
   omega
  refine⟨by rw[ql];exact sqz (by omega),yw (fun _=>false) (fun j:Nat=>Tr.int ((0:Int)+(j:Nat))) (fun j hj N M h1 h0=>?_) ?_⟩
  ·obtain⟨jl,tj⟩:=hQ j hj
   show gW (atT (rows.map trR) ((0:Int)+(j:Nat))) _
   rw[xjY,jH jl]
   exact⟨wJ rows j,plc v,rfl,af.b200 hf _ (fH jl),FR.pk hv,xP (b := !qw (wJ rows j) (plc v)) (fun c=>by rw[tj] at c;cases c) (fun _=>h0 rfl)⟩
  ·dsimp only[xgi,xes]
   rw[show Q.filter (fun _=>false)=[] from xkb.mpr fun _ _=>xjn]
   exact tQ rfl (hN _ ⟨_,rfl⟩)
 rintro _ ⟨x3,rfl⟩
 refine⟨rows,jn rows x,rfl,WSx,?_⟩
 rw[if_pos (G.cut hf)]
 refine⟨⟨rfl,rfl,by show min 1 1≤64;decide⟩,?_⟩
 have e:teq (xbv (rows.zip (jn rows x))) (trR (sE rows x))=true:=by
  show teq (trR (sE rows x)) (trR (sE rows x))=true
  rw[cB];exact xlt rfl
 refine xP (b:=teq (xbv (rows.zip (jn rows x))) (trR (sE rows x))) (fun _=>?_) (fun c=>by rw[e] at c;cases c)
 refine⟨sE rows x,plc v,rfl,G.r200 hf,(FR.pk hv).1,(FR.pk hv).2,?_⟩
 show KK (.bl (!wD (sE rows x) (plc v)))
 rw[nk]
 exact k
end
end K19
namespace K19
open PySem L2 Trn
section
variable {P:Program} {w:World} {K:PySem.W.Frag} {mg:Str→Option Value} {base:Heap} {f:Addr} {fd:FuncData}
theorem xgR (B:Blt mg bn)(F:Fun K "law" "law" du f fd)(qJ:Own P w K mg base 2 "_law_state" ["_law_script", "_law_k"] (pW K))(qA:Own P w K mg base 2 "_law_field" ["_law_state_here"] (spT 0 true false xba))(x8:Own P w K mg base 1 "_law_take" ["_law_state_here", "_law_many"] (spT 1 true false xdk)){a_NoCorner:Addr}(yJ:∀base,Mod K mg base→Own P w K mg base 13 "_law_refused" ["_law_call"] (xdt P w K mg base 12 a_NoCorner 5))(vv:Own P w K mg base 7 "_law_corners" ["_law_rows"] (spT 1 false false nM))(q_:Own P w K mg base 6 "_law_right" ["_law_field_here", "_law_place", "_law_thing"] (spT 3 false false xax))(vm:Own P w K mg base 11 "corner_paper" ["field", "number"] (spT 2 false false ff))(ox_corner_paper__NoCorner:∀base,Mod K mg base→xd0 P w K mg base 11 "corner_paper" ["field", "number"] (spX 2 a_NoCorner gU)){c T:Addr}(hfd:fd.code=.ref c)(hT:xfU K=some (T,("law.<locals>.<lambda>" : Str)))(hTg:mainGlobals≠T)(hC:PySem.W.CodeHd base c T)(hB:base.BuiltinsAt mg T) :
  aM P w K mg base CX0 14 f fd ["_law_script"] (dR K):=by
 refine xa1 F hfd fb rfl (fun A outer s H E hr=>⟨_,_,
  (xc (zW PassesOwn.never rfl (u5 rfl (B.get "range") (yL (xG (xa3 rfl) rfl (B.get "max") xhh (xS xh (xG (xch rfl) rfl (B.get "min") xgj (xS (xG (yl K) rfl (B.get "len") zO (yL (pv 0))) xh)))))) (yq 1 fb.nd) (xc (yI 2 fb.nd (xm qJ hr (xS (pv 0) (pv 1))))
  (xc (wx (i:=3) fb.nd rfl (Or.inr rfl) (xm qA hr (yL (pv 2))))
  (xc (wx (i:=4) fb.nd rfl (Or.inr rfl) (zC (yf (N:=["_law_place"]) (tau:=[none]) (XN:=["_law_script", "_law_k", "_law_state_here", "_law_field_here", "_law_some", "_law_number", "_law_place", "_law_bad"]) (xs:=xf du) (by decide +kernel) rfl rfl) rfl (zS rfl) (yS K (xm vv hr (yL (pv 3)))) (fun _ _ _ _=>(yb (i:=0) (show(["_law_place"]:List Str).Nodup by decide +kernel) rfl (Or.inl rfl))) (fun _ _ _ _=>(wu (PW.pt (uA (xN (y8 hr.units) (y4 (yj K) (xn K 0) xh (fun _ _=>rfl)) xh (xO _)) (wV (xN (y8 hr.units) (y4 (yj K) (xn K 0) xh (fun _ _=>rfl)) xh (xO _))))))) (fun _ _ _ _=>(pv 0))))
  (xc (zW PassesOwn.never rfl (rQ K rfl (B.get "enumerate") (yL (pv 4))) (ym K (n:=2) rfl (xq (yq 5 fb.nd) (xq (yq 6 fb.nd) yh))) (xi (yR (zf (yO (xm q_ hr (xM (pv 3) (xS (pv 6) (xm vm hr (xS (pv 3) (pv 5)))))))) (xi (xE vF)) xZ)))
  (xc (wx (i:=7) fb.nd rfl (Or.inr rfl) (y4 (yj K) (yU (xM (xG (yl K) rfl (B.get "len") zO (yL (pv 4))) (xM (uu zg xh) (xM vF (xM j6 (xM xdX (xM (yd (yL xh)) (xM (xD xcv xh xh) (xM (yU (yL xh)) (xS (yd (xS xh xh)) xfK)))))))))) (xm x8 hr (xS (pv 2) xh)) (fun _ _=>rfl)))
  (xc (yR (xN (y8 hr.units) (aZ (N:=["_law_field_here", "_law_bad"]) (tau:=[3,7]) yJ hr (fun _ _ _ _ _ _ _ _ _ M hr'=>xcu (ox_corner_paper__NoCorner _ M) hr' lD (xS (pv 0) (pv 1))) (by kernel_rfl) rfl hC hTg hB rfl rfl rfl rfl (by repeat' constructor) (fun _=>rfl) (fun _ _ _=>rfl) (by decide) (by decide) rfl rfl rfl) (yU (yL xh)) (xO _)) (xi (xE vF)) xZ)
  (xi (yR (xN (y8 hr.units) (aZ (N:=["_law_field_here", "_law_some"]) (tau:=[3,4]) yJ hr (fun _ _ _ _ _ _ _ _ _ M hr'=>xcu (ox_corner_paper__NoCorner _ M) hr' lD (xS (pv 0) (xG (yl K) rfl (B.get "len") zO (yL (pv 1))))) (by kernel_rfl) rfl hC hTg hB rfl rfl rfl rfl (by repeat' constructor) (fun _=>rfl) (fun _ _ _=>rfl) (by decide) (by decide) rfl rfl rfl) (yU (yL xh)) (xO _)) (xi (xE vF)) xZ)))))))))
  (xi (xE vF))),
  (xj (yY (w4 (xV (yG xeS (xw xr (yG xfq (xw xdM xr)))))) xk.g (xj (xcj xa)
  (xj (xQ (zi (b:=true) ud))
  (xj (xQ (OkF.e (yx (yC (xt (xV xa))).c xk (zq (xH (xg wX (w_ xo xr) xr)) (xH (xg wX (w_ xo xr) xr))) xa)))
  (xj (yY (fO (xV xa)) (yn (xl xk (xl xk x_))).g (yr (yE (yB (xt (xJ xa (xw xa (xt (xw xa xa))))))) (xC qx) xT))
  (xj (xQ (w_ (uy (b:=true) (xJ (yG we (xV xa)) (xJ (zd xr) (xJ qx (xJ (xae (t:=Tr.non)) (xJ (xae (t:=Tr.str _)) (xJ (yc (b:=true) (xV xr)) (xJ (xg xgN xr xr) (xJ (uy (b:=true) (xV xr)) (xw (yc (b:=true) (xw xr xr)) xfc)))))))))) (zi (xV xr))))
  (xj (yr (xH (xg wX (OkF.e (ae hT (xw xa xa))) (uy (b:=true) (xV xr)))) (xC qx) xT)
  (yr (xH (xg wX (OkF.e (ae hT (xw xa (yG we (xV xa))))) (uy (b:=true) (xV xr)))) (xC qx) xT))))))))
  (xC qx)),fun ns hl=>?_⟩)
 refine yi (fun τ=>True) (fun τ _=>rfl) (fun N hN=>?_)
 refine kR _ (fun i τ=>∃(x1 x2 x3 x4 x5 x6 x7:TV),τ=[.sc ns,x1,x2,x3,x4,x5,x6,x7]) (fun KK h=>fun _=>⟨⟨by split<;>split<;>omega,by split<;>split<;>omega⟩,h⟩) ⟨_,_,_,_,_,_,_,rfl⟩ ?_ (fun τ _=>hN _ trivial)
 rintro i x τ N2 hx ⟨x1,x2,x3,x4,x5,x6,x7,rfl⟩ hN2
 have hi:=(xkk.mp hx).1
 rw[wL] at hi
 rw[tw hi] at hx
 cases hx
 dsimp only[xhd,xcO,eName,xhG]
 have hk:(0:Int)≤(0:Int)+i:=by omega
 generalize (0:Int)+i=kk at hk
 show xgX _ _ _ ([.sc ns,.fz (.int kk),x2,x3,x4,x5,x6,x7]:TSt)
 refine yi (fun τ=>τ=[.sc ns,.fz (.int kk),.st,x3,x4,x5,x6,x7]) ?_ (fun N hN=>⟨hk,hN _ rfl⟩)
 rintro _ rfl
 refine yi (fun τ=>∃rows,LF rows∧τ=[.sc ns,.fz (.int kk),.st,.fz (.tup (rows.map trR)),x4,x5,x6,x7]) ?_ (fun N hN=>⟨rfl,fun rows hF=>hN _ ⟨rows,hF,rfl⟩⟩)
 rintro _ ⟨rows,hF,rfl⟩
 have FR:=hF.fine
 have hf:=hF.isf
 have cl:=tJ FR
 have fl:((uo rows).filter brk).length≤900:=xld (xku _ _) cl
 have ml:(((uo rows).filter brk).map yT).length=((uo rows).filter brk).length:=xkv _
 refine yi (fun τ=>τ=[.sc ns,.fz (.int kk),.st,.fz (.tup (rows.map trR)),.fz (.lst (((uo rows).filter brk).map yT)),x5,x6,x7]) ?_ (fun N hN=>?_)
 rotate_left
 ·refine⟨rows,rfl,FR,by rw[xkv];exact sqz (by omega),?_⟩
  refine yw brk yT (fun v hv N M h1 h0=>?_) (hN _ rfl)
  unfold brk at h1 h0
  refine xP (b := !decide ((plc v).1.2=1)) (fun c=>h1 (by rw[c];rfl)) (fun c=>?_)
  rw[c,Bool.false_or] at h1 h0
  exact xP h1 h0
 rintro _ rfl
 refine yi (fun τ=>∃y5 y6:TV,τ=[.sc ns,.fz (.int kk),.st,.fz (.tup (rows.map trR)),.fz (.lst (((uo rows).filter brk).map yT)),y5,y6,x7]) ?_ (fun N hN=>?_)
 rotate_left
 ·refine kR (qy (((uo rows).filter brk).map yT)) (fun j τ=>∃y5 y6:TV,τ=[.sc ns,.fz (.int kk),.st,.fz (.tup (rows.map trR)),.fz (.lst (((uo rows).filter brk).map yT)),y5,y6,x7]) (fun KK h=>h) ⟨_,_,rfl⟩ ?_ (fun τ ⟨y5,y6,e⟩=>hN _ ⟨y5,y6,e⟩)
  rintro j y τ N3 hy ⟨y5,y6,rfl⟩ hN3
  rw[nK yT _ (0,0,0)] at hy
  obtain⟨n,hn,rfl⟩:=wB hy
  have nl:n<((uo rows).filter brk).length:=xkT.mp (xkR hn)
  have hv:((uo rows).filter brk)[n]? = some (((uo rows).filter brk).getD n (0,0,0)):=by rw[xkf,xki nl];rfl
  generalize ((uo rows).filter brk).getD n (0,0,0)=v at hv
  have mv:=(xkM.mp (xkR hv)).1
  exact⟨rfl,rows,n,v,rfl,hf,FR,hv,fun x hx G nk=>⟨rows,v,x,rfl,hf,FR,mv,hx,G,nk,hN3 _ ⟨_,_,rfl⟩⟩⟩
 rintro _ ⟨y5,y6,rfl⟩
 refine yi (fun τ=>∃t:Tr,xhT ((uo rows).filter brk).length t=true∧τ=[.sc ns,.fz (.int kk),.st,.fz (.tup (rows.map trR)),.fz (.lst (((uo rows).filter brk).map yT)),y5,y6,.fz t]) ?_ (fun N hN=>?_)
 rotate_left
 ·refine⟨⟨by decide,by decide,by decide⟩,tk (by decide),fun r h0 h1=>?_⟩
  have go:∀bad:List Tr,bad.length=10→(∀t∈bad,xhT ((uo rows).filter brk).length t=true)→gW (atT bad r) (fun t=>N ([.sc ns,.fz (.int kk),.st,.fz (.tup (rows.map trR)),.fz (.lst (((uo rows).filter brk).map yT)),y5,y6,.fz t]:TSt)):=fun bad bl hb=>by
   rw[xfZ h0]
   have:r.toNat<bad.length:=by omega
   rw[xki this]
   exact hN _ ⟨_,hb _ (xkp this),rfl⟩
  refine go _ rfl fun t ht=>?_
  simp only[xkJ,xkY,xly] at ht
  rcases ht with rfl | rfl | rfl | rfl | rfl | rfl | rfl | rfl | rfl | rfl
  ·exact xlt (.inr (by rw[ml];exact xjE _))
  ·show decide ((-1:Int)<0∨((((uo rows).filter brk).length:Nat):Int)≤-1)=true
   exact xlt (.inl (by decide))
  ·rfl
  ·rfl
  ·rfl
  ·rfl
  ·exact xlt (.inr (by rw[show(10:Int) ^ (29:Int).toNat=100000000000000000000000000000 from by decide];omega))
  ·rfl
  ·rfl
  ·rfl
 rintro _ ⟨t,bt,rfl⟩
 refine yi (fun τ=>τ=[.sc ns,.fz (.int kk),.st,.fz (.tup (rows.map trR)),.fz (.lst (((uo rows).filter brk).map yT)),y5,y6,.fz t]) ?_ (fun N hN=>⟨⟨_,rfl⟩,rfl,⟨rows,t,rfl,hf,FR,bt⟩,oH 5,hN _ rfl⟩)
 rintro _ rfl
 exact⟨⟨_,rfl⟩,rfl,⟨rows,_,rfl,hf,FR,xlt (.inr (by rw[ml];exact xjE _))⟩,oH 5,hN2 _ ⟨_,_,_,_,_,_,_,rfl⟩⟩
end
end K19
namespace K19
open PySem L2 Trn
theorem all_mk {l:PySem.W.OpenLaw}{w:World}{K:PySem.W.Frag}{h:Heap}{mg:Str→Option Value}{fa:Addr}{fn c T:Addr}{od an:Option Addr}{sl:Array (Option Value)}{oc kV dc pm ct:Value}{a_CutError a_NoField a_NoWeights a_NoCut a_Nothing a_NoTurn a_NoCorner a_NoNumber a_NoText a_NoLine a_NoDeed:Addr}{tc1:Tok}(X:K.In h)(G:h.Ns mainGlobals mg)(hfa:mg "law" = some (.ref fa))
  (d1:DD K "is_whole" gS) (d2:DD K "greatest_divisor" wC) (d3:DD K "beyond" rN) (d4:DD K "is_ahead" gL) (d5:DD K "turn_to" dP) (d6:DD K "is_near" j3) (d7:DD K "is_broken" jm) (d8:DD K "makes_one" jG) (d9:DD K "direction_of" vh) (d10:DD K "cut_of" r9) (d11:DD K "_law_cell_at" vp) (d12:DD K "_law_take" jq) (d13:DD K "_law_divisor" vj) (d14:DD K "_law_less" je) (d15:DD K "_law_whole" q8) (d16:DD K "are_whole" vO) (d17:DD K "lowest" rY) (d18:DD K "where_crossed" wI) (d19:DD K "from_least" qQ) (d20:DD K "furthest" gM) (d21:DD K "points_back" vZ) (d22:DD K "need_turn" ja) (d23:DD K "undivided" jo) (d24:DD K "next_least" ko) (d25:DD K "next_behind" vS) (d26:DD K "next_to_the_left" wN) (d27:DD K "whole_sum" uQ) (d28:DD K "_law_state" qB) (d29:DD K "_law_field" ux) (d30:DD K "_law_low" gO) (d31:DD K "_law_is_fraction" wH) (d32:DD K "plus" xb9) (d33:DD K "times" pE) (d34:DD K "places_of" qf) (d35:DD K "cut_piece" jE) (d36:DD K "is_row" mx) (d37:DD K "go_round" gC) (d38:DD K "is_direction" vz) (d39:DD K "between" se) (d40:DD K "sides_among" qi) (d41:DD K "sum_of" fF) (d42:DD K "_law_crossing" u4) (d43:DD K "_law_value" qP) (d44:DD K "_law_minus" qE) (d45:DD K "_law_times" qZ) (d46:DD K "_law_plus" jB) (d47:DD K "cut_down" gG) (d48:DD K "value" pY) (d49:DD K "is_field_row" vi) (d50:DD K "parts" cA) (d51:DD K "paper_of" gj) (d52:DD K "_law_keeps" qX) (d53:DD K "_law_cross" qK) (d54:DD K "_law_is_tight" uW) (d55:DD K "_law_summed" vR) (d56:DD K "piece_left" qU) (d57:DD K "keeps" pU) (d58:DD K "is_tight" gE) (d59:DD K "weights_towards" ue) (d60:DD K "_law_all_left" wq) (d61:DD K "_law_cut" gk) (d62:DD K "corners_left" vn) (d63:DD K "tight_numbers" wF) (d64:DD K "_law_ring" wW) (d65:DD K "_law_right" wk) (d66:DD K "is_field" vK) (d67:DD K "sides_at" hZ) (d68:DD K "_law_corners" uj) (d69:DD K "need_field" km) (d70:DD K "papers_at" ju) (d71:DD K "corners" sV) (d72:DD K "broken" fN) (d73:DD K "corner_paper" zX) (d74:DD K "_law_refused" uk)
  (aN:PySem.W.nsIn K mainGlobals "law" = some (some (.ref fn))) (ln:K.lookup fn=some ⟨oc,od,.func (PySem.W.fnOf "law" "law" (uC du) (zj du) (xf du) .none kV dc pm an (.ref c) ct),sl⟩) (cn:PySem.W.codeIn K (.ref c) "law" = true) (kn:PySem.W.keepIn K (.ref fn)=true)
  (z1:PySem.W.nsIn K mainGlobals "len" = some none)
  (z2:PySem.W.nsIn K mainGlobals "range" = some none)
  (z3:PySem.W.nsIn K mainGlobals "max" = some none)
  (z4:PySem.W.nsIn K mainGlobals "min" = some none)
  (z5:PySem.W.nsIn K mainGlobals "abs" = some none)
  (z6:PySem.W.nsIn K mainGlobals "isinstance" = some none)
  (z7:PySem.W.nsIn K mainGlobals "tuple" = some none)
  (z8:PySem.W.nsIn K mainGlobals "list" = some none)
  (z9:PySem.W.nsIn K mainGlobals "int" = some none)
  (z10:PySem.W.nsIn K mainGlobals "bool" = some none)
  (z11:PySem.W.nsIn K mainGlobals "str" = some none)
  (z12:PySem.W.nsIn K mainGlobals "dict" = some none)
  (z13:PySem.W.nsIn K mainGlobals "all" = some none)
  (z14:PySem.W.nsIn K mainGlobals "zip" = some none)
  (z15:PySem.W.nsIn K mainGlobals "enumerate" = some none)
  (z16:PySem.W.nsIn K mainGlobals "ValueError" = some none)
  (y1:PySem.W.nsIn K mainGlobals "FAR" = some (some (.int 60001 tc1)))
  (k_CutError:PySem.W.nsIn K mainGlobals "CutError" = some (some (.ref a_CutError)))
  (k_NoField:PySem.W.nsIn K mainGlobals "NoField" = some (some (.ref a_NoField)))
  (k_NoWeights:PySem.W.nsIn K mainGlobals "NoWeights" = some (some (.ref a_NoWeights)))
  (k_NoCut:PySem.W.nsIn K mainGlobals "NoCut" = some (some (.ref a_NoCut)))
  (k_Nothing:PySem.W.nsIn K mainGlobals "Nothing" = some (some (.ref a_Nothing)))
  (k_NoTurn:PySem.W.nsIn K mainGlobals "NoTurn" = some (some (.ref a_NoTurn)))
  (k_NoCorner:PySem.W.nsIn K mainGlobals "NoCorner" = some (some (.ref a_NoCorner)))
  (k_NoNumber:PySem.W.nsIn K mainGlobals "NoNumber" = some (some (.ref a_NoNumber)))
  (k_NoText:PySem.W.nsIn K mainGlobals "NoText" = some (some (.ref a_NoText)))
  (k_NoLine:PySem.W.nsIn K mainGlobals "NoLine" = some (some (.ref a_NoLine)))
  (k_NoDeed:PySem.W.nsIn K mainGlobals "NoDeed" = some (some (.ref a_NoDeed)))
  (Z_NoCorner:lZ K a_NoCorner) (e_NoCorner:PySem.W.exmOne K (.ref a_NoCorner) (.ref a_CutError)=some true) (v_NoCorner:PySem.W.kitOne K (.ref a_NoCorner) (.type "ValueError")=some true) (x_NoCorner:PySem.W.excIn K a_NoCorner xiO "ValueError.__new__" = true)
  (i_NoCorner_NoField:PySem.W.kitOne K (.ref a_NoCorner) (.ref a_NoField)=some (decide (5=0))) (i_NoCorner_NoWeights:PySem.W.kitOne K (.ref a_NoCorner) (.ref a_NoWeights)=some (decide (5=1))) (i_NoCorner_NoCut:PySem.W.kitOne K (.ref a_NoCorner) (.ref a_NoCut)=some (decide (5=2))) (i_NoCorner_Nothing:PySem.W.kitOne K (.ref a_NoCorner) (.ref a_Nothing)=some (decide (5=3))) (i_NoCorner_NoTurn:PySem.W.kitOne K (.ref a_NoCorner) (.ref a_NoTurn)=some (decide (5=4))) (i_NoCorner_NoCorner:PySem.W.kitOne K (.ref a_NoCorner) (.ref a_NoCorner)=some (decide (5=5))) (i_NoCorner_NoNumber:PySem.W.kitOne K (.ref a_NoCorner) (.ref a_NoNumber)=some (decide (5=6))) (i_NoCorner_NoText:PySem.W.kitOne K (.ref a_NoCorner) (.ref a_NoText)=some (decide (5=7))) (i_NoCorner_NoLine:PySem.W.kitOne K (.ref a_NoCorner) (.ref a_NoLine)=some (decide (5=8))) (i_NoCorner_NoDeed:PySem.W.kitOne K (.ref a_NoCorner) (.ref a_NoDeed)=some (decide (5=9)))
  (hct:xfU K=some (T,("law.<locals>.<lambda>" : Str))) (hTg:mainGlobals≠T) (cC:∀h,K.In h→PySem.W.CodeHd h c T) (bA:∀h,Mod K mg h→h.BuiltinsAt mg T) :
  ∃fd:FuncData,(∀(s:Shared) (v:Value),BindsTo s fd ⟨[v],[]⟩ [("_law_script", v)])∧∀base:Heap,Mod K mg base→aM l.prog w K mg base CX0 14 fa fd ["_law_script"] (dR K):=by
 have e:=hfa.symm.trans (PySem.W.mg_of X G aN)
 cases e
 obtain⟨f1,e1,a1,F1⟩:=d1
 obtain⟨f2,e2,a2,F2⟩:=d2
 obtain⟨f3,e3,a3,F3⟩:=d3
 obtain⟨f4,e4,a4,F4⟩:=d4
 obtain⟨f5,e5,a5,F5⟩:=d5
 obtain⟨f6,e6,a6,F6⟩:=d6
 obtain⟨f7,e7,a7,F7⟩:=d7
 obtain⟨f8,e8,a8,F8⟩:=d8
 obtain⟨f9,e9,a9,F9⟩:=d9
 obtain⟨f10,e10,a10,F10⟩:=d10
 obtain⟨f11,e11,a11,F11⟩:=d11
 obtain⟨f12,e12,a12,F12⟩:=d12
 obtain⟨f13,e13,a13,F13⟩:=d13
 obtain⟨f14,e14,a14,F14⟩:=d14
 obtain⟨f15,e15,a15,F15⟩:=d15
 obtain⟨f16,e16,a16,F16⟩:=d16
 obtain⟨f17,e17,a17,F17⟩:=d17
 obtain⟨f18,e18,a18,F18⟩:=d18
 obtain⟨f19,e19,a19,F19⟩:=d19
 obtain⟨f20,e20,a20,F20⟩:=d20
 obtain⟨f21,e21,a21,F21⟩:=d21
 obtain⟨f22,e22,a22,F22⟩:=d22
 obtain⟨f23,e23,a23,F23⟩:=d23
 obtain⟨f24,e24,a24,F24⟩:=d24
 obtain⟨f25,e25,a25,F25⟩:=d25
 obtain⟨f26,e26,a26,F26⟩:=d26
 obtain⟨f27,e27,a27,F27⟩:=d27
 obtain⟨f28,e28,a28,F28⟩:=d28
 obtain⟨f29,e29,a29,F29⟩:=d29
 obtain⟨f30,e30,a30,F30⟩:=d30
 obtain⟨f31,e31,a31,F31⟩:=d31
 obtain⟨f32,e32,a32,F32⟩:=d32
 obtain⟨f33,e33,a33,F33⟩:=d33
 obtain⟨f34,e34,a34,F34⟩:=d34
 obtain⟨f35,e35,a35,F35⟩:=d35
 obtain⟨f36,e36,a36,F36⟩:=d36
 obtain⟨f37,e37,a37,F37⟩:=d37
 obtain⟨f38,e38,a38,F38⟩:=d38
 obtain⟨f39,e39,a39,F39⟩:=d39
 obtain⟨f40,e40,a40,F40⟩:=d40
 obtain⟨f41,e41,a41,F41⟩:=d41
 obtain⟨f42,e42,a42,F42⟩:=d42
 obtain⟨f43,e43,a43,F43⟩:=d43
 obtain⟨f44,e44,a44,F44⟩:=d44
 obtain⟨f45,e45,a45,F45⟩:=d45
 obtain⟨f46,e46,a46,F46⟩:=d46
 obtain⟨f47,e47,a47,F47⟩:=d47
 obtain⟨f48,e48,a48,F48⟩:=d48
 obtain⟨f49,e49,a49,F49⟩:=d49
 obtain⟨f50,e50,a50,F50⟩:=d50
 obtain⟨f51,e51,a51,F51⟩:=d51
 obtain⟨f52,e52,a52,F52⟩:=d52
 obtain⟨f53,e53,a53,F53⟩:=d53
 obtain⟨f54,e54,a54,F54⟩:=d54
 obtain⟨f55,e55,a55,F55⟩:=d55
 obtain⟨f56,e56,a56,F56⟩:=d56
 obtain⟨f57,e57,a57,F57⟩:=d57
 obtain⟨f58,e58,a58,F58⟩:=d58
 obtain⟨f59,e59,a59,F59⟩:=d59
 obtain⟨f60,e60,a60,F60⟩:=d60
 obtain⟨f61,e61,a61,F61⟩:=d61
 obtain⟨f62,e62,a62,F62⟩:=d62
 obtain⟨f63,e63,a63,F63⟩:=d63
 obtain⟨f64,e64,a64,F64⟩:=d64
 obtain⟨f65,e65,a65,F65⟩:=d65
 obtain⟨f66,e66,a66,F66⟩:=d66
 obtain⟨f67,e67,a67,F67⟩:=d67
 obtain⟨f68,e68,a68,F68⟩:=d68
 obtain⟨f69,e69,a69,F69⟩:=d69
 obtain⟨f70,e70,a70,F70⟩:=d70
 obtain⟨f71,e71,a71,F71⟩:=d71
 obtain⟨f72,e72,a72,F72⟩:=d72
 obtain⟨f73,e73,a73,F73⟩:=d73
 obtain⟨f74,e74,a74,F74⟩:=d74
 have FL:=xeG (st:=du) ln cn kn
 have b1:=zr (p1 := "thing") F1 fun _ _ _ _ _ _ _=>rfl
 have b2:=yy (p1 := "one") (p2 := "other") F2 fun _ _ _ _ _ _ _ _=>rfl
 have b3:=yy (p1 := "row") (p2 := "corner") F3 fun _ _ _ _ _ _ _ _=>rfl
 have b4:=yy (p1 := "one") (p2 := "other") F4 fun _ _ _ _ _ _ _ _=>rfl
 have b5:=yy (p1 := "one") (p2 := "other") F5 fun _ _ _ _ _ _ _ _=>rfl
 have b6:=zr (p1 := "place") F6 fun _ _ _ _ _ _ _=>rfl
 have b7:=zr (p1 := "place") F7 fun _ _ _ _ _ _ _=>rfl
 have b8:=yy (p1 := "a") (p2 := "b") F8 fun _ _ _ _ _ _ _ _=>rfl
 have b9:=zr (p1 := "row") F9 fun _ _ _ _ _ _ _=>rfl
 have b10:=zr (p1 := "totals") F10 fun _ _ _ _ _ _ _=>rfl
 have b11:=yy (p1 := "_law_script") (p2 := "_law_k") F11 fun _ _ _ _ _ _ _ _=>rfl
 have b12:=yy (p1 := "_law_state_here") (p2 := "_law_many") F12 fun _ _ _ _ _ _ _ _=>rfl
 have b13:=yy (p1 := "_law_one") (p2 := "_law_other") F13 fun _ _ _ _ _ _ _ _=>rfl
 have b14:=yy (p1 := "_law_one") (p2 := "_law_other") F14 fun _ _ _ _ _ _ _ _=>rfl
 have b15:=zr (p1 := "_law_thing") F15 fun _ _ _ _ _ _ _=>rfl
 have b16:=zr (p1 := "things") F16 fun _ _ _ _ _ _ _=>rfl
 have b17:=yy (p1 := "top") (p2 := "bottom") F17 fun _ _ _ _ _ _ _ _=>rfl
 have b18:=j_ (p1 := "row") (p2 := "one") (p3 := "other") F18 fun _ _ _ _ _ _ _ _ _=>rfl
 have b19:=zr (p1 := "piece") F19 fun _ _ _ _ _ _ _=>rfl
 have b20:=j_ (p1 := "first") (p2 := "rows") (p3 := "sign") F20 fun _ _ _ _ _ _ _ _ _=>rfl
 have b21:=yy (p1 := "first") (p2 := "rows") F21 fun _ _ _ _ _ _ _ _=>rfl
 have b22:=yy (p1 := "one") (p2 := "other") F22 fun _ _ _ _ _ _ _ _=>rfl
 have b23:=zr (p1 := "direction") F23 fun _ _ _ _ _ _ _=>rfl
 have b24:=yy (p1 := "first") (p2 := "last") F24 fun _ _ _ _ _ _ _ _=>rfl
 have b25:=j_ (p1 := "before") (p2 := "here") (p3 := "last") F25 fun _ _ _ _ _ _ _ _ _=>rfl
 have b26:=j_ (p1 := "rows") (p2 := "numbers") (p3 := "number") F26 fun _ _ _ _ _ _ _ _ _=>rfl
 have b27:=yy (p1 := "rows") (p2 := "weights") F27 fun _ _ _ _ _ _ _ _=>rfl
 have b28:=yy (p1 := "_law_script") (p2 := "_law_k") F28 fun _ _ _ _ _ _ _ _=>rfl
 have b29:=zr (p1 := "_law_state_here") F29 fun _ _ _ _ _ _ _=>rfl
 have b30:=yy (p1 := "_law_top") (p2 := "_law_bottom") F30 fun _ _ _ _ _ _ _ _=>rfl
 have b31:=zr (p1 := "_law_thing") F31 fun _ _ _ _ _ _ _=>rfl
 have b32:=yy (p1 := "one") (p2 := "other") F32 fun _ _ _ _ _ _ _ _=>rfl
 have b33:=yy (p1 := "whole") (p2 := "fraction") F33 fun _ _ _ _ _ _ _ _=>rfl
 have b34:=zr (p1 := "piece") F34 fun _ _ _ _ _ _ _=>rfl
 have b35:=yy (p1 := "piece") (p2 := "row") F35 fun _ _ _ _ _ _ _ _=>rfl
 have b36:=zr (p1 := "thing") F36 fun _ _ _ _ _ _ _=>rfl
 have b37:=zr (p1 := "rows") F37 fun _ _ _ _ _ _ _=>rfl
 have b38:=zr (p1 := "thing") F38 fun _ _ _ _ _ _ _=>rfl
 have b39:=yy (p1 := "one") (p2 := "other") F39 fun _ _ _ _ _ _ _ _=>rfl
 have b40:=yy (p1 := "rows") (p2 := "numbers") F40 fun _ _ _ _ _ _ _ _=>rfl
 have b41:=yy (p1 := "rows") (p2 := "weights") F41 fun _ _ _ _ _ _ _ _=>rfl
 have b42:=yy (p1 := "_law_one") (p2 := "_law_other") F42 fun _ _ _ _ _ _ _ _=>rfl
 have b43:=yy (p1 := "_law_row") (p2 := "_law_place") F43 fun _ _ _ _ _ _ _ _=>rfl
 have b44:=yy (p1 := "_law_one") (p2 := "_law_other") F44 fun _ _ _ _ _ _ _ _=>rfl
 have b45:=yy (p1 := "_law_one") (p2 := "_law_other") F45 fun _ _ _ _ _ _ _ _=>rfl
 have b46:=yy (p1 := "_law_one") (p2 := "_law_other") F46 fun _ _ _ _ _ _ _ _=>rfl
 have b47:=yy (p1 := "piece") (p2 := "rows") F47 fun _ _ _ _ _ _ _ _=>rfl
 have b48:=yy (p1 := "row") (p2 := "place") F48 fun _ _ _ _ _ _ _ _=>rfl
 have b49:=zr (p1 := "thing") F49 fun _ _ _ _ _ _ _=>rfl
 have b50:=j_ (p1 := "one") (p2 := "other") (p3 := "thing") F50 fun _ _ _ _ _ _ _ _ _=>rfl
 have b51:=yy (p1 := "field") (p2 := "weights") F51 fun _ _ _ _ _ _ _ _=>rfl
 have b52:=yy (p1 := "_law_row") (p2 := "_law_place") F52 fun _ _ _ _ _ _ _ _=>rfl
 have b53:=j_ (p1 := "_law_one") (p2 := "_law_other") (p3 := "_law_third") F53 fun _ _ _ _ _ _ _ _ _=>rfl
 have b54:=yy (p1 := "_law_row") (p2 := "_law_place") F54 fun _ _ _ _ _ _ _ _=>rfl
 have b55:=yy (p1 := "_law_rows") (p2 := "_law_weights") F55 fun _ _ _ _ _ _ _ _=>rfl
 have b56:=zr (p1 := "rows") F56 fun _ _ _ _ _ _ _=>rfl
 have b57:=yy (p1 := "row") (p2 := "place") F57 fun _ _ _ _ _ _ _ _=>rfl
 have b58:=yy (p1 := "row") (p2 := "place") F58 fun _ _ _ _ _ _ _ _=>rfl
 have b59:=j_ (p1 := "field") (p2 := "pair") (p3 := "direction") F59 fun _ _ _ _ _ _ _ _ _=>rfl
 have b60:=j_ (p1 := "_law_here") (p2 := "_law_place") (p3 := "_law_some") F60 fun _ _ _ _ _ _ _ _ _=>rfl
 have b61:=yy (p1 := "_law_rows") (p2 := "_law_weights") F61 fun _ _ _ _ _ _ _ _=>rfl
 have b62:=zr (p1 := "rows") F62 fun _ _ _ _ _ _ _=>rfl
 have b63:=yy (p1 := "rows") (p2 := "place") F63 fun _ _ _ _ _ _ _ _=>rfl
 have b64:=zr (p1 := "_law_places") F64 fun _ _ _ _ _ _ _=>rfl
 have b65:=j_ (p1 := "_law_field_here") (p2 := "_law_place") (p3 := "_law_thing") F65 fun _ _ _ _ _ _ _ _ _=>rfl
 have b66:=zr (p1 := "thing") F66 fun _ _ _ _ _ _ _=>rfl
 have b67:=yy (p1 := "field") (p2 := "place") F67 fun _ _ _ _ _ _ _ _=>rfl
 have b68:=zr (p1 := "_law_rows") F68 fun _ _ _ _ _ _ _=>rfl
 have b69:=zr (p1 := "thing") F69 fun _ _ _ _ _ _ _=>rfl
 have b70:=yy (p1 := "field") (p2 := "place") F70 fun _ _ _ _ _ _ _ _=>rfl
 have b71:=zr (p1 := "field") F71 fun _ _ _ _ _ _ _=>rfl
 have b72:=zr (p1 := "field") F72 fun _ _ _ _ _ _ _=>rfl
 have b73:=yy (p1 := "field") (p2 := "number") F73 fun _ _ _ _ _ _ _ _=>rfl
 have b74:=zr (p1 := "_law_call") F74 fun _ _ _ _ _ _ _=>rfl
 have B:Blt mg bn:=⟨fun x hx=>by
  simp only[bn,xkJ,xkY,xly] at hx
  rcases hx with rfl | rfl | rfl | rfl | rfl | rfl | rfl | rfl | rfl | rfl | rfl | rfl | rfl | rfl | rfl | rfl
  ·exact PySem.W.mg_none_of X G z1
  ·exact PySem.W.mg_none_of X G z2
  ·exact PySem.W.mg_none_of X G z3
  ·exact PySem.W.mg_none_of X G z4
  ·exact PySem.W.mg_none_of X G z5
  ·exact PySem.W.mg_none_of X G z6
  ·exact PySem.W.mg_none_of X G z7
  ·exact PySem.W.mg_none_of X G z8
  ·exact PySem.W.mg_none_of X G z9
  ·exact PySem.W.mg_none_of X G z10
  ·exact PySem.W.mg_none_of X G z11
  ·exact PySem.W.mg_none_of X G z12
  ·exact PySem.W.mg_none_of X G z13
  ·exact PySem.W.mg_none_of X G z14
  ·exact PySem.W.mg_none_of X G z15
  ·exact PySem.W.mg_none_of X G z16⟩
 have az:=PySem.W.mg_of X G y1
 have m_CutError:=PySem.W.mg_of X G k_CutError
 have m_NoField:=PySem.W.mg_of X G k_NoField
 have m_NoWeights:=PySem.W.mg_of X G k_NoWeights
 have m_NoCut:=PySem.W.mg_of X G k_NoCut
 have m_Nothing:=PySem.W.mg_of X G k_Nothing
 have m_NoTurn:=PySem.W.mg_of X G k_NoTurn
 have m_NoCorner:=PySem.W.mg_of X G k_NoCorner
 have m_NoNumber:=PySem.W.mg_of X G k_NoNumber
 have m_NoText:=PySem.W.mg_of X G k_NoText
 have m_NoLine:=PySem.W.mg_of X G k_NoLine
 have m_NoDeed:=PySem.W.mg_of X G k_NoDeed
 refine⟨PySem.W.fnOf "law" "law" (uC du) (zj du) (xf du) .none kV dc pm an (.ref c) ct,fun s v=>.of_eq rfl,fun base M=>?_⟩
 have zM:=fun z (M:Mod K mg z)=>cT (P:=l.prog) (w:=w) (base:=z) B F1 (PySem.W.mg_of X G a1) b1
 have xU:=fun z (M:Mod K mg z)=>ji (P:=l.prog) (w:=w) (base:=z) B F2 (PySem.W.mg_of X G a2) b2
 have uI:=fun z (M:Mod K mg z)=>xaT (P:=l.prog) (w:=w) (base:=z) B F3 (PySem.W.mg_of X G a3) b3
 have gJ:=fun z (M:Mod K mg z)=>cQ (P:=l.prog) (w:=w) (base:=z) B F4 (PySem.W.mg_of X G a4) b4
 have x9:=fun z (M:Mod K mg z)=>xac (P:=l.prog) (w:=w) (base:=z) B F5 (PySem.W.mg_of X G a5) b5
 have dj:=fun z (M:Mod K mg z)=>xap (P:=l.prog) (w:=w) (base:=z) B F6 (PySem.W.mg_of X G a6) b6
 have jr:=fun z (M:Mod K mg z)=>bT (P:=l.prog) (w:=w) (base:=z) B F7 (PySem.W.mg_of X G a7) b7
 have jk:=fun z (M:Mod K mg z)=>nB (P:=l.prog) (w:=w) (base:=z) B F8 (PySem.W.mg_of X G a8) b8
 have yM:=fun z (M:Mod K mg z)=>sU (P:=l.prog) (w:=w) (base:=z) B F9 (PySem.W.mg_of X G a9) b9
 have r_:=fun z (M:Mod K mg z)=>xb1 (P:=l.prog) (w:=w) (base:=z) B F10 (PySem.W.mg_of X G a10) b10
 have vq:=fun z (M:Mod K mg z)=>fX (P:=l.prog) (w:=w) (base:=z) B F11 (PySem.W.mg_of X G a11) b11
 have x8:=fun(base:Heap) (M:Mod K mg base)=>xbg (nA (P:=l.prog) (w:=w) (base:=base) F12 (PySem.W.mg_of X G a12) b12)
 have zz:=fun z (M:Mod K mg z)=>sF (P:=l.prog) (w:=w) (base:=z) B F13 (PySem.W.mg_of X G a13) b13
 have vN:=fun z (M:Mod K mg z)=>bF (P:=l.prog) (w:=w) (base:=z) B F14 (PySem.W.mg_of X G a14) b14
 have va:=fun z (M:Mod K mg z)=>r6 (P:=l.prog) (w:=w) (base:=z) B F15 (PySem.W.mg_of X G a15) b15
 have w5:=fun z (M:Mod K mg z)=>bS (P:=l.prog) (w:=w) (base:=z) B F16 (PySem.W.mg_of X G a16) b16 (zM z M)
 have yW:=fun z (M:Mod K mg z)=>xbB (P:=l.prog) (w:=w) (base:=z) B F17 (PySem.W.mg_of X G a17) b17 (xU z M)
 have uR:=fun z (M:Mod K mg z)=>fu (P:=l.prog) (w:=w) (base:=z) B F18 (PySem.W.mg_of X G a18) b18 (xU z M) (uI z M)
 have qF:=fun z (M:Mod K mg z)=>rS (P:=l.prog) (w:=w) (base:=z) B F19 (PySem.W.mg_of X G a19) b19 (gJ z M)
 have kI:=fun z (M:Mod K mg z)=>cV (P:=l.prog) (w:=w) (base:=z) B F20 (PySem.W.mg_of X G a20) b20 (x9 z M)
 have v8:=fun z (M:Mod K mg z)=>aj (P:=l.prog) (w:=w) (base:=z) B F21 (PySem.W.mg_of X G a21) b21 (x9 z M)
 have wZ:=fun z (M:Mod K mg z)=>mM (P:=l.prog) (w:=w) (base:=z) B F22 (PySem.W.mg_of X G a22) b22 (x9 z M)
 have vT:=fun z (M:Mod K mg z)=>nU (P:=l.prog) (w:=w) (base:=z) B F23 (PySem.W.mg_of X G a23) b23 (xU z M)
 have qM:=fun z (M:Mod K mg z)=>rH (P:=l.prog) (w:=w) (base:=z) B F24 (PySem.W.mg_of X G a24) b24 (jk z M) (x9 z M)
 have qo:=fun z (M:Mod K mg z)=>ai (P:=l.prog) (w:=w) (base:=z) B F25 (PySem.W.mg_of X G a25) b25 (x9 z M)
 have wM:=fun z (M:Mod K mg z)=>jb (P:=l.prog) (w:=w) (base:=z) B F26 (PySem.W.mg_of X G a26) b26 (x9 z M)
 have js:=fun z (M:Mod K mg z)=>bW (P:=l.prog) (w:=w) (base:=z) B F27 (PySem.W.mg_of X G a27) b27 (xU z M)
 have qJ:=fun z (M:Mod K mg z)=>tY (P:=l.prog) (w:=w) (base:=z) F28 (PySem.W.mg_of X G a28) b28 (vq z M)
 have qA:=fun z (M:Mod K mg z)=>tO (P:=l.prog) (w:=w) (base:=z) B F29 (PySem.W.mg_of X G a29) b29 (x8 z M)
 have yA:=fun z (M:Mod K mg z)=>pB (P:=l.prog) (w:=w) (base:=z) B F30 (PySem.W.mg_of X G a30) b30 (zz z M)
 have wG:=fun z (M:Mod K mg z)=>jC (P:=l.prog) (w:=w) (base:=z) B F31 (PySem.W.mg_of X G a31) b31 (va z M) (zz z M)
 have xaH:=fun z (M:Mod K mg z)=>xe2 (P:=l.prog) (w:=w) (base:=z) B F32 (PySem.W.mg_of X G a32) b32 (yW z M)
 have my:=fun z (M:Mod K mg z)=>xdb (P:=l.prog) (w:=w) (base:=z) B F33 (PySem.W.mg_of X G a33) b33 (yW z M)
 have k8:=fun z (M:Mod K mg z)=>mY (P:=l.prog) (w:=w) (base:=z) B F34 (PySem.W.mg_of X G a34) b34 (yW z M) (qF z M)
 have jw:=fun z (M:Mod K mg z)=>bK (P:=l.prog) (w:=w) (base:=z) B F35 (PySem.W.mg_of X G a35) b35 (uR z M) (uI z M)
 have tP:=fun z (M:Mod K mg z)=>xbU (P:=l.prog) (w:=w) (base:=z) B F36 (PySem.W.mg_of X G a36) b36 (w5 z M)
 have gK:=fun z (M:Mod K mg z)=>p7 (P:=l.prog) (w:=w) (base:=z) B F37 (PySem.W.mg_of X G a37) b37 (kI z M) (v8 z M) (x9 z M)
 have vx:=fun z (M:Mod K mg z)=>sH (P:=l.prog) (w:=w) (base:=z) B F38 (PySem.W.mg_of X G a38) b38 (w5 z M)
 have sS:=fun z (M:Mod K mg z)=>lS (P:=l.prog) (w:=w) (base:=z) B F39 (PySem.W.mg_of X G a39) b39 (wZ z M) (vT z M) (qM z M) (qo z M)
 have vY:=fun z (M:Mod K mg z)=>ay (P:=l.prog) (w:=w) (base:=z) B F40 (PySem.W.mg_of X G a40) b40 (wM z M)
 have t4:=fun z (M:Mod K mg z)=>xci (P:=l.prog) (w:=w) (base:=z) B F41 (PySem.W.mg_of X G a41) b41 (js z M) (yW z M)
 have uX:=fun z (M:Mod K mg z)=>fv (P:=l.prog) (w:=w) (base:=z) B F42 (PySem.W.mg_of X G a42) b42 (yA z M)
 have wa:=fun z (M:Mod K mg z)=>mw (P:=l.prog) (w:=w) (base:=z) B F43 (PySem.W.mg_of X G a43) b43 (yA z M)
 have zG:=fun z (M:Mod K mg z)=>mh (P:=l.prog) (w:=w) (base:=z) B F44 (PySem.W.mg_of X G a44) b44 (yA z M)
 have zF:=fun z (M:Mod K mg z)=>tX (P:=l.prog) (w:=w) (base:=z) B F45 (PySem.W.mg_of X G a45) b45 (yA z M)
 have jj:=fun z (M:Mod K mg z)=>mL (P:=l.prog) (w:=w) (base:=z) B F46 (PySem.W.mg_of X G a46) b46 (yA z M)
 have gH:=fun z (M:Mod K mg z)=>pJ (P:=l.prog) (w:=w) (base:=z) B F47 (PySem.W.mg_of X G a47) b47 (jw z M)
 have gR:=fun z (M:Mod K mg z)=>xdq (P:=l.prog) (w:=w) (base:=z) B F48 (PySem.W.mg_of X G a48) b48 (xaH z M) (my z M)
 have vt:=fun z (M:Mod K mg z)=>sG (P:=l.prog) (w:=w) (base:=z) B F49 (PySem.W.mg_of X G a49) b49 (tP z M)
 have pK:=fun z (M:Mod K mg z)=>xcM (P:=l.prog) (w:=w) (base:=z) B F50 (PySem.W.mg_of X G a50) b50 (wZ z M) (vx z M) (x9 z M) (yW z M)
 have gz:=fun z (M:Mod K mg z)=>pI (P:=l.prog) (w:=w) (base:=z) B F51 (PySem.W.mg_of X G a51) b51 (r_ z M) (t4 z M)
 have wg:=fun z (M:Mod K mg z)=>rZ (P:=l.prog) (w:=w) (base:=z) B F52 (PySem.W.mg_of X G a52) b52 (wa z M)
 have qC:=fun z (M:Mod K mg z)=>tD (P:=l.prog) (w:=w) (base:=z) B F53 (PySem.W.mg_of X G a53) b53 (zF z M) (zG z M)
 have uS:=fun z (M:Mod K mg z)=>fD (P:=l.prog) (w:=w) (base:=z) B F54 (PySem.W.mg_of X G a54) b54 (wa z M)
 have qp:=fun z (M:Mod K mg z)=>ak (P:=l.prog) (w:=w) (base:=z) B F55 (PySem.W.mg_of X G a55) b55 (jj z M) (zF z M)
 have qT:=fun z (M:Mod K mg z)=>tI (P:=l.prog) (w:=w) (base:=z) B F56 (PySem.W.mg_of X G a56) b56 az (gH z M)
 have cD:=fun z (M:Mod K mg z)=>xcZ (P:=l.prog) (w:=w) (base:=z) B F57 (PySem.W.mg_of X G a57) b57 (gR z M)
 have hX:=fun z (M:Mod K mg z)=>pS (P:=l.prog) (w:=w) (base:=z) B F58 (PySem.W.mg_of X G a58) b58 (gR z M)
 have uc:=fun z (M:Mod K mg z)=>jU (P:=l.prog) (w:=w) (base:=z) B F59 (PySem.W.mg_of X G a59) b59 (pK z M) (yM z M)
 have uY:=fun z (M:Mod K mg z)=>ft (P:=l.prog) (w:=w) (base:=z) B F60 (PySem.W.mg_of X G a60) b60 (qC z M)
 have gA:=fun z (M:Mod K mg z)=>p8 (P:=l.prog) (w:=w) (base:=z) B F61 (PySem.W.mg_of X G a61) b61 (qp z M)
 have zy:=fun z (M:Mod K mg z)=>sf (P:=l.prog) (w:=w) (base:=z) B F62 (PySem.W.mg_of X G a62) b62 (k8 z M) (qT z M)
 have uT:=fun z (M:Mod K mg z)=>fC (P:=l.prog) (w:=w) (base:=z) B F63 (PySem.W.mg_of X G a63) b63 (hX z M)
 have jv:=fun z (M:Mod K mg z)=>mW (P:=l.prog) (w:=w) (base:=z) B F64 (PySem.W.mg_of X G a64) b64 (vN z M) (uY z M)
 have q_:=fun z (M:Mod K mg z)=>mz (P:=l.prog) (w:=w) (base:=z) B F65 (PySem.W.mg_of X G a65) b65 (gA z M) (wg z M) (uS z M) (wG z M)
 have h_:=fun z (M:Mod K mg z)=>cW (P:=l.prog) (w:=w) (base:=z) B F66 (PySem.W.mg_of X G a66) b66 (gK z M) (dj z M) (zy z M) (vt z M)
 have gy:=fun z (M:Mod K mg z)=>pP (P:=l.prog) (w:=w) (base:=z) B F67 (PySem.W.mg_of X G a67) b67 (vY z M) (uT z M)
 have vv:=fun z (M:Mod K mg z)=>dM (P:=l.prog) (w:=w) (base:=z) B F68 (PySem.W.mg_of X G a68) b68 (jv z M) (uX z M) (wg z M)
 have kj:=fun z (M:Mod K mg z)=>tR (P:=l.prog) (w:=w) (base:=z) B F69 (PySem.W.mg_of X G a69) b69 (h_ z M)
 have k_:=fun z (M:Mod K mg z)=>nh (P:=l.prog) (w:=w) (base:=z) B F70 (PySem.W.mg_of X G a70) b70 (gy z M) (sS z M) (yM z M) (gz z M) (uc z M)
 have sy:=fun z (M:Mod K mg z)=>lJ (P:=l.prog) (w:=w) (base:=z) B F71 (PySem.W.mg_of X G a71) b71 (kj z M) (zy z M)
 have kJ:=fun z (M:Mod K mg z)=>xbh (P:=l.prog) (w:=w) (base:=z) B F72 (PySem.W.mg_of X G a72) b72 (sy z M) (jr z M)
 have vm:=fun z (M:Mod K mg z)=>sL (P:=l.prog) (w:=w) (base:=z) B F73 (PySem.W.mg_of X G a73) b73 (kJ z M) (zM z M) (k_ z M) (cD z M)
 have ox_corner_paper__NoCorner:=fun(base:Heap) (M:Mod K mg base)=>u9 (P:=l.prog) (w:=w) (base:=base) B F73 (PySem.W.mg_of X G a73) b73 (xbO M m_NoCorner x_NoCorner) (zM base M) (kJ base M)
 have yJ:=fun z (M:Mod K mg z)=>sJ (kl:=12) (j:=5) (P:=l.prog) (w:=w) (base:=z) B F74 (PySem.W.mg_of X G a74) b74 (by decide) Z_NoCorner m_CutError e_NoCorner v_NoCorner m_NoField i_NoCorner_NoField m_NoWeights i_NoCorner_NoWeights m_NoCut i_NoCorner_NoCut m_Nothing i_NoCorner_Nothing m_NoTurn i_NoCorner_NoTurn m_NoCorner i_NoCorner_NoCorner m_NoNumber i_NoCorner_NoNumber m_NoText i_NoCorner_NoText m_NoLine i_NoCorner_NoLine m_NoDeed i_NoCorner_NoDeed
 exact xgR B FL (qJ base M) (qA base M) (x8 base M) yJ (vv base M) (q_ base M) (vm base M) ox_corner_paper__NoCorner rfl hct hTg (cC base M.kin) (bA base M)
end K19
namespace K19
open PySem L2 Trn
def ke (k:Str)(t:Nat)(v:Value):Str×Nat×Value:=(k,t,v)
def kd (P:Params)(n:Nat)(l:List (Str×Nat×Value)):Obj:=⟨.type "dict", none,.dict ⟨l.map fun e=>⟨PyData.keyHash P e.1,.str e.1 e.2.1,e.2.2⟩⟩ n,#[]⟩
def kf (x:Str)(st:Stmt)(cd:Nat)(m:Str)(t:Nat):Obj:=⟨.type "function", none,.func (PySem.W.fnOf x x (uC st) (zj st) (xf st) .none .none .none (.str m t) none (.ref cd) .none),#[]⟩
def kp (x:Str)(st:Stmt):Obj:=⟨.none,none,.func { name:=x,qualname:=x,params:=uC st,body:=.stmts (zj st),scope:=xf st,globals:=0,closure:=[],defaults:=.none,kwdefaults:=.none },#[]⟩
def kc (x:Str)(a l n m c d:Nat)(u v:Value)(e t f:Nat):Obj:=⟨.type "code", none,.fields ⟨[.str x a,.str x (a+1),.str "/claim/cut.py" (a+2),.int l 0,.int n 0,.int 0 0,.int 0 0,.int m 0,.ref c,.bool true,.int 181 0,.ref d,.none,u,v,.ref e,.int t 0,.int l 0,.str "/claim/cut.py" f]⟩,#[]⟩
def k0:Obj:=⟨.none,none,.fields ⟨[]⟩,#[]⟩
def k1 (l:List Value):Obj:=⟨.type "tuple", none,.seq ⟨l⟩ 0,#[]⟩
def tp (p:Program)(i:Nat):Stmt:=p.main.body.getD i (.Pass ⟨0,0,0,0⟩)
def tq:List (Int×Nat):=[(2,20),(4,33),(6,45),(8,57),(10,69),(12,81),(14,93),(16,105),(18,117),(20,129),(22,141),(25,153),(27,158),(29,165),(34,172),(37,179),(39,186),(43,193),(45,200),(47,207),(51,212),(53,219),(64,226),(68,231),(73,238),(79,245),(82,252),(86,259),(88,266),(91,273),(94,280),(96,287),(105,294),(111,301),(117,306),(123,313),(128,318),(130,325),(134,332),(137,337),(139,342),(141,349),(145,356),(153,363),(158,370),(162,377),(169,384),(173,391),(178,398),(181,405),(191,412),(193,419),(200,426),(207,433),(209,440),(218,445),(221,450),(231,457),(236,464),(239,471),(246,476),(254,483),(258,490),(263,497),(272,502),(297,509),(301,516),(306,523),(312,530),(315,537),(318,544),(320,551),(322,558),(324,565),(327,570),(341,575),(343,580),(351,587),(353,594),(355,601),(361,608),(366,615),(368,622),(372,627),(385,632),(394,637)]
def tl (n:Nat):Obj:=⟨.none,none,.fields ⟨(tq.take n).flatMap fun x=>[.int x.1 0,.int 0 0,.ref x.2]⟩,#[]⟩
def kx (n:Str)(b a s m p q:Nat):Obj:=⟨.type "type", none,.cls { name:=n,bases:=[.ref b],mro:=[.ref a,.ref b,.type "ValueError", .type "Exception", .type "BaseException", .type "object"],ns:=s,qualname:=n,hasDict:=true,slotNames:=[],subclasses:=[],abstract:=false,hasDel:=false },⟨[some (.ref m),none,some (.str n p),some (.str n q),some (.builtin "ValueError.__new__"),some (.bool true)]⟩⟩
def ky (x:Str)(a b c:Nat)(l:Int)(d e:Nat)(i j:Int)(k:Nat):Obj:=⟨.type "code", none,.fields ⟨[.str x a,.str x b,.str "/claim/cut.py" c,.int l 0,.int 0 0,.int 0 0,.int 0 0,.int 0 0,.ref d,.bool false,.int 181 0,.ref e,.none,.none,.none,.none,.int i 0,.int j 0,.str "/claim/cut.py" k]⟩,#[]⟩
def kz (a b c:Nat)(x:Str)(d e:Nat):Obj:=⟨.type "frame", none,.plain,⟨[some (.ref a),some (.ref b),some (.ref c),none,some (.str x d),none,some (.ref e)]⟩⟩
def kv (x:String)(v:Value):Obj:=⟨.type "builtin_function_or_method", none,.fields ⟨[.builtin x,v]⟩,#[]⟩
def kq (a:Nat)(x:Str)(b c:Nat)(y:Str)(d e:Nat)(i:Int)(f g h:Nat):List (Str×Nat×Value):=ke "__module__" a (.str x b)::ke "__qualname__" c (.str y d)::ke "__firstlineno__" e (.int i f)::ke "__static_attributes__" g (.ref h)::[]
def kr (a:Nat)(x:Str)(b e:Nat)(i:Int)(f g h d:Nat):List (Str×Nat×Value):=ke "__module__" a (.str x b)::ke "__firstlineno__" e (.int i f)::ke "__static_attributes__" g (.ref h)::ke "__doc__" d .none::[]
def lw:Str := "law_roundcuts_k19_papers_of_broken_corners"
def lw0:Str := "roundcuts.corners"
def lw1:Str := "roundcuts.errors"
def lw2:Str := "roundcuts.fields"
def lw3:Str := "roundcuts.fractions"
def lw4:Str := "roundcuts.pieces"
def lw6:Str := "roundcuts.rows"
def lw7:Str := "roundcuts.sides"
def lw8:Str := "roundcuts.sums"
def lw9:Str := "roundcuts.turns"
def mn:List (Str×Nat×Value):=ke "__name__" 165 (.str lw 829)::ke "__doc__" 166 .none::ke "__package__" 167 .none::ke "__loader__" 168 (.builtin "__main__.__loader__#opaque")::ke "__spec__" 169 .none::ke "__annotations__" 170 (.ref 6)::ke "__builtins__" 171 (.ref 4)::ke "__file__" 173 (.str "/claim/cut.py" 172)::ke "__cached__" 174 .none::ke "CutError" 206 (.ref 24)::ke "NoField" 222 (.ref 37)::ke "NoWeights" 238 (.ref 49)::ke "NoCut" 254 (.ref 61)::ke "Nothing" 270 (.ref 73)::ke "NoTurn" 286 (.ref 85)::ke "NoCorner" 302 (.ref 97)::ke "NoNumber" 318 (.ref 109)::ke "NoText" 334 (.ref 121)::ke "NoLine" 350 (.ref 133)::ke "NoDeed" 366 (.ref 145)::ke "is_whole" 375 (.ref 154)::ke "are_whole" 381 (.ref 159)::ke "greatest_divisor" 389 (.ref 166)::ke "lowest" 398 (.ref 173)::ke "plus" 406 (.ref 180)::ke "times" 414 (.ref 187)::ke "FAR" 418 (.int 60001 417)::ke "corners_left" 425 (.ref 194)::ke "piece_left" 432 (.ref 201)::ke "cut_down" 441 (.ref 208)::ke "places_of" 447 (.ref 213)::ke "cut_piece" 460 (.ref 220)::ke "beyond" 474 (.ref 227)::ke "where_crossed" 480 (.ref 232)::ke "from_least" 490 (.ref 239)::ke "is_ahead" 498 (.ref 246)::ke "is_row" 507 (.ref 253)::ke "value" 515 (.ref 260)::ke "keeps" 525 (.ref 267)::ke "is_tight" 535 (.ref 274)::ke "turn_to" 543 (.ref 281)::ke "go_round" 553 (.ref 288)::ke "furthest" 564 (.ref 295)::ke "points_back" 573 (.ref 302)::ke "is_field" 581 (.ref 307)::ke "is_field_row" 591 (.ref 314)::ke "is_near" 597 (.ref 319)::ke "need_field" 604 (.ref 326)::ke "corners" 613 (.ref 333)::ke "tight_numbers" 619 (.ref 338)::ke "broken" 625 (.ref 343)::ke "is_broken" 634 (.ref 350)::ke "parts" 648 (.ref 357)::ke "need_turn" 657 (.ref 364)::ke "is_direction" 664 (.ref 371)::ke "between" 675 (.ref 378)::ke "undivided" 685 (.ref 385)::ke "next_least" 698 (.ref 392)::ke "next_behind" 708 (.ref 399)::ke "makes_one" 723 (.ref 406)::ke "sides_at" 733 (.ref 413)::ke "sides_among" 744 (.ref 420)::ke "next_to_the_left" 755 (.ref 427)::ke "direction_of" 762 (.ref 434)::ke "weights_towards" 775 (.ref 441)::ke "sum_of" 783 (.ref 446)::ke "whole_sum" 789 (.ref 451)::ke "cut_of" 799 (.ref 458)::ke "paper_of" 807 (.ref 465)::ke "papers_at" 822 (.ref 472)::ke "corner_paper" 828 (.ref 477)::ke "_law_cell_at" 838 (.ref 484)::ke "_law_state" 847 (.ref 491)::ke "_law_take" 857 (.ref 498)::ke "_law_field" 863 (.ref 503)::ke "_law_divisor" 871 (.ref 510)::ke "_law_low" 880 (.ref 517)::ke "_law_crossing" 890 (.ref 524)::ke "_law_value" 900 (.ref 531)::ke "_law_keeps" 909 (.ref 538)::ke "_law_less" 917 (.ref 545)::ke "_law_minus" 925 (.ref 552)::ke "_law_times" 933 (.ref 559)::ke "_law_cross" 943 (.ref 566)::ke "_law_ring" 949 (.ref 571)::ke "_law_all_left" 955 (.ref 576)::ke "_law_corners" 961 (.ref 581)::ke "_law_is_tight" 969 (.ref 588)::ke "_law_plus" 977 (.ref 595)::ke "_law_summed" 989 (.ref 602)::ke "_law_cut" 1000 (.ref 609)::ke "_law_whole" 1007 (.ref 616)::ke "_law_is_fraction" 1014 (.ref 623)::ke "_law_refused" 1020 (.ref 628)::ke "_law_right" 1026 (.ref 633)::ke "law" 1032 (.ref 638)::[]
def ob (p:Program)(P:Params):List Obj:=k1 [] ::
 tl 86 ::
 ky "<module>" 182 183 184 1 11 12 185 1 186 ::
 kz 13 3 3 "__main__" 164 0 ::
 k1 [(.type "ValueError")] ::
 kv "type.__prepare__" (.type "type") ::
 kd P 4 (kq 196 lw1 187 198 "CutError" 197 200 2 199 201 22) ::
 k1 [] ::
 k0 ::
 ky "CutError" 191 192 193 2 18 19 194 2 195 ::
 kz 20 3 17 lw1 187 0 ::
 k1 [] ::
 kd P 3 (ke "__module__" 196 (.str lw1 187)::ke "__firstlineno__" 200 (.int 2 199)::ke "__static_attributes__" 201 (.ref 22)::ke "__weakref__" 203 (.ref 25)::ke "__doc__" 204 .none::[]) ::
 ⟨(.type "type"),none,.cls { name := "CutError", bases:=[(.type "ValueError")],mro:=[(.ref 24),(.type "ValueError"),(.type "Exception"),(.type "BaseException"),(.type "object")],ns:=23,qualname := "CutError", hasDict:=true,slotNames:=[],subclasses:=[(.ref 37),(.ref 49),(.ref 61),(.ref 73),(.ref 85),(.ref 97),(.ref 109),(.ref 121),(.ref 133),(.ref 145)],abstract:=false,hasDel:=false },⟨[some (.ref 15),none,some (.str "CutError" 189),some (.str "CutError" 197),some (.builtin "ValueError.__new__"),some (.bool true)]⟩⟩ ::
 ⟨(.type "getset_descriptor"),none,.fields ⟨[(.str "__weakref__" 202),(.ref 24),(.builtin "ExceptionGroup.__weakref__"),.none]⟩,#[]⟩ ::
 ⟨(.type "super"),none,.fields ⟨[(.ref 24),(.ref 24),(.ref 24)]⟩,#[]⟩ ::
 kv "object.__init_subclass__" (.ref 24) ::
 k1 [(.ref 24)] ::
 kv "type.__prepare__" (.type "type") ::
 kd P 4 (kq 214 lw1 187 216 "NoField" 215 218 4 217 219 35) ::
 k1 [] ::
 k0 ::
 ky "NoField" 209 210 211 4 31 32 212 4 213 ::
 kz 33 3 30 lw1 187 0 ::
 k1 [] ::
 kd P 2 (kr 214 lw1 187 218 4 217 219 35 220) ::
 kx "NoField" 24 37 36 28 207 215 ::
 ⟨(.type "super"),none,.fields ⟨[(.ref 37),(.ref 37),(.ref 37)]⟩,#[]⟩ ::
 kv "object.__init_subclass__" (.ref 37) ::
 k1 [(.ref 24)] ::
 kv "type.__prepare__" (.type "type") ::
 kd P 4 (kq 230 lw1 187 232 "NoWeights" 231 234 6 233 235 47) ::
 k1 [] ::
 k0 ::
 ky "NoWeights" 225 226 227 6 43 44 228 6 229 ::
 kz 45 3 42 lw1 187 0 ::
 k1 [] ::
 kd P 2 (kr 230 lw1 187 234 6 233 235 47 236) ::
 kx "NoWeights" 24 49 48 40 223 231 ::
 ⟨(.type "super"),none,.fields ⟨[(.ref 49),(.ref 49),(.ref 49)]⟩,#[]⟩ ::
 kv "object.__init_subclass__" (.ref 49) ::
 k1 [(.ref 24)] ::
 kv "type.__prepare__" (.type "type") ::
 kd P 4 (kq 246 lw1 187 248 "NoCut" 247 250 8 249 251 59) ::
 k1 [] ::
 k0 ::
 ky "NoCut" 241 242 243 8 55 56 244 8 245 ::
 kz 57 3 54 lw1 187 0 ::
 k1 [] ::
 kd P 2 (kr 246 lw1 187 250 8 249 251 59 252) ::
 kx "NoCut" 24 61 60 52 239 247 ::
 ⟨(.type "super"),none,.fields ⟨[(.ref 61),(.ref 61),(.ref 61)]⟩,#[]⟩ ::
 kv "object.__init_subclass__" (.ref 61) ::
 k1 [(.ref 24)] ::
 kv "type.__prepare__" (.type "type") ::
 kd P 4 (kq 262 lw1 187 264 "Nothing" 263 266 10 265 267 71) ::
 k1 [] ::
 k0 ::
 ky "Nothing" 257 258 259 10 67 68 260 10 261 ::
 kz 69 3 66 lw1 187 0 ::
 k1 [] ::
 kd P 2 (kr 262 lw1 187 266 10 265 267 71 268) ::
 kx "Nothing" 24 73 72 64 255 263 ::
 ⟨(.type "super"),none,.fields ⟨[(.ref 73),(.ref 73),(.ref 73)]⟩,#[]⟩ ::
 kv "object.__init_subclass__" (.ref 73) ::
 k1 [(.ref 24)] ::
 kv "type.__prepare__" (.type "type") ::
 kd P 4 (kq 278 lw1 187 280 "NoTurn" 279 282 12 281 283 83) ::
 k1 [] ::
 k0 ::
 ky "NoTurn" 273 274 275 12 79 80 276 12 277 ::
 kz 81 3 78 lw1 187 0 ::
 k1 [] ::
 kd P 2 (kr 278 lw1 187 282 12 281 283 83 284) ::
 kx "NoTurn" 24 85 84 76 271 279 ::
 ⟨(.type "super"),none,.fields ⟨[(.ref 85),(.ref 85),(.ref 85)]⟩,#[]⟩ ::
 kv "object.__init_subclass__" (.ref 85) ::
 k1 [(.ref 24)] ::
 kv "type.__prepare__" (.type "type") ::
 kd P 4 (kq 294 lw1 187 296 "NoCorner" 295 298 14 297 299 95) ::
 k1 [] ::
 k0 ::
 ky "NoCorner" 289 290 291 14 91 92 292 14 293 ::
 kz 93 3 90 lw1 187 0 ::
 k1 [] ::
 kd P 2 (kr 294 lw1 187 298 14 297 299 95 300) ::
 kx "NoCorner" 24 97 96 88 287 295 ::
 ⟨(.type "super"),none,.fields ⟨[(.ref 97),(.ref 97),(.ref 97)]⟩,#[]⟩ ::
 kv "object.__init_subclass__" (.ref 97) ::
 k1 [(.ref 24)] ::
 kv "type.__prepare__" (.type "type") ::
 kd P 4 (kq 310 lw1 187 312 "NoNumber" 311 314 16 313 315 107) ::
 k1 [] ::
 k0 ::
 ky "NoNumber" 305 306 307 16 103 104 308 16 309 ::
 kz 105 3 102 lw1 187 0 ::
 k1 [] ::
 kd P 2 (kr 310 lw1 187 314 16 313 315 107 316) ::
 kx "NoNumber" 24 109 108 100 303 311 ::
 ⟨(.type "super"),none,.fields ⟨[(.ref 109),(.ref 109),(.ref 109)]⟩,#[]⟩ ::
 kv "object.__init_subclass__" (.ref 109) ::
 k1 [(.ref 24)] ::
 kv "type.__prepare__" (.type "type") ::
 kd P 4 (kq 326 lw1 187 328 "NoText" 327 330 18 329 331 119) ::
 k1 [] ::
 k0 ::
 ky "NoText" 321 322 323 18 115 116 324 18 325 ::
 kz 117 3 114 lw1 187 0 ::
 k1 [] ::
 kd P 2 (kr 326 lw1 187 330 18 329 331 119 332) ::
 kx "NoText" 24 121 120 112 319 327 ::
 ⟨(.type "super"),none,.fields ⟨[(.ref 121),(.ref 121),(.ref 121)]⟩,#[]⟩ ::
 kv "object.__init_subclass__" (.ref 121) ::
 k1 [(.ref 24)] ::
 kv "type.__prepare__" (.type "type") ::
 kd P 4 (kq 342 lw1 187 344 "NoLine" 343 346 20 345 347 131) ::
 k1 [] ::
 k0 ::
 ky "NoLine" 337 338 339 20 127 128 340 20 341 ::
 kz 129 3 126 lw1 187 0 ::
 k1 [] ::
 kd P 2 (kr 342 lw1 187 346 20 345 347 131 348) ::
 kx "NoLine" 24 133 132 124 335 343 ::
 ⟨(.type "super"),none,.fields ⟨[(.ref 133),(.ref 133),(.ref 133)]⟩,#[]⟩ ::
 kv "object.__init_subclass__" (.ref 133) ::
 k1 [(.ref 24)] ::
 kv "type.__prepare__" (.type "type") ::
 kd P 4 (kq 358 lw1 187 360 "NoDeed" 359 362 22 361 363 143) ::
 k1 [] ::
 k0 ::
 ky "NoDeed" 353 354 355 22 139 140 356 22 357 ::
 kz 141 3 138 lw1 187 0 ::
 k1 [] ::
 kd P 2 (kr 358 lw1 187 362 22 361 363 143 364) ::
 kx "NoDeed" 24 145 144 136 351 359 ::
 ⟨(.type "super"),none,.fields ⟨[(.ref 145),(.ref 145),(.ref 145)]⟩,#[]⟩ ::
 kv "object.__init_subclass__" (.ref 145) ::
 k1 [] ::
 k0 ::
 k1 [(.str "thing" 372)] ::
 k1 [] ::
 kp "is_whole" (tp p 13) ::
 kc "is_whole" 369 25 1 3 148 149 (.ref 150) (.ref 151) 152 373 374 ::
 kf "is_whole" (tp p 13) 153 lw3 367 ::
 k1 [] ::
 k0 ::
 kp "are_whole" (tp p 14) ::
 kc "are_whole" 376 27 1 3 155 156 .none .none 157 379 380 ::
 kf "are_whole" (tp p 14) 158 lw3 367 ::
 k1 [] ::
 k0 ::
 k1 [(.str "one" 385),(.str "other" 386)] ::
 k1 [] ::
 kp "greatest_divisor" (tp p 15) ::
 kc "greatest_divisor" 382 29 2 3 160 161 (.ref 162) (.ref 163) 164 387 388 ::
 kf "greatest_divisor" (tp p 15) 165 lw3 367 ::
 k1 [] ::
 k0 ::
 k1 [(.str "top" 393),(.str "bottom" 394),(.str "shared" 395)] ::
 k1 [] ::
 kp "lowest" (tp p 16) ::
 kc "lowest" 390 34 2 3 167 168 (.ref 169) (.ref 170) 171 396 397 ::
 kf "lowest" (tp p 16) 172 lw3 367 ::
 k1 [] ::
 k0 ::
 k1 [(.str "one" 402),(.str "other" 403)] ::
 k1 [] ::
 kp "plus" (tp p 17) ::
 kc "plus" 399 37 2 3 174 175 (.ref 176) (.ref 177) 178 404 405 ::
 kf "plus" (tp p 17) 179 lw3 367 ::
 k1 [] ::
 k0 ::
 k1 [(.str "whole" 410),(.str "fraction" 411)] ::
 k1 [] ::
 kp "times" (tp p 18) ::
 kc "times" 407 39 2 3 181 182 (.ref 183) (.ref 184) 185 412 413 ::
 kf "times" (tp p 18) 186 lw3 367 ::
 k1 [] ::
 k0 ::
 k1 [(.str "rows" 422)] ::
 k1 [] ::
 kp "corners_left" (tp p 21) ::
 kc "corners_left" 419 43 1 3 188 189 (.ref 190) (.ref 191) 192 423 424 ::
 kf "corners_left" (tp p 21) 193 lw4 415 ::
 k1 [] ::
 k0 ::
 k1 [(.str "rows" 429)] ::
 k1 [] ::
 kp "piece_left" (tp p 22) ::
 kc "piece_left" 426 45 1 3 195 196 (.ref 197) (.ref 198) 199 430 431 ::
 kf "piece_left" (tp p 22) 200 lw4 415 ::
 k1 [] ::
 k0 ::
 k1 [(.str "piece" 436),(.str "rows" 437),(.str "row" 438)] ::
 k1 [] ::
 kp "cut_down" (tp p 23) ::
 kc "cut_down" 433 47 2 3 202 203 (.ref 204) (.ref 205) 206 439 440 ::
 kf "cut_down" (tp p 23) 207 lw4 415 ::
 k1 [] ::
 k0 ::
 kp "places_of" (tp p 24) ::
 kc "places_of" 442 51 1 3 209 210 .none .none 211 445 446 ::
 kf "places_of" (tp p 24) 212 lw4 415 ::
 k1 [] ::
 k0 ::
 k1 [(.str "piece" 451),(.str "row" 452),(.str "left" 453),(.str "at" 454),(.str "corner" 455),(.str "before" 456),(.str "crossing" 457)] ::
 k1 [] ::
 kp "cut_piece" (tp p 25) ::
 kc "cut_piece" 448 53 2 3 214 215 (.ref 216) (.ref 217) 218 458 459 ::
 kf "cut_piece" (tp p 25) 219 lw4 415 ::
 k1 [] ::
 k0 ::
 k1 [(.str "row" 464),(.str "corner" 465),(.str "a" 466),(.str "b" 467),(.str "c" 468),(.str "x" 469),(.str "y" 470),(.str "bottom" 471)] ::
 k1 [] ::
 kp "beyond" (tp p 26) ::
 kc "beyond" 461 64 2 3 221 222 (.ref 223) (.ref 224) 225 472 473 ::
 kf "beyond" (tp p 26) 226 lw4 415 ::
 k1 [] ::
 k0 ::
 kp "where_crossed" (tp p 27) ::
 kc "where_crossed" 475 68 3 3 228 229 .none .none 230 478 479 ::
 kf "where_crossed" (tp p 27) 231 lw4 415 ::
 k1 [] ::
 k0 ::
 k1 [(.str "piece" 484),(.str "start" 485),(.str "at" 486),(.str "corner" 487)] ::
 k1 [] ::
 kp "from_least" (tp p 28) ::
 kc "from_least" 481 73 1 3 233 234 (.ref 235) (.ref 236) 237 488 489 ::
 kf "from_least" (tp p 28) 238 lw4 415 ::
 k1 [] ::
 k0 ::
 k1 [(.str "one" 494),(.str "other" 495)] ::
 k1 [] ::
 kp "is_ahead" (tp p 29) ::
 kc "is_ahead" 491 79 2 3 240 241 (.ref 242) (.ref 243) 244 496 497 ::
 kf "is_ahead" (tp p 29) 245 lw4 415 ::
 k1 [] ::
 k0 ::
 k1 [(.str "thing" 504)] ::
 k1 [] ::
 kp "is_row" (tp p 31) ::
 kc "is_row" 501 82 1 3 247 248 (.ref 249) (.ref 250) 251 505 506 ::
 kf "is_row" (tp p 31) 252 lw6 499 ::
 k1 [] ::
 k0 ::
 k1 [(.str "row" 511),(.str "place" 512)] ::
 k1 [] ::
 kp "value" (tp p 32) ::
 kc "value" 508 86 2 3 254 255 (.ref 256) (.ref 257) 258 513 514 ::
 kf "value" (tp p 32) 259 lw6 499 ::
 k1 [] ::
 k0 ::
 k1 [(.str "row" 519),(.str "place" 520),(.str "top" 521),(.str "bottom" 522)] ::
 k1 [] ::
 kp "keeps" (tp p 33) ::
 kc "keeps" 516 88 2 3 261 262 (.ref 263) (.ref 264) 265 523 524 ::
 kf "keeps" (tp p 33) 266 lw6 499 ::
 k1 [] ::
 k0 ::
 k1 [(.str "row" 529),(.str "place" 530),(.str "top" 531),(.str "bottom" 532)] ::
 k1 [] ::
 kp "is_tight" (tp p 34) ::
 kc "is_tight" 526 91 2 3 268 269 (.ref 270) (.ref 271) 272 533 534 ::
 kf "is_tight" (tp p 34) 273 lw6 499 ::
 k1 [] ::
 k0 ::
 k1 [(.str "one" 539),(.str "other" 540)] ::
 k1 [] ::
 kp "turn_to" (tp p 35) ::
 kc "turn_to" 536 94 2 3 275 276 (.ref 277) (.ref 278) 279 541 542 ::
 kf "turn_to" (tp p 35) 280 lw6 499 ::
 k1 [] ::
 k0 ::
 k1 [(.str "rows" 547),(.str "first" 548),(.str "left" 549),(.str "right" 550)] ::
 k1 [] ::
 kp "go_round" (tp p 36) ::
 kc "go_round" 544 96 1 3 282 283 (.ref 284) (.ref 285) 286 551 552 ::
 kf "go_round" (tp p 36) 287 lw6 499 ::
 k1 [] ::
 k0 ::
 k1 [(.str "first" 557),(.str "rows" 558),(.str "sign" 559),(.str "last" 560),(.str "row" 561)] ::
 k1 [] ::
 kp "furthest" (tp p 37) ::
 kc "furthest" 554 105 3 3 289 290 (.ref 291) (.ref 292) 293 562 563 ::
 kf "furthest" (tp p 37) 294 lw6 499 ::
 k1 [] ::
 k0 ::
 k1 [(.str "first" 568),(.str "rows" 569),(.str "row" 570)] ::
 k1 [] ::
 kp "points_back" (tp p 38) ::
 kc "points_back" 565 111 2 3 296 297 (.ref 298) (.ref 299) 300 571 572 ::
 kf "points_back" (tp p 38) 301 lw6 499 ::
 k1 [] ::
 k0 ::
 kp "is_field" (tp p 40) ::
 kc "is_field" 576 117 1 3 303 304 .none .none 305 579 580 ::
 kf "is_field" (tp p 40) 306 lw2 574 ::
 k1 [] ::
 k0 ::
 k1 [(.str "thing" 585),(.str "a" 586),(.str "b" 587),(.str "c" 588)] ::
 k1 [] ::
 kp "is_field_row" (tp p 41) ::
 kc "is_field_row" 582 123 1 3 308 309 (.ref 310) (.ref 311) 312 589 590 ::
 kf "is_field_row" (tp p 41) 313 lw2 574 ::
 k1 [] ::
 k0 ::
 kp "is_near" (tp p 42) ::
 kc "is_near" 592 128 1 3 315 316 .none .none 317 595 596 ::
 kf "is_near" (tp p 42) 318 lw2 574 ::
 k1 [] ::
 k0 ::
 k1 [(.str "thing" 601)] ::
 k1 [] ::
 kp "need_field" (tp p 43) ::
 kc "need_field" 598 130 1 3 320 321 (.ref 322) (.ref 323) 324 602 603 ::
 kf "need_field" (tp p 43) 325 lw2 574 ::
 k1 [] ::
 k0 ::
 k1 [(.str "field" 610)] ::
 k1 [] ::
 kp "corners" (tp p 45) ::
 kc "corners" 607 134 1 3 327 328 (.ref 329) (.ref 330) 331 611 612 ::
 kf "corners" (tp p 45) 332 lw0 605 ::
 k1 [] ::
 k0 ::
 kp "tight_numbers" (tp p 46) ::
 kc "tight_numbers" 614 137 2 3 334 335 .none .none 336 617 618 ::
 kf "tight_numbers" (tp p 46) 337 lw0 605 ::
 k1 [] ::
 k0 ::
 kp "broken" (tp p 47) ::
 kc "broken" 620 139 1 3 339 340 .none .none 341 623 624 ::
 kf "broken" (tp p 47) 342 lw0 605 ::
 k1 [] ::
 k0 ::
 k1 [(.str "place" 629),(.str "x" 630),(.str "y" 631)] ::
 k1 [] ::
 kp "is_broken" (tp p 48) ::
 kc "is_broken" 626 141 1 3 344 345 (.ref 346) (.ref 347) 348 632 633 ::
 kf "is_broken" (tp p 48) 349 lw0 605 ::
 k1 [] ::
 k0 ::
 k1 [(.str "one" 640),(.str "other" 641),(.str "thing" 642),(.str "turn" 643),(.str "of_one" 644),(.str "of_other" 645)] ::
 k1 [] ::
 kp "parts" (tp p 50) ::
 kc "parts" 637 145 3 3 351 352 (.ref 353) (.ref 354) 355 646 647 ::
 kf "parts" (tp p 50) 356 lw9 635 ::
 k1 [] ::
 k0 ::
 k1 [(.str "one" 652),(.str "other" 653),(.str "turn" 654)] ::
 k1 [] ::
 kp "need_turn" (tp p 51) ::
 kc "need_turn" 649 153 2 3 358 359 (.ref 360) (.ref 361) 362 655 656 ::
 kf "need_turn" (tp p 51) 363 lw9 635 ::
 k1 [] ::
 k0 ::
 k1 [(.str "thing" 661)] ::
 k1 [] ::
 kp "is_direction" (tp p 52) ::
 kc "is_direction" 658 158 1 3 365 366 (.ref 367) (.ref 368) 369 662 663 ::
 kf "is_direction" (tp p 52) 370 lw9 635 ::
 k1 [] ::
 k0 ::
 k1 [(.str "one" 668),(.str "other" 669),(.str "first" 670),(.str "last" 671),(.str "found" 672)] ::
 k1 [] ::
 kp "between" (tp p 53) ::
 kc "between" 665 162 2 3 372 373 (.ref 374) (.ref 375) 376 673 674 ::
 kf "between" (tp p 53) 377 lw9 635 ::
 k1 [] ::
 k0 ::
 k1 [(.str "direction" 679),(.str "a" 680),(.str "b" 681),(.str "shared" 682)] ::
 k1 [] ::
 kp "undivided" (tp p 54) ::
 kc "undivided" 676 169 1 3 379 380 (.ref 381) (.ref 382) 383 683 684 ::
 kf "undivided" (tp p 54) 384 lw9 635 ::
 k1 [] ::
 k0 ::
 k1 [(.str "first" 689),(.str "last" 690),(.str "a" 691),(.str "b" 692),(.str "p" 693),(.str "q" 694),(.str "back" 695)] ::
 k1 [] ::
 kp "next_least" (tp p 55) ::
 kc "next_least" 686 173 2 3 386 387 (.ref 388) (.ref 389) 390 696 697 ::
 kf "next_least" (tp p 55) 391 lw9 635 ::
 k1 [] ::
 k0 ::
 k1 [(.str "before" 702),(.str "here" 703),(.str "last" 704),(.str "many" 705)] ::
 k1 [] ::
 kp "next_behind" (tp p 56) ::
 kc "next_behind" 699 178 3 3 393 394 (.ref 395) (.ref 396) 397 706 707 ::
 kf "next_behind" (tp p 56) 398 lw9 635 ::
 k1 [] ::
 k0 ::
 k1 [(.str "a" 712),(.str "b" 713),(.str "here" 714),(.str "p" 715),(.str "q" 716),(.str "ahead" 717),(.str "next_p" 718),(.str "next_q" 719),(.str "many" 720)] ::
 k1 [] ::
 kp "makes_one" (tp p 57) ::
 kc "makes_one" 709 181 2 3 400 401 (.ref 402) (.ref 403) 404 721 722 ::
 kf "makes_one" (tp p 57) 405 lw9 635 ::
 k1 [] ::
 k0 ::
 k1 [(.str "field" 729),(.str "place" 730)] ::
 k1 [] ::
 kp "sides_at" (tp p 59) ::
 kc "sides_at" 726 191 2 3 407 408 (.ref 409) (.ref 410) 411 731 732 ::
 kf "sides_at" (tp p 59) 412 lw7 724 ::
 k1 [] ::
 k0 ::
 k1 [(.str "rows" 737),(.str "numbers" 738),(.str "pairs" 739),(.str "number" 740),(.str "beside" 741)] ::
 k1 [] ::
 kp "sides_among" (tp p 60) ::
 kc "sides_among" 734 193 2 3 414 415 (.ref 416) (.ref 417) 418 742 743 ::
 kf "sides_among" (tp p 60) 419 lw7 724 ::
 k1 [] ::
 k0 ::
 k1 [(.str "rows" 748),(.str "numbers" 749),(.str "number" 750),(.str "nearest" 751),(.str "other" 752)] ::
 k1 [] ::
 kp "next_to_the_left" (tp p 61) ::
 kc "next_to_the_left" 745 200 3 3 421 422 (.ref 423) (.ref 424) 425 753 754 ::
 kf "next_to_the_left" (tp p 61) 426 lw7 724 ::
 k1 [] ::
 k0 ::
 k1 [(.str "row" 759)] ::
 k1 [] ::
 kp "direction_of" (tp p 62) ::
 kc "direction_of" 756 207 1 3 428 429 (.ref 430) (.ref 431) 432 760 761 ::
 kf "direction_of" (tp p 62) 433 lw7 724 ::
 k1 [] ::
 k0 ::
 k1 [(.str "field" 766),(.str "pair" 767),(.str "direction" 768),(.str "one" 769),(.str "other" 770),(.str "shares" 771),(.str "weights" 772)] ::
 k1 [] ::
 kp "weights_towards" (tp p 63) ::
 kc "weights_towards" 763 209 3 3 435 436 (.ref 437) (.ref 438) 439 773 774 ::
 kf "weights_towards" (tp p 63) 440 lw7 724 ::
 k1 [] ::
 k0 ::
 kp "sum_of" (tp p 65) ::
 kc "sum_of" 778 218 2 3 442 443 .none .none 444 781 782 ::
 kf "sum_of" (tp p 65) 445 lw8 776 ::
 k1 [] ::
 k0 ::
 kp "whole_sum" (tp p 66) ::
 kc "whole_sum" 784 221 2 3 447 448 .none .none 449 787 788 ::
 kf "whole_sum" (tp p 66) 450 lw8 776 ::
 k1 [] ::
 k0 ::
 k1 [(.str "totals" 793),(.str "a" 794),(.str "b" 795),(.str "c" 796)] ::
 k1 [] ::
 kp "cut_of" (tp p 67) ::
 kc "cut_of" 790 231 1 3 452 453 (.ref 454) (.ref 455) 456 797 798 ::
 kf "cut_of" (tp p 67) 457 lw8 776 ::
 k1 [] ::
 k0 ::
 k1 [(.str "field" 803),(.str "weights" 804)] ::
 k1 [] ::
 kp "paper_of" (tp p 68) ::
 kc "paper_of" 800 236 2 3 459 460 (.ref 461) (.ref 462) 463 805 806 ::
 kf "paper_of" (tp p 68) 464 lw8 776 ::
 k1 [] ::
 k0 ::
 k1 [(.str "field" 813),(.str "place" 814),(.str "papers" 815),(.str "pair" 816),(.str "one" 817),(.str "other" 818),(.str "direction" 819)] ::
 k1 [] ::
 kp "papers_at" (tp p 70) ::
 kc "papers_at" 810 239 2 3 466 467 (.ref 468) (.ref 469) 470 820 821 ::
 kf "papers_at" (tp p 70) 471 "roundcuts.rounds" 808 ::
 k1 [] ::
 k0 ::
 kp "corner_paper" (tp p 71) ::
 kc "corner_paper" 823 246 2 3 473 474 .none .none 475 826 827 ::
 kf "corner_paper" (tp p 71) 476 "roundcuts.rounds" 808 ::
 k1 [] ::
 k0 ::
 k1 [(.str "_law_script" 834),(.str "_law_k" 835)] ::
 k1 [] ::
 kp "_law_cell_at" (tp p 73) ::
 kc "_law_cell_at" 831 254 2 3 478 479 (.ref 480) (.ref 481) 482 836 837 ::
 kf "_law_cell_at" (tp p 73) 483 lw 829 ::
 k1 [] ::
 k0 ::
 k1 [(.str "_law_script" 842),(.str "_law_k" 843),(.str "_law_cell" 844)] ::
 k1 [] ::
 kp "_law_state" (tp p 74) ::
 kc "_law_state" 839 258 2 3 485 486 (.ref 487) (.ref 488) 489 845 846 ::
 kf "_law_state" (tp p 74) 490 lw 829 ::
 k1 [] ::
 k0 ::
 k1 [(.str "_law_state_here" 851),(.str "_law_many" 852),(.str "_law_found" 853),(.str "_law_stirred" 854)] ::
 k1 [] ::
 kp "_law_take" (tp p 75) ::
 kc "_law_take" 848 263 2 3 492 493 (.ref 494) (.ref 495) 496 855 856 ::
 kf "_law_take" (tp p 75) 497 lw 829 ::
 k1 [] ::
 k0 ::
 kp "_law_field" (tp p 76) ::
 kc "_law_field" 858 272 1 3 499 500 .none .none 501 861 862 ::
 kf "_law_field" (tp p 76) 502 lw 829 ::
 k1 [] ::
 k0 ::
 k1 [(.str "_law_one" 867),(.str "_law_other" 868)] ::
 k1 [] ::
 kp "_law_divisor" (tp p 77) ::
 kc "_law_divisor" 864 297 2 3 504 505 (.ref 506) (.ref 507) 508 869 870 ::
 kf "_law_divisor" (tp p 77) 509 lw 829 ::
 k1 [] ::
 k0 ::
 k1 [(.str "_law_top" 875),(.str "_law_bottom" 876),(.str "_law_by" 877)] ::
 k1 [] ::
 kp "_law_low" (tp p 78) ::
 kc "_law_low" 872 301 2 3 511 512 (.ref 513) (.ref 514) 515 878 879 ::
 kf "_law_low" (tp p 78) 516 lw 829 ::
 k1 [] ::
 k0 ::
 k1 [(.str "_law_one" 884),(.str "_law_other" 885),(.str "_law_by" 886),(.str "_law_x" 887)] ::
 k1 [] ::
 kp "_law_crossing" (tp p 79) ::
 kc "_law_crossing" 881 306 2 3 518 519 (.ref 520) (.ref 521) 522 888 889 ::
 kf "_law_crossing" (tp p 79) 523 lw 829 ::
 k1 [] ::
 k0 ::
 k1 [(.str "_law_row" 894),(.str "_law_place" 895),(.str "_law_x" 896),(.str "_law_y" 897)] ::
 k1 [] ::
 kp "_law_value" (tp p 80) ::
 kc "_law_value" 891 312 2 3 525 526 (.ref 527) (.ref 528) 529 898 899 ::
 kf "_law_value" (tp p 80) 530 lw 829 ::
 k1 [] ::
 k0 ::
 k1 [(.str "_law_row" 904),(.str "_law_place" 905),(.str "_law_here" 906)] ::
 k1 [] ::
 kp "_law_keeps" (tp p 81) ::
 kc "_law_keeps" 901 315 2 3 532 533 (.ref 534) (.ref 535) 536 907 908 ::
 kf "_law_keeps" (tp p 81) 537 lw 829 ::
 k1 [] ::
 k0 ::
 k1 [(.str "_law_one" 913),(.str "_law_other" 914)] ::
 k1 [] ::
 kp "_law_less" (tp p 82) ::
 kc "_law_less" 910 318 2 3 539 540 (.ref 541) (.ref 542) 543 915 916 ::
 kf "_law_less" (tp p 82) 544 lw 829 ::
 k1 [] ::
 k0 ::
 k1 [(.str "_law_one" 921),(.str "_law_other" 922)] ::
 k1 [] ::
 kp "_law_minus" (tp p 83) ::
 kc "_law_minus" 918 320 2 3 546 547 (.ref 548) (.ref 549) 550 923 924 ::
 kf "_law_minus" (tp p 83) 551 lw 829 ::
 k1 [] ::
 k0 ::
 k1 [(.str "_law_one" 929),(.str "_law_other" 930)] ::
 k1 [] ::
 kp "_law_times" (tp p 84) ::
 kc "_law_times" 926 322 2 3 553 554 (.ref 555) (.ref 556) 557 931 932 ::
 kf "_law_times" (tp p 84) 558 lw 829 ::
 k1 [] ::
 k0 ::
 k1 [(.str "_law_one" 937),(.str "_law_other" 938),(.str "_law_third" 939),(.str "_law_first" 940)] ::
 k1 [] ::
 kp "_law_cross" (tp p 85) ::
 kc "_law_cross" 934 324 3 3 560 561 (.ref 562) (.ref 563) 564 941 942 ::
 kf "_law_cross" (tp p 85) 565 lw 829 ::
 k1 [] ::
 k0 ::
 kp "_law_ring" (tp p 86) ::
 kc "_law_ring" 944 327 1 3 567 568 .none .none 569 947 948 ::
 kf "_law_ring" (tp p 86) 570 lw 829 ::
 k1 [] ::
 k0 ::
 kp "_law_all_left" (tp p 87) ::
 kc "_law_all_left" 950 341 3 3 572 573 .none .none 574 953 954 ::
 kf "_law_all_left" (tp p 87) 575 lw 829 ::
 k1 [] ::
 k0 ::
 kp "_law_corners" (tp p 88) ::
 kc "_law_corners" 956 343 1 3 577 578 .none .none 579 959 960 ::
 kf "_law_corners" (tp p 88) 580 lw 829 ::
 k1 [] ::
 k0 ::
 k1 [(.str "_law_row" 965),(.str "_law_place" 966)] ::
 k1 [] ::
 kp "_law_is_tight" (tp p 89) ::
 kc "_law_is_tight" 962 351 2 3 582 583 (.ref 584) (.ref 585) 586 967 968 ::
 kf "_law_is_tight" (tp p 89) 587 lw 829 ::
 k1 [] ::
 k0 ::
 k1 [(.str "_law_one" 973),(.str "_law_other" 974)] ::
 k1 [] ::
 kp "_law_plus" (tp p 90) ::
 kc "_law_plus" 970 353 2 3 589 590 (.ref 591) (.ref 592) 593 975 976 ::
 kf "_law_plus" (tp p 90) 594 lw 829 ::
 k1 [] ::
 k0 ::
 k1 [(.str "_law_rows" 981),(.str "_law_weights" 982),(.str "_law_found" 983),(.str "_law_row" 984),(.str "_law_weight" 985),(.str "_law_at" 986)] ::
 k1 [] ::
 kp "_law_summed" (tp p 91) ::
 kc "_law_summed" 978 355 2 3 596 597 (.ref 598) (.ref 599) 600 987 988 ::
 kf "_law_summed" (tp p 91) 601 lw 829 ::
 k1 [] ::
 k0 ::
 k1 [(.str "_law_rows" 993),(.str "_law_weights" 994),(.str "_law_a" 995),(.str "_law_b" 996),(.str "_law_c" 997)] ::
 k1 [] ::
 kp "_law_cut" (tp p 92) ::
 kc "_law_cut" 990 361 2 3 603 604 (.ref 605) (.ref 606) 607 998 999 ::
 kf "_law_cut" (tp p 92) 608 lw 829 ::
 k1 [] ::
 k0 ::
 k1 [(.str "_law_thing" 1004)] ::
 k1 [] ::
 kp "_law_whole" (tp p 93) ::
 kc "_law_whole" 1001 366 1 3 610 611 (.ref 612) (.ref 613) 614 1005 1006 ::
 kf "_law_whole" (tp p 93) 615 lw 829 ::
 k1 [] ::
 k0 ::
 k1 [(.str "_law_thing" 1011)] ::
 k1 [] ::
 kp "_law_is_fraction" (tp p 94) ::
 kc "_law_is_fraction" 1008 368 1 3 617 618 (.ref 619) (.ref 620) 621 1012 1013 ::
 kf "_law_is_fraction" (tp p 94) 622 lw 829 ::
 k1 [] ::
 k0 ::
 kp "_law_refused" (tp p 95) ::
 kc "_law_refused" 1015 372 1 3 624 625 .none .none 626 1018 1019 ::
 kf "_law_refused" (tp p 95) 627 lw 829 ::
 k1 [] ::
 k0 ::
 kp "_law_right" (tp p 96) ::
 kc "_law_right" 1021 385 3 3 629 630 .none .none 631 1024 1025 ::
 kf "_law_right" (tp p 96) 632 lw 829 ::
 k1 [] ::
 k0 ::
 kp "law" (tp p 97) ::
 kc "law" 1027 394 1 3 634 635 .none .none 636 1030 1031 ::
 kf "law" (tp p 97) 637 lw 829::[]
def hp (p:Program)(P:Params)(n:Nat)(m:List (Str×Nat×Value))(e:Nat)(c:List (Nat×Obj)):List Obj:=c.foldl (fun l x=>l.set x.1 x.2) ((PySem.W.boot_heap P).objs.toList.set 3 (kd P e m)++(ob p P).take n)
def sh (p:Program)(w:World)(os:OsState)(n:Nat)(m:List (Str×Nat×Value))(e:Nat)(c:List (Nat×Obj))(k:Nat):Shared:=⟨⟨⟨hp p w.params n m e c⟩,{}⟩,⟨[]⟩,{},k,os⟩
def hf (p:Program)(P:Params):Heap:=⟨⟨hp p P 628 mn 96 []⟩,{}⟩
abbrev as:List Addr:=[3,4,23,24,36,37,48,49,60,61,72,73,84,85,96,97,108,109,120,121,132,133,144,145,153,154,158,159,165,166,172,173,179,180,186,187,193,194,200,201,207,208,212,213,219,220,226,227,231,232,238,239,245,246,252,253,259,260,266,267,273,274,280,281,287,288,294,295,301,302,306,307,313,314,318,319,325,326,332,333,337,338,342,343,349,350,356,357,363,364,370,371,377,378,384,385,391,392,398,399,405,406,412,413,419,420,426,427,433,434,440,441,445,446,450,451,457,458,464,465,471,472,476,477,483,484,490,491,497,498,502,503,509,510,516,517,523,524,530,531,537,538,544,545,551,552,558,559,565,566,570,571,575,576,580,581,587,588,594,595,601,602,608,609,615,616,622,623,627,628,632,633,637,638]
def Kp (p:Program)(P:Params):PySem.W.Frag:=as.map fun a=>(a,(hp p P 628 mn 96 []).getD a k0)
abbrev pg:Program:=PySem.Challenge.pw_roundcuts_k19_papers_of_broken_corners
abbrev K (P:Params):PySem.W.Frag:=Kp pg P
abbrev ah:List Addr:=635::as
def Kh (p:Program)(P:Params):PySem.W.Frag:=ah.map fun a=>(a,(hp p P 628 mn 96 []).getD a k0)
theorem xh7 (p:Program)(P:Params):ah=(Kh p P).map (·.1):=by unfold Kh;rw[xkE];exact(List.map_id _).symm
abbrev Hk (p:Program):PySem.W.Hook:=PySem.W.kHook (Kh p) ah (xh7 p)
abbrev keep:List Nat:=[1,2,3,4,5,6,7,8,9,10,11,13,14,15,16,17,18,20,21,22,23,24,25,26,27,28,29,31,32,33,34,35,36,37,38,40,41,42,43,45,46,47,48,50,51,52,53,54,55,56,57,59,60,61,62,63,65,66,67,68,70,71,73,74,75,76,77,78,79,80,81,82,83,84,85,86,87,88,89,90,91,92,93,94,95,96,97]
abbrev vw:Program:=PySem.W.view pg keep
theorem dk {P:Params}{x:Str}{st:Stmt}{f cd t:Nat}{m:Str}(a:PySem.W.nsIn (K P) mainGlobals x=some (some (.ref f)))(l:(K P).lookup f=some (kf x st cd m t))(c:PySem.W.codeIn (K P) (.ref cd) x=true):DD (K P) x st :=
 dd a l c (by unfold PySem.W.keepIn;dsimp only;rw[l];rfl)
theorem dl {P:Params}{x:Str}{st:Stmt}(f cd:Nat)(m:Str)(t:Nat)(a:PySem.W.nsIn (K P) mainGlobals x=some (some (.ref f)):=by kernel_rfl)(l:(K P).lookup f=some (kf x st cd m t):=by kernel_rfl)(c:PySem.W.codeIn (K P) (.ref cd) x=true:=by kernel_rfl):DD (K P) x st:=dk a l c
end K19
set_option maxHeartbeats 0 in
lay_quick PySem.Challenge.pw_roundcuts_k19_papers_of_broken_corners
namespace K19
open PySem L2 Trn PySem.W
abbrev tb:=PySem.W.Fast.tw14364793385576792824
abbrev p':=PySem.W.Fast.tw12678769763663638660
abbrev v':=view p' keep
abbrev im:=PySem.W.Fast.tw5923862056798008813 p'.main.body
abbrev ann:Option Value:=some (.ref 6)
abbrev q:Pos:=⟨0,0,0,0⟩
abbrev bd:=behindTheImports p'
abbrev env:Env:={ scope:=p'.main.scope,locals:=mainNs,globals:=mainNs,cells:=[],code:=(.ref 13),frame:=some 14 }
abbrev cb:Code:=.body bd env
theorem r0 (w:World)(os:OsState):topGo tb p' w 11 ann 12 ⟨boot_heap w.params,⟨[]⟩,boot_drawn,boot_toks,os⟩ (topStub p')=some ((sh p' w os 4 ((mn.take 9).set 0 (ke "__name__" 165 (.str "__main__" 164))) 9 [(12,k0)] 187),⟨denote tb cb,cb,⟨0,0,0,0⟩,[topFrame q]⟩):=by kernel_rfl
theorem r1 (w:World)(os:OsState):segRun tb p' w 11 ann 1 1 (sh p' w os 4 ((mn.take 9).set 0 (ke "__name__" 165 (.str "__main__" 164))) 9 [(12,k0)] 187) (blockOf bd env cb ⟨0,0,0,0⟩ [topFrame q])=some (.next,(sh p' w os 4 ((mn.take 9).set 0 (ke "__name__" 165 (.str "__main__" 164))) 9 [(12,k0)] 187),cb,⟨0,0,0,0⟩):=by kernel_rfl
theorem c0 (w:World)(os:OsState):segRun tb p' w 11 ann 1 626 (sh p' w os 4 ((mn.take 9).set 0 (ke "__name__" 165 (.str "__main__" 164))) 9 [(12,k0)] 187) (piecesOf ((bd.drop 0).take 4) env cb ⟨0,0,0,0⟩ [topFrame q])=some (.next,(sh p' w os 41 ((mn.take 12).set 0 (ke "__name__" 165 (.str lw1 187))) 12 [(12,tl 3),(24,⟨(.type "type"),none,.cls { name := "CutError", bases:=[(.type "ValueError")],mro:=[(.ref 24),(.type "ValueError"),(.type "Exception"),(.type "BaseException"),(.type "object")],ns:=23,qualname := "CutError", hasDict:=true,slotNames:=[],subclasses:=[(.ref 37),(.ref 49)],abstract:=false,hasDel:=false },⟨[some (.ref 15),none,some (.str "CutError" 189),some (.str "CutError" 197),some (.builtin "ValueError.__new__"),some (.bool true)]⟩⟩)] 239),cb,⟨6,0,7,8⟩):=by kernel_rfl
theorem c1 (w:World)(os:OsState):segRun tb p' w 11 ann 1 643 (sh p' w os 41 ((mn.take 12).set 0 (ke "__name__" 165 (.str lw1 187))) 12 [(12,tl 3),(24,⟨(.type "type"),none,.cls { name := "CutError", bases:=[(.type "ValueError")],mro:=[(.ref 24),(.type "ValueError"),(.type "Exception"),(.type "BaseException"),(.type "object")],ns:=23,qualname := "CutError", hasDict:=true,slotNames:=[],subclasses:=[(.ref 37),(.ref 49)],abstract:=false,hasDel:=false },⟨[some (.ref 15),none,some (.str "CutError" 189),some (.str "CutError" 197),some (.builtin "ValueError.__new__"),some (.bool true)]⟩⟩)] 239) (piecesOf ((bd.drop 4).take 3) env cb ⟨6,0,7,8⟩ [topFrame q])=some (.next,(sh p' w os 77 ((mn.take 15).set 0 (ke "__name__" 165 (.str lw1 187))) 15 [(12,tl 6),(24,⟨(.type "type"),none,.cls { name := "CutError", bases:=[(.type "ValueError")],mro:=[(.ref 24),(.type "ValueError"),(.type "Exception"),(.type "BaseException"),(.type "object")],ns:=23,qualname := "CutError", hasDict:=true,slotNames:=[],subclasses:=[(.ref 37),(.ref 49),(.ref 61),(.ref 73),(.ref 85)],abstract:=false,hasDel:=false },⟨[some (.ref 15),none,some (.str "CutError" 189),some (.str "CutError" 197),some (.builtin "ValueError.__new__"),some (.bool true)]⟩⟩)] 287),cb,⟨12,0,13,8⟩):=by kernel_rfl
theorem c2 (w:World)(os:OsState):segRun tb p' w 11 ann 1 643 (sh p' w os 77 ((mn.take 15).set 0 (ke "__name__" 165 (.str lw1 187))) 15 [(12,tl 6),(24,⟨(.type "type"),none,.cls { name := "CutError", bases:=[(.type "ValueError")],mro:=[(.ref 24),(.type "ValueError"),(.type "Exception"),(.type "BaseException"),(.type "object")],ns:=23,qualname := "CutError", hasDict:=true,slotNames:=[],subclasses:=[(.ref 37),(.ref 49),(.ref 61),(.ref 73),(.ref 85)],abstract:=false,hasDel:=false },⟨[some (.ref 15),none,some (.str "CutError" 189),some (.str "CutError" 197),some (.builtin "ValueError.__new__"),some (.bool true)]⟩⟩)] 287) (piecesOf ((bd.drop 7).take 3) env cb ⟨12,0,13,8⟩ [topFrame q])=some (.next,(sh p' w os 113 ((mn.take 18).set 0 (ke "__name__" 165 (.str lw1 187))) 18 [(12,tl 9),(24,⟨(.type "type"),none,.cls { name := "CutError", bases:=[(.type "ValueError")],mro:=[(.ref 24),(.type "ValueError"),(.type "Exception"),(.type "BaseException"),(.type "object")],ns:=23,qualname := "CutError", hasDict:=true,slotNames:=[],subclasses:=[(.ref 37),(.ref 49),(.ref 61),(.ref 73),(.ref 85),(.ref 97),(.ref 109),(.ref 121)],abstract:=false,hasDel:=false },⟨[some (.ref 15),none,some (.str "CutError" 189),some (.str "CutError" 197),some (.builtin "ValueError.__new__"),some (.bool true)]⟩⟩)] 335),cb,⟨18,0,19,8⟩):=by kernel_rfl
theorem c3 (w:World)(os:OsState):segRun tb p' w 11 ann 1 701 (sh p' w os 113 ((mn.take 18).set 0 (ke "__name__" 165 (.str lw1 187))) 18 [(12,tl 9),(24,⟨(.type "type"),none,.cls { name := "CutError", bases:=[(.type "ValueError")],mro:=[(.ref 24),(.type "ValueError"),(.type "Exception"),(.type "BaseException"),(.type "object")],ns:=23,qualname := "CutError", hasDict:=true,slotNames:=[],subclasses:=[(.ref 37),(.ref 49),(.ref 61),(.ref 73),(.ref 85),(.ref 97),(.ref 109),(.ref 121)],abstract:=false,hasDel:=false },⟨[some (.ref 15),none,some (.str "CutError" 189),some (.str "CutError" 197),some (.builtin "ValueError.__new__"),some (.bool true)]⟩⟩)] 335) (piecesOf ((bd.drop 10).take 13) env cb ⟨18,0,19,8⟩ [topFrame q])=some (.next,(sh p' w os 191 ((mn.take 29).set 0 (ke "__name__" 165 (.str lw4 415))) 29 [(12,tl 19)] 433),cb,⟨45,0,46,91⟩):=by kernel_rfl
theorem c4 (w:World)(os:OsState):segRun tb p' w 11 ann 1 712 (sh p' w os 191 ((mn.take 29).set 0 (ke "__name__" 165 (.str lw4 415))) 29 [(12,tl 19)] 433) (piecesOf ((bd.drop 23).take 25) env cb ⟨45,0,46,91⟩ [topFrame q])=some (.next,(sh p' w os 333 ((mn.take 51).set 0 (ke "__name__" 165 (.str lw0 605))) 51 [(12,tl 41)] 626),cb,⟨139,0,140,66⟩):=by kernel_rfl
theorem c5 (w:World)(os:OsState):segRun tb p' w 11 ann 1 700 (sh p' w os 333 ((mn.take 51).set 0 (ke "__name__" 165 (.str lw0 605))) 51 [(12,tl 41)] 626) (piecesOf ((bd.drop 48).take 25) env cb ⟨139,0,140,66⟩ [topFrame q])=some (.next,(sh p' w os 467 (mn.take 71) 71 [(12,tl 61)] 831),cb,⟨253,0,253,8⟩):=by kernel_rfl
theorem c6 (w:World)(os:OsState):segRun tb p' w 11 ann 1 710 (sh p' w os 467 (mn.take 71) 71 [(12,tl 61)] 831) (piecesOf ((bd.drop 73).take 23) env cb ⟨253,0,253,8⟩ [topFrame q])=some (.next,(sh p' w os 618 (mn.take 94) 94 [(12,tl 84)] 1021),cb,⟨372,0,384,65⟩):=by kernel_rfl
theorem c7 (w:World)(os:OsState):segRun tb p' w 11 ann 1 55 (sh p' w os 618 (mn.take 94) 94 [(12,tl 84)] 1021) (piecesOf ((bd.drop 96).take 2) env cb ⟨372,0,384,65⟩ [topFrame q])=some (.next,(sh p' w os 628 mn 96 [] 1033),cb,⟨394,0,407,15⟩):=by kernel_rfl
theorem xhY:bd=(((bd.drop 0).take 4)++(((bd.drop 4).take 3)++(((bd.drop 7).take 3)++(((bd.drop 10).take 13)++(((bd.drop 23).take 25)++(((bd.drop 48).take 25)++(((bd.drop 73).take 23)++(((bd.drop 96).take 2)++[])))))))):=by kernel_rfl
theorem cl (w:World)(os:OsState):topRun tb p' w 11 ann 2 (sh p' w os 628 mn 96 [] 1033) ⟨doneF .next,cb,⟨394,0,407,15⟩,[topFrame q]⟩=some (sh p' w os 628 mn 96 [] 1033):=by kernel_rfl
theorem run (w:World)(os:OsState):topRun tb p' w 11 ann (12+(1+(626+(643+(643+(701+(712+(700+(710+(55+2)))))))))) ⟨boot_heap w.params,⟨[]⟩,boot_drawn,boot_toks,os⟩ (topStub p')=some ⟨hf p' w.params,⟨[]⟩,{},1033,os⟩ :=
 go_top (r0 w os) (piece_block (r1 w os) (xhY▸(piece_app (c0 w os) (piece_app (c1 w os) (piece_app (c2 w os) (piece_app (c3 w os) (piece_app (c4 w os) (piece_app (c5 w os) (piece_app (c6 w os) (piece_app (c7 w os) (piece_nil (cl w os))))))))))))
theorem z0 (w:World):((boot_heap w.params).isNs mainGlobals&&(⟨[]⟩:Array GenState).size == 0,(boot_heap w.params).objs.size,(boot_heap w.params).nsMap mainGlobals "__annotations__")=(true,11,ann):=by kernel_rfl
theorem z1 (w:World)(os:OsState):(staticsOk im (boot_heap w.params) (hf p' w.params)&&namesBound p' (hf p' w.params)&&gensDone ⟨hf p' w.params,⟨[]⟩,{},1033,os⟩&&laidKept (boot_heap w.params) (hf p' w.params))=true:=by kernel_rfl
abbrev zx (w:World)(os:OsState):=PySem.W.Fast.tw4187177175401517315 v' [] im (fun s=>xlAt v' [] s&&recOk [] s) true ⟨hf p' w.params,⟨[]⟩,{},1033,os⟩
theorem z20 (w os):(zx w os).1=PyProof.Rows.expectedOf v':=by kernel_rfl
theorem z21 (w os):(zx w os).2.1=bltViewBooted:=by kernel_rfl
theorem z22 (w os):(zx w os).2.2.1=true:=by kernel_rfl
theorem z23 (w os):(zx w os).2.2.2.1=true:=by kernel_rfl
theorem z24 (w os):(zx w os).2.2.2.2.1=pinGoodD (PyProof.Rows.drecsOf v'):=by kernel_rfl
theorem z25 (w os):(zx w os).2.2.2.2.2.1=PyProof.Rows.plainGoodE v' (looseW v' []):=by kernel_rfl
theorem z26 (w os):(zx w os).2.2.2.2.2.2.1=PyProof.Rows.plainGoodD v' []:=by kernel_rfl
theorem z27 (w os):(zx w os).2.2.2.2.2.2.2.1=wideGood v':=by kernel_rfl
theorem z28 (w os):(zx w os).2.2.2.2.2.2.2.2=clsGoodW v' []:=by kernel_rfl
theorem z2 (w os):zx w os=openGood v' []:=Prod.ext (z20 w os) (Prod.ext (z21 w os) (Prod.ext (z22 w os) (Prod.ext (z23 w os) (Prod.ext (z24 w os) (Prod.ext (z25 w os) (Prod.ext (z26 w os) (Prod.ext (z27 w os) (z28 w os))))))))
theorem z3 (w:World)(os:OsState):Hook.obs (Hk p') ⟨hf p' w.params,⟨[]⟩,{},1033,os⟩=Hook.val (Hk p') w:=by kernel_rfl
theorem xid:LeftO p' v' [] (fun s=>xlAt v' [] s&&recOk [] s) (Hook.obs (Hk p')) (Hook.val (Hk p')) 9494:=by
 have h1:=run;have h2:=z1;have h3:=z2;unfold zx at h3
 rw[show tb=treeTable from PySem.W.Fast.te14364793385576792824.symm] at h1
 rw[show im=importedModules p'.main.body from congrFun PySem.W.Fast.te5923862056798008813.symm _] at h2 h3
 rw[show PySem.W.Fast.tw4187177175401517315=openSeen from PySem.W.Fast.te4187177175401517315.symm] at h3
 exact LeftO.of_pieces (boot_open rfl rfl fun _=>rfl) z0 h1 (by decide) fun w=>funext fun os=>by
  rw[h2 w os,h3 w os,z3 w os]
theorem xe8 (p:Program)(h:p=p'):LeftO p (view p keep) [] (fun s=>xlAt (view p keep) [] s&&recOk [] s) (Hook.obs (Hk p)) (Hook.val (Hk p)) 9494:=by
 subst h;exact xid
theorem left:LeftO pg vw [] (fun s=>xlAt vw [] s&&recOk [] s) (Hook.obs (Hk pg)) (Hook.val (Hk pg)) 9494:=xe8 pg PySem.W.Fast.te12678769763663638660
end K19
namespace K19
open PySem L2 Trn
theorem code_at {P:Params}{h:Heap}(X:(K P).In h):PySem.W.CodeHd h 637 635 :=
 ⟨_,_,_,_,_,_,_,_,_,X 637 (kc "law" 1027 394 1 3 634 635 .none .none 636 1030 1031) (by kernel_rfl),rfl,rfl,rfl,rfl,rfl,rfl,rfl,rfl,by decide⟩
theorem xgV {P:Params}{h:Heap}{mg:Str→Option Value}(M:Mod (K P) mg h):h.BuiltinsAt mg 635 :=
 ⟨4,⟨.type "module", some 0,.plain,#[]⟩,PySem.W.mg_of M.kin M.glob (by kernel_rfl),by decide,by decide,by decide,M.kin _ _ (by kernel_rfl),rfl,rfl,rfl⟩
theorem me (P:Params):lZ (K P) 97:=⟨by kernel_rfl,by kernel_rfl,by kernel_rfl,by kernel_rfl,by kernel_rfl,by kernel_rfl,by kernel_rfl,by kernel_rfl⟩
theorem there {l:PySem.W.OpenLaw}{w:World}{P:Params}{h:Heap}{mg:Str→Option Value}{fa:Addr}(X:(K P).In h)(G:h.Ns mainGlobals mg)(hfa:mg "law" = some (.ref fa)) :
  ∃fd:FuncData,(∀(s:Shared) (v:Value),BindsTo s fd ⟨[v],[]⟩ [("_law_script", v)])∧∀base:Heap,Mod (K P) mg base→aM l.prog w (K P) mg base CX0 14 fa fd ["_law_script"] (dR (K P)) :=
 all_mk (c:=637) (T:=635) (a_CutError:=24) (a_NoField:=37) (a_NoWeights:=49) (a_NoCut:=61) (a_Nothing:=73) (a_NoTurn:=85) (a_NoCorner:=97) (a_NoNumber:=109) (a_NoText:=121) (a_NoLine:=133) (a_NoDeed:=145) X G hfa (dl 154 153 lw3 367)
  (dl 166 165 lw3 367)
  (dl 227 226 lw4 415)
  (dl 246 245 lw4 415)
  (dl 281 280 lw6 499)
  (dl 319 318 lw2 574)
  (dl 350 349 lw0 605)
  (dl 406 405 lw9 635)
  (dl 434 433 lw7 724)
  (dl 458 457 lw8 776)
  (dl 484 483 lw 829)
  (dl 498 497 lw 829)
  (dl 510 509 lw 829)
  (dl 545 544 lw 829)
  (dl 616 615 lw 829)
  (dl 159 158 lw3 367)
  (dl 173 172 lw3 367)
  (dl 232 231 lw4 415)
  (dl 239 238 lw4 415)
  (dl 295 294 lw6 499)
  (dl 302 301 lw6 499)
  (dl 364 363 lw9 635)
  (dl 385 384 lw9 635)
  (dl 392 391 lw9 635)
  (dl 399 398 lw9 635)
  (dl 427 426 lw7 724)
  (dl 451 450 lw8 776)
  (dl 491 490 lw 829)
  (dl 503 502 lw 829)
  (dl 517 516 lw 829)
  (dl 623 622 lw 829)
  (dl 180 179 lw3 367)
  (dl 187 186 lw3 367)
  (dl 213 212 lw4 415)
  (dl 220 219 lw4 415)
  (dl 253 252 lw6 499)
  (dl 288 287 lw6 499)
  (dl 371 370 lw9 635)
  (dl 378 377 lw9 635)
  (dl 420 419 lw7 724)
  (dl 446 445 lw8 776)
  (dl 524 523 lw 829)
  (dl 531 530 lw 829)
  (dl 552 551 lw 829)
  (dl 559 558 lw 829)
  (dl 595 594 lw 829)
  (dl 208 207 lw4 415)
  (dl 260 259 lw6 499)
  (dl 314 313 lw2 574)
  (dl 357 356 lw9 635)
  (dl 465 464 lw8 776)
  (dl 538 537 lw 829)
  (dl 566 565 lw 829)
  (dl 588 587 lw 829)
  (dl 602 601 lw 829)
  (dl 201 200 lw4 415)
  (dl 267 266 lw6 499)
  (dl 274 273 lw6 499)
  (dl 441 440 lw7 724)
  (dl 576 575 lw 829)
  (dl 609 608 lw 829)
  (dl 194 193 lw4 415)
  (dl 338 337 lw0 605)
  (dl 571 570 lw 829)
  (dl 633 632 lw 829)
  (dl 307 306 lw2 574)
  (dl 413 412 lw7 724)
  (dl 581 580 lw 829)
  (dl 326 325 lw2 574)
  (dl 472 471 "roundcuts.rounds" 808)
  (dl 333 332 lw0 605)
  (dl 343 342 lw0 605)
  (dl 477 476 "roundcuts.rounds" 808)
  (dl 628 627 lw 829)
  (by kernel_rfl:PySem.W.nsIn (K P) mainGlobals "law" = some (some (.ref 638))) (by kernel_rfl:(K P).lookup 638=some (kf "law" du 637 lw 829)) (by kernel_rfl:PySem.W.codeIn (K P) (.ref 637) "law" = true) (by kernel_rfl) (by kernel_rfl) (by kernel_rfl) (by kernel_rfl) (by kernel_rfl) (by kernel_rfl) (by kernel_rfl) (by kernel_rfl) (by kernel_rfl) (by kernel_rfl) (by kernel_rfl) (by kernel_rfl) (by kernel_rfl) (by kernel_rfl) (by kernel_rfl) (by kernel_rfl) (by kernel_rfl) (by kernel_rfl:PySem.W.nsIn (K P) mainGlobals "FAR" = some (some (.int 60001 417)))
  (by kernel_rfl) (by kernel_rfl) (by kernel_rfl) (by kernel_rfl) (by kernel_rfl) (by kernel_rfl) (by kernel_rfl) (by kernel_rfl) (by kernel_rfl) (by kernel_rfl) (by kernel_rfl)
  (me P) (by kernel_rfl) (by kernel_rfl) (by kernel_rfl) (by kernel_rfl) (by kernel_rfl) (by kernel_rfl) (by kernel_rfl) (by kernel_rfl) (by kernel_rfl) (by kernel_rfl) (by kernel_rfl) (by kernel_rfl) (by kernel_rfl)
  (by kernel_rfl) (by decide) (fun _ X=>code_at X) (fun _ M=>xgV M)
theorem kin {P:Params}{h:Heap}(Y:(Kh pg P).In h):(K P).In h:=fun b o e=>Y b o (by
 show(((635,_)::K P):List _).lookup b=_
 rw[xkB]
 split
 ·rename_i q
  rw[beq_iff_eq.mp q] at e
  rw[show(K P).lookup 635=none by kernel_rfl] at e;cases e
 ·exact e)
theorem xi7 {P:Params}{h:Heap}(Y:(Kh pg P).In h):h.get? 635=some { cls:=.none,data:=.fields #[] }:=Y _ _ (by kernel_rfl)
end K19
end
open PySem PySem.W PyProof.Rows
set_option maxRecDepth 100000 in
set_option maxHeartbeats 0 in
theorem PySem.Challenge.cw_roundcuts_k19_papers_of_broken_corners_holds : PySem.Challenge.rw_roundcuts_k19_papers_of_broken_corners.Holds := by
 w_on;o_law
 refine holds_open (q:=K19.vw) (XP:=XL K19.vw []) (YP:=Hook.says (K19.Hk _)) K19.left (Hook.of _) (Hook.keeps _) (fun s e=>xl_of s (Bool.and_eq_true_iff.mp e).1)
  XL.keeps rfl rfl rfl (fun s e=>recFacts_of (Bool.and_eq_true_iff.mp e).2) rfl (by assumption) (by decide +kernel) ⟨rfl,rfl,rfl,rfl,rfl,by decide +kernel⟩ ?hw ?hc
 case hw=>w_witness2
 exact L2.xc7 (l:=PySem.Challenge.rw_roundcuts_k19_papers_of_broken_corners) (k:=14) (K:=K19.K) (x := "_law_script") (q := "law.<locals>.<lambda>") (T:=635) rfl rfl ⟨rfl,by decide,by decide⟩ (fun w h Y=>K19.kin (PySem.W.kIn_of Y)) (fun P=>by kernel_rfl) (fun w h Y=>K19.xi7 (PySem.W.kIn_of Y)) (fun P=>by kernel_rfl)
  (fun w h X=>(K19.code_at X).isTable) (fun w mg fa h X G e=>K19.there X G e)
