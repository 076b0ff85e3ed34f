import PyProof.Rows.All
import Wide.All
import OpenK.AllK
import Wide.FinOn
import Lean
import PyProof.EqAt
import PyProof.EqKinds
import PyProof.TupleCall
import PyProof.ZipIter
import PyProof.NeData
import PyProof.P3Eq
import PyProof.EnumFor
import PyProof.EnumMake
import PyProof.Draws
import KE.KTryMore
import KE.KIsAll
import PyProof.ExcAttrAll.ValueError
import KE.KLam
import KE.KIntText
import PyProof.StrBlockG
import PyProof.StrLoop
import PyProof.StrWalks
import PyProof.Cells
import PySem.Challenge.RW_roundcuts_k91_texts_that_write_no_field
set_option Elab.async false
set_option linter.all false
set_option maxRecDepth 100000
set_option maxHeartbeats 4000000
set_option exponentiation.threshold 3000
set_option bootstrap.genMatcherCode false
set_option genSizeOfSpec false
set_option genInjectivity false
abbrev xjA:=@Array.all_eq_true
abbrev xjB:=@Array.getElem?_eq_some_iff
abbrev xjC:=@Array.getElem?_toList
abbrev xjD:=@Array.getElem_mem_toList
abbrev xjE:=@Array.length_toList
abbrev xjF:=@Array.toList_append
abbrev xjG:=@Array.toList_inj
abbrev xjH:=@Bool.and_eq_true
abbrev xjI:=@Bool.eq_iff_iff
abbrev xjJ:=@Bool.false_ne_true
abbrev xjK:=@Bool.not_eq_true'
abbrev xjL:=@Bool.or_eq_true
abbrev xjM:=@Int.add_zero
abbrev xjN:=@Int.dvd_coe_gcd
abbrev xjO:=@Int.dvd_natAbs
abbrev xjP:=@Int.emod_lt_of_pos
abbrev xjQ:=@Int.emod_nonneg
abbrev xjR:=@Int.eq_ofNat_of_zero_le
abbrev xjS:=@Int.eq_of_mul_eq_mul_right
abbrev xjT:=@Int.gcd_mul_left
abbrev xjU:=@Int.gcd_pos_of_ne_zero_right
abbrev xjV:=@Int.le_of_lt
abbrev xjW:=@Int.le_of_mul_le_mul_left
abbrev xjX:=@Int.le_refl
abbrev xjY:=@Int.lt_of_mul_lt_mul_right
abbrev xjZ:=@Int.lt_or_le
abbrev xj0:=@Int.lt_trichotomy
abbrev xj1:=@Int.mul_comm
abbrev xj2:=@Int.mul_dvd_mul_left
abbrev xj3:=@Int.mul_ediv_cancel'
abbrev xj4:=@Int.mul_eq_zero
abbrev xj5:=@Int.mul_le_mul_of_nonneg_left
abbrev xj6:=@Int.mul_le_mul_of_nonneg_right
abbrev xj7:=@Int.mul_lt_mul_of_pos_right
abbrev xj8:=@Int.mul_neg_of_neg_of_pos
abbrev xj9:=@Int.mul_neg_of_pos_of_neg
abbrev xj_:=@Int.mul_pos
abbrev xka:=@Int.natAbs_mul
abbrev xkb:=@Int.natCast_nonneg
abbrev xkc:=@Int.toNat_natCast
abbrev xkd:=@Int.zero_mul
abbrev xke:=@List.Sublist.refl
abbrev xkf:=@List.Sublist.trans
abbrev xkg:=@List.all_cons
abbrev xkh:=@List.all_eq_false
abbrev xki:=@List.all_eq_true
abbrev xkj:=@List.all_map
abbrev xkk:=@List.any_eq_false
abbrev xkl:=@List.any_eq_true
abbrev xkm:=@List.append_assoc
abbrev xkn:=@List.append_nil
abbrev xko:=@List.cons_append
abbrev xkp:=@List.drop_eq_getElem_cons
abbrev xkq:=@List.drop_left
abbrev xkr:=@List.drop_zero
abbrev xks:=@List.eraseIdx_eq_take_drop_succ
abbrev xkt:=@List.filterMap_cons
abbrev xku:=@List.filter_cons_of_neg
abbrev xkv:=@List.filter_cons_of_pos
abbrev xkw:=@List.foldl_append
abbrev xkx:=@List.foldl_cons
abbrev xky:=@List.forIn_cons
abbrev xkz:=@List.getD_eq_getElem?_getD
abbrev xkA:=@List.getElem?_append_left
abbrev xkB:=@List.getElem?_append_right
abbrev xkC:=@List.getElem?_drop
abbrev xkD:=@List.getElem?_eq_getElem
abbrev xkE:=@List.getElem?_eq_none
abbrev xkF:=@List.getElem?_eq_some_iff
abbrev xkG:=@List.getElem?_map
abbrev xkH:=@List.getElem?_set_ne
abbrev xkI:=@List.getElem?_set_self
abbrev xkJ:=@List.getElem_mem
abbrev xkK:=@List.isEmpty_map
abbrev xkL:=@List.length_append
abbrev xkM:=@List.length_cons
abbrev xkN:=@List.length_drop
abbrev xkO:=@List.length_eq_zero_iff
abbrev xkP:=@List.length_map
abbrev xkQ:=@List.length_pos_iff
abbrev xkR:=@List.length_set
abbrev xkS:=@List.length_singleton
abbrev xkT:=@List.length_take
abbrev xkU:=@List.lookup_cons
abbrev xkV:=@List.map_append
abbrev xkW:=@List.map_congr_left
abbrev xkX:=@List.map_cons
abbrev xkY:=@List.map_drop
abbrev xkZ:=@List.map_map
abbrev xk0:=@List.map_nil
abbrev xk1:=@List.map_take
abbrev xk2:=@List.mem_append
abbrev xk3:=@List.mem_append_left
abbrev xk4:=@List.mem_append_right
abbrev xk5:=@List.mem_cons
abbrev xk6:=@List.mem_cons_of_mem
abbrev xk7:=@List.mem_cons_self
abbrev xk8:=@List.mem_filter
abbrev xk9:=@List.mem_filterMap
abbrev xk_:=@List.mem_iff_getElem
abbrev xla:=@List.mem_map
abbrev xlb:=@List.mem_map_of_mem
abbrev xlc:=@List.mem_of_getElem?
abbrev xld:=@List.mem_of_mem_drop
abbrev xle:=@List.mem_of_mem_take
abbrev xlf:=@List.mem_range
abbrev xlg:=@List.mem_singleton
abbrev xlh:=@List.nil_append
abbrev xli:=@List.nodup_append
abbrev xlj:=@List.nodup_cons
abbrev xlk:=@List.not_mem_nil
abbrev xll:=@List.range_succ
abbrev xlm:=@List.singleton_sublist
abbrev xln:=@List.size_toArray
abbrev xlo:=@List.sublist_append_iff
abbrev xlp:=@List.sublist_append_right
abbrev xlq:=@List.take_append_drop
abbrev xlr:=@List.take_of_length_le
abbrev xls:=@List.take_succ
abbrev xlt:=@Nat.le_add_right
abbrev xlu:=@Nat.le_mul_of_pos_right
abbrev xlv:=@Nat.le_of_lt
abbrev xlw:=@Nat.le_refl
abbrev xlx:=@Nat.le_succ
abbrev xly:=@Nat.le_trans
abbrev xlz:=@Nat.lt_irrefl
abbrev xlA:=@Nat.lt_of_le_of_lt
abbrev xlB:=@Nat.lt_of_lt_of_le
abbrev xlC:=@Nat.lt_succ_of_lt
abbrev xlD:=@Nat.lt_succ_self
abbrev xlE:=@Nat.min_le_right
abbrev xlF:=@Nat.mul_le_mul_right
abbrev xlG:=@Nat.ne_of_gt
abbrev xlH:=@Nat.ne_of_lt
abbrev xlI:=@Nat.sub_zero
abbrev xlJ:=@Nat.zero_le
abbrev xlK:=@Option.getD_some
abbrev xlL:=@Option.some.inj
abbrev xlM:=@beq_iff_eq
abbrev xlN:=@congrArg
abbrev xlO:=@decide_eq_decide
abbrev xlP:=@decide_eq_false
abbrev xlQ:=@decide_eq_false_iff_not
abbrev xlR:=@decide_eq_true
abbrev xlS:=@decide_eq_true_eq
abbrev xlT:=@decide_eq_true_iff
abbrev xlU:=@of_decide_eq_false
abbrev xlV:=@of_decide_eq_true
abbrev xlW:=@or_false
noncomputable section
namespace L2
open PySem PySem.Spec PyProof.Rows
abbrev Key:=Sum Int Str
def xgA:Key→Value→Bool
 | .inl k,v=>Value.isInt k v
 | .inr x,v=>Value.isStrOf x v
def xjs (w:World):Key→Int
 | .inl k=>hashInt k
 | .inr x=>hashStr w x
theorem y9:∀ {k:Key} {v:Value},xgA k v=true→(∃i t,k=Sum.inl i∧v=Value.int i t)∨(∃x t,k=Sum.inr x∧v=Value.str x t)
 | .inl i,v,h=>by
  obtain⟨t,e⟩:=Value.isInt_shape (k:=i) (v:=v) h
  exact .inl ⟨i,t,rfl,e⟩
 | .inr x,v,h=>by
  obtain⟨t,e⟩:=Value.isStrOf_shape (x:=x) (v:=v) h
  exact .inr ⟨x,t,rfl,e⟩
theorem xf9 (a b:Int):decide ((Sum.inl a:Key)=Sum.inl b)=(a == b):=by
 by_cases e:a=b
 ·subst e;simp
 ·have h:¬(Sum.inl a:Key)=Sum.inl b:=fun q=>e (Sum.inl.inj q)
  rw[xlP h]
  exact(beq_eq_false_iff_ne.mpr e).symm
theorem xf2 (a b:Str):decide ((Sum.inr a:Key)=Sum.inr b)=decide (a=b):=by
 by_cases e:a=b
 ·subst e;simp
 ·have h:¬(Sum.inr a:Key)=Sum.inr b:=fun q=>e (Sum.inr.inj q)
  rw[xlP h,xlP e]
theorem xhk (a:Int)(b:Str):decide ((Sum.inl a:Key)=Sum.inr b)=false:=xlP (fun q=>nomatch q)
theorem xhs (a:Str)(b:Int):decide ((Sum.inr a:Key)=Sum.inl b)=false:=xlP (fun q=>nomatch q)
def xb6 (prog:Program)(w:World):PySem.KeyKind prog w Key where
 is:=xgA
 hash:=xjs w
 inj:=fun v a b ha hb=>by
  rcases y9 ha with ⟨i,t,rfl,rfl⟩ | ⟨x,t,rfl,rfl⟩
  ·rcases y9 hb with ⟨j,u,rfl,e⟩ | ⟨y,u,rfl,e⟩
   ·injection e with e1 _;rw[e1]
   ·exact nomatch e
  ·rcases y9 hb with ⟨j,u,rfl,e⟩ | ⟨y,u,rfl,e⟩
   ·exact nomatch e
   ·injection e with e1 _;rw[e1]
 byValue:=fun k v h=>by
  rcases y9 h with ⟨i,t,rfl,rfl⟩ | ⟨x,t,rfl,rfl⟩<;>rfl
 pyHash:=fun hv h=>by
  rcases y9 hv with ⟨i,t,rfl,rfl⟩ | ⟨x,t,rfl,rfl⟩
  ·exact wpAny_pyHash_int h
  ·exact wpAny_pyHash_str h
 eqBool:=fun hu hv h=>by
  rcases y9 hu with ⟨i,t,rfl,rfl⟩ | ⟨x,t,rfl,rfl⟩
  ·rcases y9 hv with ⟨j,u,rfl,rfl⟩ | ⟨y,u,rfl,rfl⟩
   ·rw[xf9] at h;exact wpAny_eqBool_int h
   ·rw[xhk] at h;exact SeqAt.EqAt.int_str i t y u _ _ _ _ h
  ·rcases y9 hv with ⟨j,u,rfl,rfl⟩ | ⟨y,u,rfl,rfl⟩
   ·rw[xhs] at h;exact SeqAt.EqAt.str_int x t j u _ _ _ _ h
   ·rw[xf2] at h;exact wpAny_eqBool_str h
 «strs» := fun k x t v h=>by
  rcases y9 h with ⟨i,u,rfl,e⟩ | ⟨y,u,rfl,e⟩
  ·exact nomatch e
  ·injection e with e1 _
   subst e1
   cases v<;>rfl
end L2
namespace L2
open PySem PySem.Spec PyProof.Rows
inductive V where
 | non | bl (b:Bool) | int (i:Int) | str (x:Str) | byt (b:Array UInt8) | flt (b:UInt64) | ref (a:Addr) | ty (n:String)
 deriving DecidableEq
def RelV:V→Value→Prop
 | .non,u=>u=Value.none
 | .bl b,u=>u=Value.bool b
 | .int i,u=>∃t,u=Value.int i t
 | .str x,u=>∃t,u=Value.str x t
 | .byt b,u=>∃t,u=Value.bytes b t
 | .flt b,u=>∃t,u=Value.float b t
 | .ref a,u=>u=Value.ref a
 | .ty n,u=>u=Value.type n
abbrev zf:List V→List Value→Prop:=Paired RelV
theorem zf.length (r:zf xs us):xs.length=us.length:=Paired.length r
theorem zf.get:∀ {xs:List V} {us:List Value} {i:Nat} {x:V},zf xs us→xs[i]? = some x→∃u,us[i]? = some u∧RelV x u
 | _,_,_,_,.nil,e=>by simp at e
 | _,_,0,_,.cons r _,e=>by simp at e;subst e;exact⟨_,rfl,r⟩
 | _,_,i+1,x,.cons _ t,e=>by
  obtain⟨u,h1,h2⟩:=zf.get (i:=i) (x:=x) t (by simpa using e)
  exact⟨u,by simpa using h1,h2⟩
theorem zf.set (r:RelV x u):∀ {xs:List V} {us:List Value} (i:Nat),zf xs us→zf (xs.set i x) (us.set i u)
 | _,_,_,.nil=>.nil
 | _,_,0,.cons _ t=>.cons r t
 | _,_,i+1,.cons q t=>.cons q (zf.set r i t)
theorem zf.append:∀ {xs ys:List V} {us ws:List Value},zf xs us→zf ys ws→zf (xs++ys) (us++ws)
 | _,_,_,_,.nil,s=>s
 | _,_,_,_,.cons r t,s=>.cons r (zf.append t s)
theorem zf.take:∀ {xs:List V} {us:List Value} (n:Nat),zf xs us→zf (xs.take n) (us.take n)
 | _,_,0,_=>.nil
 | _,_,_+1,.nil=>.nil
 | _,_,n+1,.cons r t=>.cons r (zf.take n t)
theorem zf.drop:∀ {xs:List V} {us:List Value} (n:Nat),zf xs us→zf (xs.drop n) (us.drop n)
 | _,_,0,r=>r
 | _,_,_+1,.nil=>.nil
 | _,_,n+1,.cons _ t=>zf.drop n t
def xii:Option V→Option Value→Prop
 | some v,some u=>RelV v u
 | none,none=>True
 | _,_=>False
def KV:List (κ×V)→List (κ×Value)→Prop:=Paired fun(p:κ×V) (q:κ×Value)=>p.1=q.1∧RelV p.2 q.2
def kV:Key→V
 | .inl i=>.int i
 | .inr x=>.str x
inductive HO where
  | lst (xs:List V)
  | tup (xs:List V)
  | dK (kvs:List (Key×V)) | dT (kvs:List (List Key×V))
  | set (S:Int→Bool) (n:Nat)
  | ins (C dx:Addr) (fs:List (Str×V))
  | own (x:Addr)
  | xd (fs:List (Str×V))
  | met (f x:Addr)
  | rng (lo hi:Int)
  | frz (o:Obj) (u:HO)
  | tbl (ps:Array Value)
 | tb (q:Str)
  | ext (φ:Heap→Prop)
abbrev Hp:=Addr→Option HO
def upd (H:Hp)(a:Addr)(o:HO):Hp:=fun b=>if b=a then some o else H b
theorem xZ:upd H a o a=some o:=by unfold upd;rw[if_pos rfl]
theorem xW (h:b≠a):upd H a o b=H b:=by unfold upd;rw[if_neg h]
theorem xg0 {H:Hp}{a b:Addr}{o u:HO}(h:H a=some o)(h':H b=some u)(d:o≠u):a≠b:=by
 intro e;subst e;rw[h] at h';exact d (xlL h')
theorem xF {H:Hp}{a b:Addr}{o:HO}(h:H a=some o)(h':H b=none):a≠b:=by
 intro e;subst e;rw[h] at h';cases h'
section
variable (P:Program) (w:World)
def wj (H:Hp)(h:Heap)(a:Addr):HO→Prop
 | .lst xs=>xs.length≤sizeLine∧∃(its:List Value) (n:Nat),zf xs its∧h.get? a=some { cls:=.type "list", data:=.seq its.toArray n }
 | .tup xs=>xs.length≤sizeLine∧∃its:List Value,zf xs its∧IsTup h a its.toArray
 | .dK kvs=>kvs.length≤sizeLine∧(a == sysModules)=false∧∃vs,KV kvs vs∧h.DictOf (xb6 P w) a vs
 | .dT kvs=>kvs.length≤sizeLine∧(a == sysModules)=false∧∃xs:List (List Key×Addr×Value),
   Paired (fun(p:List Key×V) (q:List Key×Addr×Value)=>p.1=q.1∧H q.2.1=some (.tup (p.1.map kV))∧RelV p.2 q.2.2) kvs xs ∧
   ∃o es ep,h.get? a=some o∧o.ExactDict∧o.data=.dict es ep∧es.toList=xs.map (entryOfKey (tupleKind (xb6 P w)))∧(xs.map (·.1)).Nodup
 | .set S n=>h.SetOf (intKind P w) a S n
 | .ins C dx fs=>H dx=some (.own a)∧fs.length≤1000∧dx≠a∧h.get? a=some (PySem.W.instObj C dx) ∧
   ∃mA,h.Ns1 dx mA∧(∀f,xii (fs.lookup f) (mA f))∧PySem.Within mA (fs.map (·.1))
 | .own _=>∃o,h.get? a=some o
 | .xd fs=>∃mA,h.Ns1 a mA∧∀f,xii (fs.lookup f) (mA f)
 | .rng lo hi=>∃t u v,h.get? a=some { cls:=.type "range", data:=.fields #[.int lo t,.int hi u,.int 1 v] }
 | .frz o u=>h.get? a=some o∧wj H h a u
 | .tbl ps=>h.get? a=some { cls:=.none,data:=.fields ps }
 | .tb q=>∃ps:Array Value,h.get? a=some { cls:=.none,data:=.fields ps }∧TriplesOk ps.toList∧∀pos cv,codeAmong pos ps.toList=some cv →
   ∃c oc vs t,cv=.ref c∧H c=some (.frz oc (.own c))∧oc.data=.fields vs∧vs[1]? = some (.str q t)
 | .met f x=>h.get? a=some (PySem.W.methodObj (.ref f) (.ref x))
 | .ext φ=>φ h∧(∃o,h.get? a=some o)∧∀h1 h2:Heap,φ h1→(∀o,h1.get? a=some o→h2.get? a=some o)→φ h2
def HOk (H:Hp)(h:Heap):Prop:=∀a o,H a=some o→wj P w H h a o
end
section
variable {P:Program} {w:World} {H H':Hp} {h h':Heap} {a:Addr} {o:HO}
theorem wj.lt (x:wj P w H h a o):a<h.objs.size:=by
 cases o with
 | lst xs=>obtain⟨_,_,_,_,e⟩:=x;exact Heap.lt_size e
 | tup xs=>obtain⟨_,_,_,p⟩:=x;exact p.lt
 | dK kvs=>obtain⟨_,_,_,_,o,_,_,e,_⟩:=x;exact Heap.lt_size e
 | dT kvs=>obtain⟨_,_,_,_,o,_,_,e,_⟩:=x;exact Heap.lt_size e
 | set S n=>obtain⟨o,_,_,_,e,_⟩:=x;exact Heap.lt_size e
 | ins C dx fs=>obtain⟨_,_,_,e,_⟩:=x;exact Heap.lt_size e
 | own y=>obtain⟨_,e⟩:=x;exact Heap.lt_size e
 | xd fs=>obtain⟨_,⟨_,_,_,e,_⟩,_⟩:=x;exact Heap.lt_size e
 | rng lo hi=>obtain⟨_,_,_,e⟩:=x;exact Heap.lt_size e
 | frz ob u=>obtain⟨e,_⟩:=x;exact Heap.lt_size e
 | tbl ps=>exact Heap.lt_size (show h.get? a=some _ from x)
 | tb q=>obtain⟨_,e,_⟩:=x;exact Heap.lt_size e
 | met f y=>exact Heap.lt_size (show h.get? a=some _ from x)
 | ext φ=>obtain⟨_,⟨_,e⟩,_⟩:=x;exact Heap.lt_size e
theorem Paired.mapP:∀ {l₁:List α} {l₂:List β},Paired F l₁ l₂→(∀a b,F a b→G a b)→Paired G l₁ l₂
 | _,_,.nil,_=>.nil
 | _,_,.cons r t,f=>.cons (f _ _ r) (Paired.mapP t f)
theorem wj.stay (x:wj P w H h a o)(k:∀b u,(b=a∨H b=some (.own a))→h.get? b=some u→h'.get? b=some u)
  (ho:∀b,H b=some (.own a)→H' b=some (.own a)) (ht:∀b xs,H b=some (.tup xs)→H' b=some (.tup xs)) (hf:∀b o u,H b=some (.frz o u)→H' b=some (.frz o u)):wj P w H' h' a o:=by
 induction o with
 | lst xs=>obtain⟨z,its,n,r,e⟩:=x;exact⟨z,its,n,r,k _ _ (.inl rfl) e⟩
 | tup xs=>obtain⟨z,its,r,ob,e,c⟩:=x;exact⟨z,its,r,ob,k _ _ (.inl rfl) e,c⟩
 | dK kvs=>obtain⟨z,y,vs,r,ob,es,ep,e,c⟩:=x;exact⟨z,y,vs,r,ob,es,ep,k _ _ (.inl rfl) e,c⟩
 | dT kvs =>
  obtain⟨z,y,xs,r,ob,es,ep,e,c⟩:=x
  exact⟨z,y,xs,Paired.mapP r fun p q z=>⟨z.1,ht _ _ z.2.1,z.2.2⟩,ob,es,ep,k _ _ (.inl rfl) e,c⟩
 | set S n=>obtain⟨ob,es,ep,t,e,c⟩:=x;exact⟨ob,es,ep,t,k _ _ (.inl rfl) e,c⟩
 | ins C dx fs =>
  obtain⟨d,z,ne,e,mA,⟨od,es,ep,e2,c⟩,r⟩:=x
  exact⟨ho _ d,z,ne,k _ _ (.inl rfl) e,mA,⟨od,es,ep,k _ _ (.inr d) e2,c⟩,r⟩
 | own y=>obtain⟨ob,e⟩:=x;exact⟨ob,k _ _ (.inl rfl) e⟩
 | xd fs=>obtain⟨mA,⟨od,es,ep,e,c⟩,r⟩:=x;exact⟨mA,⟨od,es,ep,k _ _ (.inl rfl) e,c⟩,r⟩
 | rng lo hi=>obtain⟨t,u,v,e⟩:=x;exact⟨t,u,v,k _ _ (.inl rfl) e⟩
 | frz ob u ih=>obtain⟨e,q⟩:=x;exact⟨k _ _ (.inl rfl) e,ih q⟩
 | tbl ps =>
  have e:h.get? a=some { cls:=.none,data:=.fields ps }:=x
  show h'.get? a=some { cls:=.none,data:=.fields ps }
  exact k a _ (.inl rfl) e
 | tb q =>
  obtain⟨ps,e,z,y⟩:=x
  exact⟨ps,k _ _ (.inl rfl) e,z,fun pos cv e=>let ⟨c,oc,vs,t,e1,e2,e3⟩:=y pos cv e;⟨c,oc,vs,t,e1,hf _ _ _ e2,e3⟩⟩
 | met f y =>
  have e:h.get? a=some (PySem.W.methodObj (.ref f) (.ref y)):=x
  show h'.get? a=some (PySem.W.methodObj (.ref f) (.ref y))
  exact k a _ (.inl rfl) e
 | ext φ=>obtain⟨p,⟨o,e⟩,st⟩:=x;exact⟨st _ _ p fun o q=>k _ _ (.inl rfl) q,⟨o,k _ _ (.inl rfl) e⟩,st⟩
theorem HOk.lt (x:HOk P w H h)(e:H a=some o):a<h.objs.size:=(x a o e).lt
theorem HOk.fresh (x:HOk P w H h)(e:h.objs.size≤a):H a=none:=by
 cases q:H a with
 | none=>rfl
 | some u=>exact absurd (xlB (x.lt q) e) (xlz _)
theorem HOk.kept (x:HOk P w H h)(k:∀b u,h.get? b=some u→h'.get? b=some u):HOk P w H h':=fun a o e =>
 (x a o e).stay (fun b u _ q=>k b u q) (fun _ q=>q) (fun _ _ q=>q) fun _ _ _ q=>q
theorem HOk.laid (x:HOk P w H h)(k:∀b u,h.get? b=some u→h'.get? b=some u)(hp:h.objs.size≤a)(new:wj P w (upd H a o) h' a o):HOk P w (upd H a o) h':=fun b u e=>by
 have hn:=x.fresh hp
 by_cases hb:b=a
 ·subst hb;rw[xZ] at e;cases e;exact new
 ·rw[xW hb] at e
  exact(x b u e).stay (fun c v _ q=>k c v q) (fun c q=>by rw[xW (xF q hn)];exact q) (fun c xs q=>by rw[xW (xF q hn)];exact q) fun c o u q=>by rw[xW (xF q hn)];exact q
end
def Rd (H:Hp)(a:Addr)(u:HO):Prop:=H a=some u∨∃o,H a=some (.frz o u)
theorem Rd.ok (r:Rd H a u)(x:HOk P w H h):wj P w H h a u:=by
 rcases r with r | ⟨o,r⟩
 ·exact x a u r
 ·obtain⟨_,q⟩:=x a _ r
  exact q
def Mut:Option HO→Prop
 | some (.lst _)=>True
 | some (.dK _)=>True
 | some (.dT _)=>True
 | some (.set _ _)=>True
 | some (.ins _ _ _)=>True
 | some (.ext _)=>True
 | some (.tb _)=>True
 | _=>False
section
variable {P:Program} {w:World} {H:Hp} {h h':Heap} {x e:Addr} {o':HO}
theorem HOk.write (ok:HOk P w H h)(mu:Mut (H x))(he:e=x∨H e=some (.own x))(k:∀b u,b≠e→h.get? b=some u→h'.get? b=some u)(heo:∃u,h'.get? e=some u)
  (new:wj P w (upd H x o') h' x o'):HOk P w (upd H x o') h':=fun b u q=>by
 have nown:∀c y,H c=some (.own y)→c≠x:=fun c y r z=>by subst z;rw[r] at mu;exact mu
 have ntup:∀c xs,H c=some (.tup xs)→c≠x:=fun c xs r z=>by subst z;rw[r] at mu;exact mu
 have nfrz:∀c o u,H c=some (.frz o u)→c≠x:=fun c o u r z=>by subst z;rw[r] at mu;exact mu
 by_cases hb:b=x
 ·subst hb;rw[xZ] at q;cases q;exact new
 ·rw[xW hb] at q
  by_cases hbe:b=e
  ·have q':H b=some (.own x):=by
    rcases he with z | z
    ·exact absurd (hbe.trans z) hb
    ·rw[hbe];exact z
   rw[q] at q';cases q'
   obtain⟨v,hv⟩:=heo
   exact⟨v,by rw[hbe];exact hv⟩
  ·refine(ok b u q).stay (fun c v hc r=>k c v ?_ r) (fun c r=>by rw[xW (nown c b r)];exact r) (fun c xs r=>by rw[xW (ntup c xs r)];exact r) fun c o u r=>by rw[xW (nfrz c o u r)];exact r
   rcases hc with rfl | hc
   ·exact hbe
   ·rintro rfl
    rcases he with z | z
    ·exact nown c b hc z
    ·rw[hc] at z;cases z;exact hb rfl
end
structure Un (fs ex:List Addr)(H H':Hp)(h h':Heap):Prop where
 keep:∀b o,h.get? b=some o→H b=none→b∉fs→b∉ex→h'.get? b=some o
 slot:∀b o,h.get? b=some o→H b=none→b∈fs→b∉ex→∃sl,h'.get? b=some { o with slots:=sl }
 free:∀b o,h.get? b=some o→H b=none→b∉ex→H' b=none
 there:∀b o,h.get? b=some o→b∉ex→∃o',h'.get? b=some o'
 tups:∀b xs,H b=some (.tup xs)→H' b=some (.tup xs)
 frzs:∀b o u,H b=some (.frz o u)→H' b=some (.frz o u)
 tbls:∀b ps,H b=some (.tbl ps)→∃more,H' b=some (.tbl (ps++more))
section
variable {fs fs' ex ex':List Addr} {H H1 H2:Hp} {h h1 h2 h':Heap} {a x e:Addr} {o:HO}
theorem Un.any (u:Un fs ex H H1 h h1)(q:h.get? b=some ob)(n:H b=none)(hx:b∉ex):∃sl,h1.get? b=some { ob with slots:=sl }:=by
 by_cases hb:b∈fs
 ·exact u.slot b ob q n hb hx
 ·exact⟨ob.slots,u.keep b ob q n hb hx⟩
theorem Un.kept (k:∀b u,h.get? b=some u→h'.get? b=some u):Un fs ex H H h h' :=
 ⟨fun b ob q _ _ _=>k b ob q,fun b ob q _ _ _=>⟨ob.slots,k b ob q⟩,fun _ _ _ n _=>n,fun b ob q _=>⟨ob,k b ob q⟩,fun _ _ q=>q,fun _ _ _ q=>q,fun _ ps q=>⟨#[],by rw[q];simp⟩⟩
theorem Un.refl:Un fs ex H H h h:=Un.kept fun _ _ q=>q
theorem Un.laid (k:∀b u,h.get? b=some u→h'.get? b=some u)(hp:h.objs.size≤a)(hn:H a=none):Un fs ex H (upd H a o) h h' where
 keep:=fun b u q _ _ _=>k b u q
 slot:=fun b u q _ _ _=>⟨u.slots,k b u q⟩
 free:=fun b u q n _=>by rw[xW (xlH (xlB (Heap.lt_size q) hp))];exact n
 there:=fun b u q _=>⟨u,k b u q⟩
 tups:=fun b xs q=>by rw[xW (xF q hn)];exact q
 frzs:=fun b u xs q=>by rw[xW (xF q hn)];exact q
 tbls:=fun b ps q=>⟨#[],by rw[xW (xF q hn),q];simp⟩
theorem Un.write (mu:Mut (H x))(he:e=x∨H e=some (.own x))(k:∀b u,b≠e→h.get? b=some u→h'.get? b=some u)(heo:∃u,h'.get? e=some u):Un fs ex H (upd H x o) h h':=by
 have hx:∀b,H b=none→b≠x:=fun b n z=>by subst z;rw[n] at mu;exact mu
 have hb:∀b,H b=none→b≠e:=fun b n z=>by
  subst z
  rcases he with r | r
  ·exact hx b n r
  ·rw[n] at r;cases r
 have hm:∀b u,H b=some u→¬Mut (some u)→b≠x:=fun b u q nm z=>by subst z;rw[q] at mu;exact nm mu
 refine⟨fun b u q n _ _=>k b u (hb b n) q,fun b u q n _ _=>⟨u.slots,k b u (hb b n) q⟩,fun b u q n _=>by rw[xW (hx b n)];exact n,fun b u q _=>?_,
  fun b xs q=>by rw[xW (hm b _ q fun z=>z)];exact q,fun b u xs q=>by rw[xW (hm b _ q fun z=>z)];exact q,fun b ps q=>⟨#[],by rw[xW (hm b _ q fun z=>z),q];simp⟩⟩
 by_cases hbe:b=e
 ·subst hbe;exact heo
 ·exact⟨u,k b u hbe q⟩
end
def trk (h:Heap)(H:Hp):List Addr:=(List.range h.objs.size).filter fun a=>(H a).isSome
def pj (h:Heap)(H:Hp):Heap:=PySem.W.hideAll h (trk h H)
theorem tY (h:Heap)(H:Hp):(pj h H).objs.size=h.objs.size:=PySem.W.hideAll_size _ _
theorem pR (e:h.get? b=some o)(n:H b=none):(pj h H).get? b=some o :=
 PySem.W.hideAll_get _ e fun hm=>by
  have q:(H b).isSome=true:=(xk8.mp hm).2
  rw[n] at q;simp at q
theorem lW (e:(pj h H).get? b=some o):h.get? b=some o∧H b=none:=by
 have e':h.get? b=some o:=PySem.W.of_hideAll (trk h H) e
 refine⟨e',?_⟩
 cases q:H b with
 | none=>rfl
 | some x =>
  have hm:b∈trk h H:=xk8.mpr ⟨xlf.mpr (Heap.lt_size e'),by simp[q]⟩
  have z:(pj h H).get? b=none:=PySem.W.hideAll_none (trk h H) hm
  rw[z] at e;cases e
def xfM (g h:Heap)(L:Addr):List (Addr×Obj):=(List.range h.objs.size).filterMap fun a=>if a=L∨(g.get? a).isSome=true then none else(h.get? a).map fun o=>(a,o)
def rest (g h:Heap)(L d:Addr):List (Addr×Obj):=(xfM g h L).filter fun p=>decide (p.1≠d)
end L2
namespace L2
open PySem PySem.Spec PyProof.Rows
structure Mod (K:PySem.W.Frag)(mg:Str→Option Value)(base:Heap):Prop where
 kin:K.In base
 glob:base.Ns mainGlobals mg
 blt:∃mb,base.Ns builtinsNs mb∧∀x:Str,x ≠ "__name__" → mb x=bootBuiltins x
 nolimit:base.NoLimit
structure Cx where
 prog:Program
 w:World
 K:PySem.W.Frag
 mg:Str→Option Value
 base:Heap
 A:Around
 N:List Str
 s₀:Shared
 H₀:Hp
 env:Env
 outer:List Env
 stack:List Env
 ex:List Addr
 fn:Str→Bool
 calm:Bool
 pn:List (Addr×Obj)
 xe:Value→Shared→Prop
def frs (l:List Env):List Addr:=l.filterMap (·.frame)
abbrev Cx.fs (X:Cx):List Addr:=frs X.outer
def Vis (sc:Scope)(x:Str):Prop:=sc.names.lookup x=some .local∨sc.names.lookup x=some .cell∨sc.names.lookup x=some .free
def Loc (sc:Scope)(x:Str):Prop:=sc.names.lookup x=some .local∨sc.names.lookup x=some .cell
def Look (env:Env)(h:Heap)(m:Str→Option Value)(x:Str)(u:Value):Prop :=
 (env.kindOf x=some .local∧m x=some u)∨((env.kindOf x=some .cell∨env.kindOf x=some .free)∧∃c,env.cells.lookup x=some c∧h.IsCell c (some u))
structure Cx.Ok (X:Cx):Prop where
 mod:Mod X.K X.mg X.base
 kind:X.env.scope.kind=.function
 glob:X.env.globals=mainGlobals
 blt:X.env.builtins=builtinsNs
 above:X.s₀.heap.objs.size≤X.env.locals
 inj:∀x y c,X.env.cells.lookup x=some c→X.env.cells.lookup y=some c→x=y
 has:∀x,(X.env.kindOf x=some .cell∨X.env.kindOf x=some .free)→∃c,X.env.cells.lookup x=some c
 cab:∀x c,X.fn x=true→X.env.cells.lookup x=some c→X.s₀.heap.objs.size≤c
 hd:X.calm=true→X.A.handled=none
 frames:X.A.frames=some X.stack
 stk:X.stack=X.outer∨(X.stack=X.env::X.outer∧X.env.frame=some X.env.locals)
 exf:∀b∈X.ex,b≠X.env.locals∧∀x c,X.env.cells.lookup x=some c→c≠b
 bs:∀b o,X.base.get? b=some o→X.s₀.heap.get? b=some o∧X.H₀ b=none
 bsz:X.base.objs.size≤X.s₀.heap.objs.size
 noex:∀b o,X.base.get? b=some o→b∉X.ex
 exfs:∀b∈X.ex,b∉X.fs
 funs:X.s₀.heap.FunFrames X.base X.outer
 frf:∀b∈X.fs,X.H₀ b=none
structure Inv (X:Cx)(pins:List (Addr×Obj))(σ:List (Option V))(H:Hp)(s:Shared):Prop where
 ok:X.Ok
 os:s.os=X.s₀.os
 bare:AllBare s.gens
 base:Un X.fs X.ex X.H₀ H X.s₀.heap s.heap
 loc:∃m,s.heap.Ns X.env.locals m∧∀(i:Nat) (x:Str) (v:V),X.N[i]? = some x→σ[i]? = some (some v)→Vis X.env.scope x→∃u,RelV v u∧Look X.env s.heap m x u
 cell:∀x c,X.env.cells.lookup x=some c→∃v,s.heap.IsCell c v
 free:H X.env.locals=none
 freeC:∀x c,X.env.cells.lookup x=some c→H c=none
 pin:∀p∈X.pn++pins,s.heap.get? p.1=some p.2∧H p.1=none∧p.1≠X.env.locals∧p.1∉X.fs∧∀v,p.2.data≠.cell v
 hok:HOk X.prog X.w H s.heap
 len:σ.length=X.N.length
section
variable {X:Cx} {pins:List (Addr×Obj)} {σ:List (Option V)} {H H':Hp} {s:Shared} {h':Heap}
theorem Cx.Ok.nofr (ok:X.Ok)(e:X.base.get? b=some o):b∉X.fs:=fun hb=>by
 have:=(ok.funs.mem hb).1
 rw[e] at this;cases this
theorem Inv.bs (I:Inv X pins σ H s):∀b o,X.base.get? b=some o→s.heap.get? b=some o∧H b=none:=fun b o e =>
 ⟨I.base.keep b o (I.ok.bs b o e).1 (I.ok.bs b o e).2 (I.ok.nofr e) (I.ok.noex b o e),I.base.free b o (I.ok.bs b o e).1 (I.ok.bs b o e).2 (I.ok.noex b o e)⟩
theorem Inv.bk (I:Inv X pins σ H s):∀b o,X.base.get? b=some o→s.heap.get? b=some o:=fun b o e=>(I.bs b o e).1
theorem Inv.mod (I:Inv X pins σ H s):Mod X.K X.mg X.base:=I.ok.mod
theorem Inv.kIn (I:Inv X pins σ H s):X.K.In s.heap:=I.ok.mod.kin.keeps I.bk
theorem Inv.fr (I:Inv X pins σ H s):∃m,Fr X.base X.env.locals s.heap m :=
 let ⟨m,hn,_⟩:=I.loc
 ⟨m,hn,I.bk,xly I.ok.bsz I.ok.above⟩
theorem Inv.lt (I:Inv X pins σ H s):X.env.locals<s.heap.objs.size:=let ⟨_,hn,_⟩:=I.loc;hn.lt
theorem Inv.sz (I:Inv X pins σ H s):X.s₀.heap.objs.size≤s.heap.objs.size:=xly I.ok.above (xlv I.lt)
theorem Inv.nofs (I:Inv X pins σ H s)(h:s.heap.objs.size≤a):a∉X.fs:=fun hb=>by
 obtain⟨_,o,ho,_⟩:=I.ok.funs.mem hb
 exact absurd (xlB (Heap.lt_size ho) (xly I.sz h)) (xlz _)
theorem Inv.cne (I:Inv X pins σ H s):∀x c,X.env.cells.lookup x=some c→c≠X.env.locals:=fun x c e z=>by
 obtain⟨v,o,ho,hd⟩:=I.cell x c e
 obtain⟨m,⟨o',es,ep,ho',hd',_⟩,_⟩:=I.loc
 rw[z,ho'] at ho;cases ho;rw[hd'] at hd;cases hd
theorem Inv.funs (I:Inv X pins σ H s):s.heap.FunFrames X.base X.outer:=by
 have all:∀(l:List Env),(∀b∈frs l,b∈X.fs)→X.s₀.heap.FunFrames X.base l→s.heap.FunFrames X.base l:=by
  intro l
  induction l with
  | nil=>intro _ _;trivial
  | cons env r ih =>
   intro hs hl
   obtain⟨hk,⟨L,o,hf,hn,ho,hd⟩,hr⟩:=hl
   have hL:L∈X.fs:=hs L (by unfold frs;rw[xkt,hf];exact xk7)
   obtain⟨sl,e⟩:=I.base.slot L o ho (I.ok.frf L hL) hL fun z=>I.ok.exfs L z hL
   exact⟨hk,⟨L,_,hf,hn,e,hd⟩,ih (fun b hb=>hs b (by unfold frs;rw[xkt,hf];exact xk6 _ hb)) hr⟩
 exact all X.outer (fun _ hb=>hb) I.ok.funs
theorem Inv.stack (I:Inv X pins σ H s):s.heap.FunFrames X.base X.stack:=by
 rcases I.ok.stk with e | ⟨e,hf⟩
 ·rw[e];exact I.funs
 ·rw[e]
  obtain⟨m,hn,_⟩:=I.loc
  refine .cons (by rw[I.ok.kind];decide) hf hn ?_ I.funs
  exact Heap.get?_none_of_le (xly I.ok.bsz I.ok.above)
theorem Inv.stkSub (I:Inv X pins σ H s):∀b∈frs X.stack,b∈X.env.locals::X.fs:=fun b hb=>by
 rcases I.ok.stk with e | ⟨e,hf⟩
 ·rw[e] at hb;exact xk6 _ hb
 ·rw[e] at hb
  unfold frs at hb
  rw[xkt,hf] at hb
  exact hb
theorem Inv.stkFree (I:Inv X pins σ H s):∀b∈frs X.stack,H b=none:=fun b hb=>by
 rcases xk5.mp (I.stkSub b hb) with e | hb
 ·rw[e];exact I.free
 ·obtain⟨_,o,ho,_⟩:=I.ok.funs.mem hb
  exact I.base.free b o ho (I.ok.frf b hb) fun z=>I.ok.exfs b z hb
theorem Inv.step {g':Array GenState}{t':Nat}{d':Drawn}{ch:List Addr}(I:Inv X pins σ H s)
  (hch:∀b∈ch,(b∈X.ex∨X.s₀.heap.objs.size≤b)∧b≠X.env.locals∧(∀x c,X.env.cells.lookup x=some c→c≠b)∧∀p∈X.pn++pins,p.1≠b)
  (keep:∀b o,b≠X.env.locals→b∉X.fs→b∉ch→s.heap.get? b=some o→H b=none→h'.get? b=some o)
  (slot:∀b o,b≠X.env.locals→b∈X.fs→b∉ch→s.heap.get? b=some o→H b=none→∃sl,h'.get? b=some { o with slots:=sl }) (free:∀b o,b∉ch→s.heap.get? b=some o→H b=none→H' b=none)
  (there:∀b o,b∉ch→s.heap.get? b=some o→∃o',h'.get? b=some o')
  (tups:∀b xs,H b=some (.tup xs)→H' b=some (.tup xs)) (frzs:∀b o u,H b=some (.frz o u)→H' b=some (.frz o u)) (tbls:∀b ps,H b=some (.tbl ps)→∃more,H' b=some (.tbl (ps++more)))
  (ns:∀m,s.heap.Ns X.env.locals m→h'.Ns X.env.locals m) (hok:HOk X.prog X.w H' h') (hg:AllBare g') :
  Inv X pins σ H' { s with heap:=h',gens:=g',drawn:=d',toks:=t' }:=by
 have neL:∀b o,X.s₀.heap.get? b=some o→b≠X.env.locals:=fun b o e=>xlH (xlB (Heap.lt_size e) I.ok.above)
 have neC:∀b o,X.s₀.heap.get? b=some o→b∉X.ex→b∉ch:=fun b o e hx hb=>by
  rcases(hch b hb).1 with z | z
  ·exact hx z
  ·exact absurd (xlB (Heap.lt_size e) z) (xlz _)
 have cellK:∀x c,X.env.cells.lookup x=some c→∀v,s.heap.IsCell c v→h'.IsCell c v:=fun x c e v ⟨o,ho,hd⟩=>by
  have nch:c∉ch:=fun z=>(hch c z).2.2.1 x c e rfl
  by_cases hc:c∈X.fs
  ·obtain⟨sl,q⟩:=slot c o (I.cne x c e) hc nch ho (I.freeC x c e)
   exact⟨_,q,hd⟩
  ·exact⟨o,keep c o (I.cne x c e) hc nch ho (I.freeC x c e),hd⟩
 refine⟨I.ok,I.os,hg,⟨fun b o e n hb hx=>?_,fun b o e n hb hx=>?_,fun b o e n hx=>?_,fun b o e hx=>?_,fun b xs e=>tups b xs (I.base.tups b xs e),fun b o xs e=>frzs b o xs (I.base.frzs b o xs e),fun b ps e=>?_⟩,?_,fun x c e=>?_,?_,fun x c e=>?_,fun p hp=>?_,hok,I.len⟩
 ·exact keep b o (neL b o e) hb (neC b o e hx) (I.base.keep b o e n hb hx) (I.base.free b o e n hx)
 ·obtain⟨sl,e1⟩:=I.base.slot b o e n hb hx
  obtain⟨sl',e2⟩:=slot b _ (neL b o e) hb (neC b o e hx) e1 (I.base.free b o e n hx)
  exact⟨sl',e2⟩
 ·obtain⟨o',e1⟩:=I.base.there b o e hx
  exact free b o' (neC b o e hx) e1 (I.base.free b o e n hx)
 ·obtain⟨o',e1⟩:=I.base.there b o e hx
  exact there b o' (neC b o e hx) e1
 ·obtain⟨m1,e1⟩:=I.base.tbls b ps e
  obtain⟨m2,e2⟩:=tbls b _ e1
  exact⟨m1++m2,by rw[e2,Array.append_assoc]⟩
 ·obtain⟨m,hn,hl⟩:=I.loc
  refine⟨m,ns m hn,fun i x v e1 e2 e3=>?_⟩
  obtain⟨u,r,l⟩:=hl i x v e1 e2 e3
  refine⟨u,r,?_⟩
  rcases l with l | ⟨k,c,e,z⟩
  ·exact .inl l
  ·exact .inr ⟨k,c,e,cellK x c e _ z⟩
 ·obtain⟨v,z⟩:=I.cell x c e
  exact⟨v,cellK x c e v z⟩
 ·obtain⟨m,⟨o,_,_,ho,_⟩,_⟩:=I.loc
  exact free _ o (fun z=>(hch _ z).2.1 rfl) ho I.free
 ·obtain⟨v,o,ho,hd⟩:=I.cell x c e
  exact free c o (fun z=>(hch c z).2.2.1 x c e rfl) ho (I.freeC x c e)
 ·obtain⟨e,n,ne,nf,d⟩:=I.pin p hp
  have nch:p.1∉ch:=fun z=>(hch p.1 z).2.2.2 p hp rfl
  exact⟨keep p.1 p.2 ne nf nch e n,free p.1 p.2 nch e n,ne,nf,d⟩
theorem Inv.un {t':Nat}(I:Inv X pins σ H s)(u:Un X.fs [] H H' s.heap h')(hok:HOk X.prog X.w H' h'):Inv X pins σ H' { s with heap:=h',toks:=t' }:=by
 obtain⟨m,⟨o,es,ep,ho,r⟩,_⟩:=id I.loc
 obtain⟨sl,hL⟩:=u.any ho I.free (by simp)
 exact I.step (g':=s.gens) (d':=s.drawn) (ch:=[]) (fun _ z=>nomatch z) (fun b o _ hb _ e n=>u.keep b o e n hb (by simp)) (fun b o _ hb _ e n=>u.slot b o e n hb (by simp)) (fun b o _ e n=>u.free b o e n (by simp)) (fun b o _ e=>u.there b o e (by simp)) u.tups u.frzs u.tbls (fun m' hm=>by
  obtain⟨o',es',ep',ho',r'⟩:=hm
  rw[ho] at ho';cases ho'
  exact⟨_,es',ep',hL,r'⟩) hok I.bare
theorem Inv.call {g':Array GenState}{t':Nat}{d':Drawn}{ch:List Addr}(I:Inv X pins σ H s)(u:Un (frs X.stack) ch H H' s.heap h')(hok:HOk X.prog X.w H' h')(hg:AllBare g')
  (hch:∀b∈ch,(b∈X.ex∨X.s₀.heap.objs.size≤b)∧b≠X.env.locals∧(∀x c,X.env.cells.lookup x=some c→c≠b)∧∀p∈X.pn++pins,p.1≠b) :
  Inv X pins σ H' { s with heap:=h',gens:=g',drawn:=d',toks:=t' }:=by
 obtain⟨m,⟨o,es,ep,ho,r⟩,_⟩:=id I.loc
 obtain⟨sl,hL⟩:=u.any ho I.free fun z=>(hch _ z).2.1 rfl
 exact I.step (ch:=ch) hch (fun b o hL hb hc e n=>u.keep b o e n (fun z=>(xk5.mp (I.stkSub b z)).elim hL hb) hc) (fun b o _ _ hc e n=>u.any e n hc) (fun b o hc e n=>u.free b o e n hc) (fun b o hc e=>u.there b o e hc) u.tups u.frzs u.tbls (fun m' hm=>by
  obtain⟨o',es',ep',ho',r'⟩:=hm
  rw[ho] at ho';cases ho'
  exact⟨_,es',ep',hL,r'⟩) hok hg
theorem Inv.turned {t':Nat}{it:Addr}(I:Inv X pins σ H s)(k:∀b o,b≠it→s.heap.get? b=some o→h'.get? b=some o)(hn:H it=none)(hL:it≠X.env.locals)
  (h1:it∈X.ex∨X.s₀.heap.objs.size≤it) (h2:∀x c,X.env.cells.lookup x=some c→c≠it) (h3:∀p∈X.pn++pins,p.1≠it):Inv X pins σ H { s with heap:=h',toks:=t' }:=by
 have nit:∀b u,H b=some u→b≠it:=fun b u e z=>by rw[z,hn] at e;cases e
 refine I.step (g':=s.gens) (d':=s.drawn) (ch:=[it]) (fun b hb=>?_) (fun b o _ _ hc e _=>k b o (fun z=>hc (by simp[z])) e) (fun b o _ _ hc e _=>⟨o.slots,k b o (fun z=>hc (by simp[z])) e⟩) (fun _ _ _ _ n=>n)
  (fun b o hc e=>⟨o,k b o (fun z=>hc (by simp[z])) e⟩) (fun _ _ e=>e) (fun _ _ _ e=>e) (fun b ps e=>⟨#[],by rw[e];simp⟩) (fun m hm=>?_) (fun b u e=>?_) I.bare
 ·have e:b=it:=by simpa using hb
  subst e
  exact⟨h1,hL,h2,h3⟩
 ·obtain⟨o,es,ep,ho,r⟩:=hm
  exact⟨o,es,ep,k _ o (Ne.symm hL) ho,r⟩
 ·refine(I.hok b u e).stay (fun c v hc q=>k c v ?_ q) (fun _ q=>q) (fun _ _ q=>q) fun _ _ _ q=>q
  rcases hc with z | z
  ·rw[z];exact nit b u e
  ·exact nit c _ z
theorem Inv.tok (I:Inv X pins σ H s)(t:Nat):Inv X pins σ H { s with toks:=t }:=I.un (h':=s.heap) (t':=t) Un.refl I.hok
theorem Inv.kept (I:Inv X pins σ H s)(k:∀b u,s.heap.get? b=some u→h'.get? b=some u):Inv X pins σ H { s with heap:=h',toks:=t' }:=I.un (Un.kept k) (I.hok.kept k)
theorem Inv.laid (I:Inv X pins σ H s)(k:∀b u,s.heap.get? b=some u→h'.get? b=some u)(hp:s.heap.objs.size≤a)(new:wj X.prog X.w (upd H a o) h' a o) :
  Inv X pins σ (upd H a o) { s with heap:=h',toks:=t' }:=I.un (Un.laid k hp (I.hok.fresh hp)) (I.hok.laid k hp new)
theorem Inv.write (I:Inv X pins σ H s)(mu:Mut (H x))(he:e=x∨H e=some (.own x))(k:∀b u,b≠e→s.heap.get? b=some u→h'.get? b=some u)(heo:∃u,h'.get? e=some u)
  (new:wj X.prog X.w (upd H x o) h' x o):Inv X pins σ (upd H x o) { s with heap:=h',toks:=t' }:=I.un (Un.write mu he k heo) (I.hok.write mu he k heo new)
theorem Inv.weak (I:Inv X pins σ H s)(hl:σ'.length=σ.length)(w:∀(i:Nat) v,σ'[i]? = some (some v)→σ[i]? = some (some v)):Inv X pins σ' H s :=
 ⟨I.ok,I.os,I.bare,I.base,let ⟨m,hn,hl'⟩:=I.loc;⟨m,hn,fun i x v e1 e2 e3=>hl' i x v e1 (w i v e2) e3⟩,I.cell,I.free,I.freeC,I.pin,I.hok,hl.trans I.len⟩
theorem Inv.pins_of (I:Inv X pins σ H s)(h:∀p∈pins',s.heap.get? p.1=some p.2∧H p.1=none∧p.1≠X.env.locals∧p.1∉X.fs∧∀v,p.2.data≠.cell v):Inv X pins' σ H s :=
 ⟨I.ok,I.os,I.bare,I.base,I.loc,I.cell,I.free,I.freeC,fun p hp=>(xk2.mp hp).elim (fun z=>I.pin p (xk3 _ z)) (h p),I.hok,I.len⟩
theorem rf {N:List Str}(hN:N.Nodup){i j:Nat}{x:Str}(a:N[i]? = some x)(b:N[j]? = some x):i=j:=by
 obtain⟨h1,e1⟩:=xkF.mp a
 obtain⟨h2,e2⟩:=xkF.mp b
 exact(List.getElem_inj hN).mp (e1.trans e2.symm)
theorem fP {M:Model}{A:Around}{E:Value→Shared→Prop}{i:Nat}{x:Str}{v:V}{u:Value}{Q:Unit→Shared→Prop}(I:Inv X pins σ H s)(hN:X.N.Nodup)(hi:X.N[i]? = some x)(hx:Loc X.env.scope x)(r:RelV v u)
  (h:∀s',Inv X pins (σ.set i (some v)) H s'→(∃a,Heap.SameBut a s.heap s'.heap∧(a=X.env.locals∨X.env.cells.lookup x=some a))→Q () s') (hf:X.fn x=true∨X.env.scope.names.lookup x=some .local:=by first | exact .inl rfl | exact .inr rfl | assumption):wpAny M A (storeName X.env x u) Q E s:=by
 obtain⟨m,hn,hl⟩:=id I.loc
 have hcls:(X.env.scope.kind == .class || (X.env.scope.kind == .module&&X.env.locals != X.env.globals))=false:=by rw[I.ok.kind];rfl
 have hiσ:i<σ.length:=by rw[I.len];exact(xkF.mp hi).1
 have cne:=I.cne
 have tracked:∀ {a:Addr} {h':Heap},(∃o,s.heap.get? a=some o∧H a=none)→Heap.SameBut a s.heap h'→HOk X.prog X.w H h':=fun {a h'} ha hs b ob e=>by
  obtain⟨_,_,hfree⟩:=ha
  refine(I.hok b ob e).stay (fun c w' hc q=>(hs.2 c ?_).trans q) (fun _ q=>q) (fun _ _ q=>q) fun _ _ _ q=>q
  rintro rfl
  rcases hc with rfl | hc
  ·rw[hfree] at e;cases e
  ·rw[hfree] at hc;cases hc
 rcases hx with hk | hk
 ·refine wpAny_storeName_local hk hn (fun h' hn' hs=>?_) hcls
  obtain⟨oL,_,_,hoL,_⟩:=id hn
  refine h _ ⟨I.ok,I.os,I.bare,⟨fun b o e n hb hx=>?_,fun b o e n hb hx=>?_,I.base.free,fun b o e hx=>?_,I.base.tups,I.base.frzs,I.base.tbls⟩,⟨_,hn',fun j y v' e1 e2 e3=>?_⟩,fun y c e=>?_,I.free,I.freeC,fun p hp=>?_,tracked ⟨oL,hoL,I.free⟩ hs,by simpa using I.len⟩ ⟨_,hs,.inl rfl⟩
  ·exact(hs.2 b (xlH (xlB (Heap.lt_size e) I.ok.above))).trans (I.base.keep b o e n hb hx)
  ·obtain⟨sl,e1⟩:=I.base.slot b o e n hb hx
   exact⟨sl,(hs.2 b (xlH (xlB (Heap.lt_size e) I.ok.above))).trans e1⟩
  ·obtain⟨o',e1⟩:=I.base.there b o e hx
   exact⟨o',(hs.2 b (xlH (xlB (Heap.lt_size e) I.ok.above))).trans e1⟩
  ·by_cases hj:j=i
   ·subst hj
    rw[hi] at e1;cases e1
    rw[xkI hiσ] at e2
    cases e2
    exact⟨u,r,.inl ⟨hk,by simp⟩⟩
   ·rw[xkH (Ne.symm hj)] at e2
    obtain⟨u',r',q⟩:=hl j y v' e1 e2 e3
    refine⟨u',r',?_⟩
    rcases q with ⟨k,e⟩ | ⟨k,c,e,z⟩
    ·refine .inl ⟨k,?_⟩
     have:y≠x:=fun e=>hj (rf hN e1 (e▸hi))
     simp[this,e]
    ·exact .inr ⟨k,c,e,z.sameBut hs (cne y c e)⟩
  ·obtain⟨w',z⟩:=I.cell y c e
   exact⟨w',z.sameBut hs (cne y c e)⟩
  ·obtain⟨e,n,ne,nf,d⟩:=I.pin p hp
   exact⟨(hs.2 p.1 ne).trans e,n,ne,nf,d⟩
 ·have hfn:X.fn x=true:=by
   rcases hf with z | z
   ·exact z
   ·rw[z] at hk;cases hk
  obtain⟨c,hc⟩:=I.ok.has x (.inl hk)
  obtain⟨w',z⟩:=I.cell x c hc
  refine wpAny_storeName_cell I.ok.kind hk hc z (fun h' hc' hs=>?_)
  obtain⟨oc,hoc,hocd⟩:=id z
  refine h { s with heap:=h' } ⟨I.ok,I.os,I.bare,⟨fun b o e n hb hx=>?_,fun b o e n hb hx=>?_,I.base.free,fun b o e hx=>?_,I.base.tups,I.base.frzs,I.base.tbls⟩,⟨m,hn.sameBut hs (Ne.symm (cne x c hc)),fun j y v' e1 e2 e3=>?_⟩,fun y c' e=>?_,I.free,I.freeC,fun p hp=>?_,tracked ⟨oc,hoc,I.freeC x c hc⟩ hs,by simpa using I.len⟩ ⟨c,hs,.inr hc⟩
  ·exact(hs.2 b (xlH (xlB (Heap.lt_size e) (I.ok.cab x c hfn hc)))).trans (I.base.keep b o e n hb hx)
  ·obtain⟨sl,e1⟩:=I.base.slot b o e n hb hx
   exact⟨sl,(hs.2 b (xlH (xlB (Heap.lt_size e) (I.ok.cab x c hfn hc)))).trans e1⟩
  ·obtain⟨o',e1⟩:=I.base.there b o e hx
   exact⟨o',(hs.2 b (xlH (xlB (Heap.lt_size e) (I.ok.cab x c hfn hc)))).trans e1⟩
  ·by_cases hj:j=i
   ·subst hj
    rw[hi] at e1;cases e1
    rw[xkI hiσ] at e2
    cases e2
    exact⟨u,r,.inr ⟨.inl hk,c,hc,hc'⟩⟩
   ·rw[xkH (Ne.symm hj)] at e2
    obtain⟨u',r',q⟩:=hl j y v' e1 e2 e3
    refine⟨u',r',?_⟩
    rcases q with q | ⟨k,c',e,z'⟩
    ·exact .inl q
    ·refine .inr ⟨k,c',e,z'.sameBut hs ?_⟩
     rintro rfl
     exact hj (rf hN e1 (I.ok.inj _ _ _ e hc▸hi))
  ·by_cases hcc:c'=c
   ·subst hcc;exact⟨_,hc'⟩
   ·obtain⟨w2,z2⟩:=I.cell y c' e
    exact⟨w2,z2.sameBut hs hcc⟩
  ·obtain⟨e,n,ne,nf,d⟩:=I.pin p hp
   refine⟨(hs.2 p.1 ?_).trans e,n,ne,nf,d⟩
   intro q
   rw[q,hoc] at e
   have q':oc=p.2:=xlL e
   exact d w' (by rw[←q'];exact hocd)
theorem jV (I:Inv X pins σ H s)(hN:X.N.Nodup)(hi:X.N[i]? = some x)(hx:Loc X.env.scope x)(r:RelV v u)
  (h:∀s',Inv X pins (σ.set i (some v)) H s'→Q () s') (hf:X.fn x=true∨X.env.scope.names.lookup x=some .local:=by first | exact .inl rfl | exact .inr rfl | assumption):wpAny M A (storeName X.env x u) Q E s :=
 fP I hN hi hx r (fun s' I' _=>h s' I') hf
theorem Inv.call' (I:Inv X pins σ H s)(ho:s'.os=s.os)(u:Un (frs X.stack) ch H H' s.heap s'.heap)(hok:HOk X.prog X.w H' s'.heap)(hg:AllBare s'.gens)
  (hch:∀b∈ch,(b∈X.ex∨X.s₀.heap.objs.size≤b)∧b≠X.env.locals∧(∀x c,X.env.cells.lookup x=some c→c≠b)∧∀p∈X.pn++pins,p.1≠b):Inv X pins σ H' s':=by
 obtain⟨h',g',d',t',o'⟩:=s'
 have e:o'=s.os:=ho
 subst e
 exact I.call (g':=g') (t':=t') (d':=d') u hok hg hch
end
abbrev XK:=Value→Option Addr→Hp→Prop
abbrev St:=List (Option V)
abbrev VK:=V→Hp→Prop
abbrev TE:=St→Hp→VK→Prop
abbrev TT:=St→Hp→(Bool→Hp→Prop)→Prop
abbrev TA:=St→Hp→(List V→Hp→Prop)→Prop
structure Ends where
 nx:St→Hp→Prop
 rt:VK
 bk:St→Hp→Prop:=fun _ _=>False
 ct:St→Hp→Prop:=fun _ _=>False
abbrev TS:=Ends→St→Hp→Prop
def EP (X:Cx)(pins:List (Addr×Obj))(σ:St)(Q:VK)(u:Value)(s':Shared):Prop:=∃v H',Inv X pins σ H' s'∧RelV v u∧Q v H'
def TP (X:Cx)(pins:List (Addr×Obj))(σ:St)(Q:Bool→Hp→Prop)(b:Bool)(s':Shared):Prop:=∃H',Inv X pins σ H' s'∧Q b H'
def AP (X:Cx)(pins:List (Addr×Obj))(σ:St)(Q:List V→Hp→Prop)(us:List Value)(s':Shared):Prop:=∃vs H',Inv X pins σ H' s'∧zf vs us∧Q vs H'
def SP (X:Cx)(pins:List (Addr×Obj))(D:Ends)(f:Flow)(s':Shared):Prop :=
 match f with
 | .next=>∃ σ' H',Inv X pins σ' H' s'∧D.nx σ' H'
 | .brk=>∃ σ' H',Inv X pins σ' H' s'∧D.bk σ' H'
 | .cont=>∃ σ' H',Inv X pins σ' H' s'∧D.ct σ' H'
 | .ret u=>∃v σ' H',Inv X pins σ' H' s'∧RelV v u∧D.rt v H'
def PE (X:Cx)(e:Expr)(t:TE):Prop :=
 ∀ ⦃pins:List (Addr×Obj)⦄ (s:Shared) (σ:St) (H:Hp) (Q:VK),Inv X pins σ H s→t σ H Q→wpAny (model X.prog X.w) X.A (eval e X.env) (EP X pins σ Q) X.xe s
def PT (X:Cx)(e:Expr)(t:TT):Prop :=
 ∀ ⦃pins:List (Addr×Obj)⦄ (s:Shared) (σ:St) (H:Hp) (Q:Bool→Hp→Prop),Inv X pins σ H s→t σ H Q→wpAny (model X.prog X.w) X.A (isTrue e X.env (eval e X.env)) (TP X pins σ Q) X.xe s
def PW (X:Cx)(e:Expr)(t:TT):Prop :=
 ∀ ⦃whole:Sem Value⦄ (pins:List (Addr×Obj)) (s:Shared) (σ:St) (H:Hp) (Q:Bool→Hp→Prop),Inv X pins σ H s→t σ H Q→wpAny (model X.prog X.w) X.A (isTrue e X.env whole) (TP X pins σ Q) X.xe s
theorem PW.pt (h:PW X e t):PT X e t:=@h _
def PA (X:Cx)(es:List Expr)(t:TA):Prop :=
 ∀ ⦃pos:Pos⦄ (pins:List (Addr×Obj)) (s:Shared) (σ:St) (H:Hp) (Q:List V→Hp→Prop),Inv X pins σ H s→t σ H Q→wpAny (model X.prog X.w) X.A (spliced (backTo pos (starEach es X.env))) (AP X pins σ Q) X.xe s
def PS (X:Cx)(st:Stmt)(t:TS):Prop :=
 ∀ ⦃pins:List (Addr×Obj)⦄ (s:Shared) (σ:St) (H:Hp) (D:Ends),Inv X pins σ H s→t D σ H→wpAny (model X.prog X.w) X.A (exec st X.env) (SP X pins D) X.xe s
def PSs (X:Cx)(st:List Stmt)(t:TS):Prop :=
 ∀ ⦃pins:List (Addr×Obj)⦄ (s:Shared) (σ:St) (H:Hp) (D:Ends),Inv X pins σ H s→t D σ H→wpAny (model X.prog X.w) X.A (execs st X.env) (SP X pins D) X.xe s
theorem thn (h:wpAny M A t Q E s)(hQ:∀a s,Q a s→Q' a s):wpAny M A t Q' E s:=wpAny_mono h hQ fun _ _ x=>x
end L2
namespace L2
open PySem PySem.Spec PyProof.Rows
section
variable {X:Cx}
def sZ (i:Nat):TE:=fun σ H Q=>∃v,σ[i]? = some (some v)∧Q v H
def tC (v:V):TE:=fun _ H Q=>Q v H
theorem xei (hN:X.N[i]? = some x)(hv:Vis X.env.scope x)(hd:(x == ("__debug__" : Str))=false:=by decide)(hcd:(x == ("__classdict__" : Str))=false:=by decide):PE X (.Name x pos) (sZ i):=by
 intro pins s σ H Q I h
 obtain⟨v,e,h⟩:=h
 obtain⟨m,hn,hl⟩:=I.loc
 obtain⟨u,r,l⟩:=hl i x v hN e hv
 have fin:EP X pins σ Q u s:=⟨v,H,I,r,h⟩
 rcases l with ⟨hk,hm⟩ | ⟨hk,c,hc,hcell⟩
 ·exact wpAny_Name (wpAny_loadName_local I.ok.kind hk hn hm fin) hd
 ·rcases hk with hk | hk
  ·exact wpAny_Name (wpAny_loadName_cell I.ok.kind hk hc hcell fin) hd
  ·exact wpAny_Name (wpAny_loadName_free I.ok.kind hk hc hcell fin hcd) hd
theorem xg:PE X (.Constant (.int i) j pos) (tC (.int i)):=fun _ _ _ H _ I h=>wpAny_Constant_int ⟨.int i,H,I.tok _,⟨_,rfl⟩,h⟩
theorem uN:PE X (.Constant (.bool b) j pos) (tC (.bl b)):=fun _ _ _ H _ I h=>Constant_bool ⟨.bl b,H,I,rfl,h⟩
theorem gA:PE X (.Constant .none j pos) (tC .non):=fun _ _ _ H _ I h=>Constant_none ⟨.non,H,I,rfl,h⟩
theorem yE:PE X (.Constant (.str x) j pos) (tC (.str x)):=fun _ _ _ H _ I h=>Calls.Constant_str ⟨.str x,H,I.tok _,⟨_,rfl⟩,h⟩
def Gl (X:Cx)(x:Str):Prop:=X.env.kindOf x=some .globalImplicit
theorem hZ (I:Inv X pins σ H s)(hg:Gl X x)(hm:X.mg x=some u)(h:Q u s)
  (hd:(x == ("__debug__" : Str))=false:=by decide):wpAny (model X.prog X.w) X.A (eval (.Name x pos) X.env) Q E s :=
 Calls.Name_function_global I.ok.kind hg (Calls.loadGlobal_global (by rw[I.ok.glob];exact I.mod.glob.keeps I.bk) hm h) hd
theorem sQ (I:Inv X pins σ H s)(hg:Gl X x)(hm:X.mg x=none)(hv:bootBuiltins x=some u)(h:Q u s)
  (hn:x ≠ "__name__" := by decide) (hd:(x == ("__debug__" : Str))=false:=by decide):wpAny (model X.prog X.w) X.A (eval (.Name x pos) X.env) Q E s:=by
 obtain⟨mb,h1,h2⟩:=I.mod.blt
 exact Calls.Name_function_global I.ok.kind hg (Calls.loadGlobal_builtin (by rw[I.ok.glob];exact I.mod.glob.keeps I.bk) hm (by rw[I.ok.blt];exact h1.keeps I.bk) ((h2 x hn).trans hv) h) hd
theorem zb (hg:Gl X x)(hm:X.mg x=some u)(r:RelV v u)(hd:(x == ("__debug__" : Str))=false:=by decide):PE X (.Name x pos) (tC v) :=
 fun _ _ _ H _ I h=>hZ I hg hm ⟨v,H,I,r,h⟩ hd
theorem zF (hg:Gl X x)(hm:X.mg x=none)(hv:bootBuiltins x=some u)(r:RelV v u)(hn:x ≠ "__name__" := by decide)(hd:(x == ("__debug__" : Str))=false:=by decide):PE X (.Name x pos) (tC v) :=
 fun _ _ _ H _ I h=>sQ I hg hm hv ⟨v,H,I,r,h⟩ hn hd
variable {a b:Expr} {ta tb:TE} {pos:Pos}
def PC (X:Cx)(op:CmpOp)(a b:Expr)(t:TE):Prop :=
 ∀(pins:List (Addr×Obj)) (s:Shared) (σ:St) (H:Hp) (Q:VK),Inv X pins σ H s→t σ H Q →
  wpAny (model X.prog X.w) X.A (eval a X.env) (fun v s₁=>wpAny (model X.prog X.w) X.A (eval b X.env) (fun u s₂=>wpAny (model X.prog X.w) X.A (compareOp op v u) (EP X pins σ Q) X.xe s₂) X.xe s₁) X.xe s
theorem xcN (b:Expr)(h:op≠.In)(h2:op≠.NotIn):behindInMarks op b=false:=by
 have e1:(op == CmpOp.In)=false:=by cases op<;>first | rfl | exact absurd rfl h
 have e2:(op == CmpOp.NotIn)=false:=by cases op<;>first | rfl | exact absurd rfl h2
 cases b<;>simp[behindInMarks,e1,e2]
def xiy (ta:TE):TE:=fun σ H Q=>ta σ H fun x H1=>Q (.bl (decide (x=.non))) H1
def xgX (ta:TE):TE:=fun σ H Q=>ta σ H fun x H1=>Q (.bl (!decide (x=.non))) H1
theorem RelV.none_iff (r:RelV x v):(v == Value.none)=decide (x=.non):=by
 cases x with
 | non=>cases r;rfl
 | bl _=>cases r;rfl
 | int _=>obtain⟨t,rfl⟩:=r;rfl
 | str _=>obtain⟨t,rfl⟩:=r;rfl
 | byt _=>obtain⟨t,rfl⟩:=r;rfl
 | flt _=>obtain⟨t,rfl⟩:=r;rfl
 | ref _=>cases r;rfl
 | ty _=>cases r;rfl
theorem cY (ha:PE X a ta):PC X .Is a (.Constant .none j pos') (xiy ta):=by
 intro pins s σ H Q I h
 refine thn (@ha pins s σ H _ I h) fun v s1 ⟨x,H1,I1,r1,q1⟩=>?_
 exact Constant_none (is_none_gen ⟨.bl _,H1,I1,by rw[r1.none_iff];rfl,q1⟩)
theorem xe5 (ha:PE X a ta):PC X .IsNot a (.Constant .none j pos') (xgX ta):=by
 intro pins s σ H Q I h
 refine thn (@ha pins s σ H _ I h) fun v s1 ⟨x,H1,I1,r1,q1⟩=>?_
 exact Constant_none (isnot_none_gen ⟨.bl _,H1,I1,by rw[r1.none_iff];rfl,q1⟩)
def tB (t:TE):TT:=fun σ H Q=>t σ H fun x H1=>∃c,x=.bl c∧Q c H1
theorem tP (h:PC X op a b t)(h1:behindInMarks op b=false:=by first | exact xcN _ (by decide) (by decide) | rfl):PT X (.Compare a [op] [b] pos) (tB t):=by
 intro pins s σ H Q I hw
 refine wpAny_isTrue_Compare1 (thn (@h pins s σ H _ I hw) fun v s1 h1=>thn h1 fun u s2 h2=>thn h2 fun c s3 ⟨x,H1,I1,r1,q1⟩=>?_) h1
 obtain⟨d,rfl,q⟩:=q1
 cases r1
 exact wpAny_truthy_bool ⟨H1,I1,q⟩
theorem yY (h:PE X e t)(he:∀whole,isTrue e X.env whole=(do let v ←whole;standAt e.pos;holding [v] (truthy v)):=by intro _;rfl):PT X e (tB t):=by
 intro pins s σ H Q I hw
 refine isTrue_plain (thn (@h pins s σ H _ I hw) fun v s1 ⟨x,H1,I1,r1,q1⟩=>?_) (he _)
 obtain⟨d,rfl,q⟩:=q1
 cases r1
 exact wpAny_truthy_bool ⟨H1,I1,q⟩
variable {tA tB':TT} {rest:List Expr}
def xiA (t u:TT):TT:=fun σ H Q=>t σ H fun c H1=>if c=true then u σ H1 Q else Q false H1
def tOr (t u:TT):TT:=fun σ H Q=>t σ H fun c H1=>if c=true then Q true H1 else u σ H1 Q
def xiC (t:TT):TT:=fun σ H Q=>t σ H fun c H1=>Q (!c) H1
theorem k_ (ha:PT X a tA):PW X (.BoolOp .And [a] pos) tA:=by
 intro wh pins s σ H Q I h
 refine isTrue_and (thn (@ha pins s σ H Q I h) fun c s1 e=>?_)
 cases c with
 | true=>exact isTrue_and_nil e
 | false=>exact e
theorem vH (ha:PT X a tA):PW X (.BoolOp .Or [a] pos) tA:=by
 intro wh pins s σ H Q I h
 refine isTrue_or (thn (@ha pins s σ H Q I h) fun c s1 e=>?_)
 cases c with
 | false=>exact isTrue_or_nil e
 | true=>exact e
theorem fo (ha:PT X a tA)(hb:PW X (.BoolOp .And (b::rest) pos) tB'):PW X (.BoolOp .And (a::b::rest) pos) (xiA tA tB'):=by
 intro wh pins s σ H Q I h
 refine isTrue_and (thn (@ha pins s σ H _ I h) fun c s1 ⟨H1,I1,q1⟩=>?_)
 cases c with
 | true=>exact @hb wh pins s1 σ H1 Q I1 q1
 | false=>exact⟨H1,I1,q1⟩
theorem je (ha:PT X a tA)(hb:PW X (.BoolOp .Or (b::rest) pos) tB'):PW X (.BoolOp .Or (a::b::rest) pos) (tOr tA tB'):=by
 intro wh pins s σ H Q I h
 refine isTrue_or (thn (@ha pins s σ H _ I h) fun c s1 ⟨H1,I1,q1⟩=>?_)
 cases c with
 | true=>exact⟨H1,I1,q1⟩
 | false=>exact @hb wh pins s1 σ H1 Q I1 q1
theorem wD (ha:PT X a tA):PT X (.UnaryOp .Not a pos) (xiC tA):=by
 intro pins s σ H Q I h
 exact isTrue_not (@ha pins s σ H (fun c H1=>Q (!c) H1) I h)
def xgQ (ta tb:TE):TE:=fun σ H Q=>ta σ H fun x H1=>∃c,x=.bl c∧if c=true then tb σ H1 Q else Q (.bl false) H1
def xi2 (ta tb:TE):TE:=fun σ H Q=>ta σ H fun x H1=>∃c,x=.bl c∧if c=true then Q (.bl true) H1 else tb σ H1 Q
def xgL (ta:TE):TE:=fun σ H Q=>ta σ H fun x H1=>∃c,x=.bl c∧Q (.bl (!c)) H1
theorem me (h:PE X a t):PE X (.BoolOp op [a] pos) t:=fun pins s σ H Q I hw=>BoolOp_one (@h pins s σ H Q I hw)
theorem p7 (ha:PE X a ta)(hb:PE X (.BoolOp .And (b::rest) pos) tb):PE X (.BoolOp .And (a::b::rest) pos) (xgQ ta tb):=by
 intro pins s σ H Q I h
 refine BoolOp_and (thn (@ha pins s σ H _ I h) fun v s1 ⟨x,H1,I1,r1,q1⟩=>?_)
 obtain⟨c,rfl,q1⟩:=q1
 cases r1
 refine wpAny_truthy_bool ?_
 cases c with
 | true=>exact @hb pins s1 σ H1 Q I1 q1
 | false=>exact⟨.bl false,H1,I1,rfl,q1⟩
theorem xgj (ha:PE X a ta)(hb:PE X (.BoolOp .Or (b::rest) pos) tb):PE X (.BoolOp .Or (a::b::rest) pos) (xi2 ta tb):=by
 intro pins s σ H Q I h
 refine BoolOp_or (thn (@ha pins s σ H _ I h) fun v s1 ⟨x,H1,I1,r1,q1⟩=>?_)
 obtain⟨c,rfl,q1⟩:=q1
 cases r1
 refine wpAny_truthy_bool ?_
 cases c with
 | false=>exact @hb pins s1 σ H1 Q I1 q1
 | true=>exact⟨.bl true,H1,I1,rfl,q1⟩
theorem xhd (ha:PE X a ta):PE X (.UnaryOp .Not a pos) (xgL ta):=by
 intro pins s σ H Q I h
 refine UnaryOp_ (thn (@ha pins s σ H _ I h) fun v s1 ⟨x,H1,I1,r1,q1⟩=>?_)
 obtain⟨c,rfl,q1⟩:=q1
 cases r1
 exact not_of (wpAny_truthy_bool ⟨.bl (!c),H1,I1,rfl,q1⟩)
def tIf (t:TT)(ta tb:TE):TE:=fun σ H Q=>t σ H fun c H1=>if c=true then ta σ H1 Q else tb σ H1 Q
theorem jF (hc:PT X c tA)(ha:PE X a ta)(hb:PE X b tb):PE X (.IfExp c a b pos) (tIf tA ta tb):=by
 intro pins s σ H Q I h
 refine wpAny_IfExp (thn (@hc pins s σ H _ I h) fun d s1 ⟨H1,I1,q1⟩=>?_)
 cases d with
 | true=>exact @ha pins s1 σ H1 Q I1 q1
 | false=>exact @hb pins s1 σ H1 Q I1 q1
end
end L2
namespace L2
open PySem PySem.Spec PyProof.Rows
def SqL (K:PySem.W.Frag)(H:Hp)(a:Addr)(xs:List V):Prop :=
 Rd H a (.lst xs) ∨
  ∃(o:Obj) (its:Array Value) (n:Nat),K.lookup a=some o∧o.cls=.type "list" ∧ o.dict=none∧o.data=.seq its n∧its.size≤sizeLine∧zf xs its.toList
def SqT (K:PySem.W.Frag)(H:Hp)(a:Addr)(xs:List V):Prop :=
 Rd H a (.tup xs) ∨
  ∃(o:Obj) (its:Array Value) (n:Nat),K.lookup a=some o∧o.cls=.type "tuple" ∧ o.data=.seq its n∧its.size≤sizeLine∧zf xs its.toList
def xju:Value→Option V
 | .none=>some .non
 | .bool b=>some (.bl b)
 | .int i _=>some (.int i)
 | .str x _=>some (.str x)
 | .bytes b _=>some (.byt b)
 | .float b _=>some (.flt b)
 | .ref a=>some (.ref a)
 | .type n=>some (.ty n)
 | _=>none
theorem RelV.abs (r:RelV x u):xju u=some x:=by
 cases x with
 | non=>cases r;rfl
 | bl _=>cases r;rfl
 | int _=>obtain⟨t,rfl⟩:=r;rfl
 | str _=>obtain⟨t,rfl⟩:=r;rfl
 | byt _=>obtain⟨t,rfl⟩:=r;rfl
 | flt _=>obtain⟨t,rfl⟩:=r;rfl
 | ref _=>cases r;rfl
 | ty _=>cases r;rfl
theorem RelV.inj (r:RelV x u)(q:RelV y u):x=y:=xlL (r.abs.symm.trans q.abs)
theorem zf.inj:∀ {xs ys:List V} {us:List Value},zf xs us→zf ys us→xs=ys
 | _,_,_,.nil,.nil=>rfl
 | _,_,_,.cons r t,.cons r' t'=>by rw[r.inj r',zf.inj t t']
section
variable {X:Cx} {pins:List (Addr×Obj)} {σ:St} {H:Hp} {s:Shared} {a:Addr} {xs ys:List V}
theorem SqL.of {K:PySem.W.Frag}(h:H a=some (.lst xs)):SqL K H a xs:=.inl (.inl h)
theorem SqT.of {K:PySem.W.Frag}(h:H a=some (.tup xs)):SqT K H a xs:=.inl (.inl h)
theorem Inv.list (I:Inv X pins σ H s)(h:SqL X.K H a xs):∃its:List Value,zf xs its∧PlainL s.heap a its.toArray∧xs.length≤sizeLine:=by
 rcases h with h | ⟨o,its,n,hk,hc,hd,hs,hz,r⟩
 ·obtain⟨z,its,n,r,e⟩:=h.ok I.hok
  exact⟨its,r,⟨_,n,e,rfl,rfl,rfl⟩,z⟩
 ·refine⟨its.toList,r,⟨o,n,I.kIn a o hk,hc,hd,by simpa using hs⟩,?_⟩
  have e:=r.length
  simp only[xjE] at e
  omega
theorem Inv.tuple (I:Inv X pins σ H s)(h:SqT X.K H a xs):∃its:List Value,zf xs its∧IsTup s.heap a its.toArray∧xs.length≤sizeLine:=by
 rcases h with h | ⟨o,its,n,hk,hc,hs,hz,r⟩
 ·obtain⟨z,its,r,p⟩:=h.ok I.hok
  exact⟨its,r,p,z⟩
 ·refine⟨its.toList,r,⟨o,I.kIn a o hk,hc,n,by simpa using hs⟩,?_⟩
  have e:=r.length
  simp only[xjE] at e
  omega
theorem Inv.list_inj (I:Inv X pins σ H s)(h:SqL X.K H a xs)(h':SqL X.K H a ys):xs=ys:=by
 obtain⟨its,r,⟨o,n,e,_,_,d⟩,_⟩:=I.list h
 obtain⟨its',r',⟨o',n',e',_,_,d'⟩,_⟩:=I.list h'
 rw[e] at e';cases e'
 rw[d] at d'
 injection d' with d1 _
 have:its=its':=by simpa using xlN Array.toList d1
 subst this
 exact r.inj r'
theorem Inv.tuple_inj (I:Inv X pins σ H s)(h:SqT X.K H a xs)(h':SqT X.K H a ys):xs=ys:=by
 obtain⟨its,r,⟨o,e,_,n,d⟩,_⟩:=I.tuple h
 obtain⟨its',r',⟨o',e',_,n',d'⟩,_⟩:=I.tuple h'
 rw[e] at e';cases e'
 rw[d] at d'
 injection d' with d1 _
 have:its=its':=by simpa using xlN Array.toList d1
 subst this
 exact r.inj r'
end
abbrev Cx.wish (X:Cx)(E:Value→Shared→Prop):Cx:={ X with xe:=E }
abbrev Cx.nox (X:Cx):Cx:=X.wish fun _ _=>False
theorem Cx.Ok.wish {X:Cx}(ok:X.Ok)(E:Value→Shared→Prop):(X.wish E).Ok :=
 ⟨ok.mod,ok.kind,ok.glob,ok.blt,ok.above,ok.inj,ok.has,ok.cab,ok.hd,ok.frames,ok.stk,ok.exf,ok.bs,ok.bsz,ok.noex,ok.exfs,ok.funs,ok.frf⟩
theorem Cx.Ok.unwish {X:Cx}{E:Value→Shared→Prop}(ok:(X.wish E).Ok):X.Ok :=
 ⟨ok.mod,ok.kind,ok.glob,ok.blt,ok.above,ok.inj,ok.has,ok.cab,ok.hd,ok.frames,ok.stk,ok.exf,ok.bs,ok.bsz,ok.noex,ok.exfs,ok.funs,ok.frf⟩
section
variable {X:Cx} {pins:List (Addr×Obj)} {σ:St} {H:Hp} {s:Shared} {E:Value→Shared→Prop}
theorem Inv.wish (I:Inv X pins σ H s)(E:Value→Shared→Prop):Inv (X.wish E) pins σ H s:=⟨I.ok.wish E,I.os,I.bare,I.base,I.loc,I.cell,I.free,I.freeC,I.pin,I.hok,I.len⟩
theorem Inv.unwish (I:Inv (X.wish E) pins σ H s):Inv X pins σ H s:=⟨I.ok.unwish,I.os,I.bare,I.base,I.loc,I.cell,I.free,I.freeC,I.pin,I.hok,I.len⟩
theorem SP.unwish (h:SP (X.wish E) pins D f s'):SP X pins D f s':=by
 cases f with
 | next=>obtain⟨σ',H',I,q⟩:=h;exact⟨σ',H',I.unwish,q⟩
 | brk=>obtain⟨σ',H',I,q⟩:=h;exact⟨σ',H',I.unwish,q⟩
 | cont=>obtain⟨σ',H',I,q⟩:=h;exact⟨σ',H',I.unwish,q⟩
 | ret u=>obtain⟨v,σ',H',I,r,q⟩:=h;exact⟨v,σ',H',I.unwish,r,q⟩
theorem PSs.nox {st:List Stmt}{t:TS}(h:PSs X.nox st t):PSs X st t:=fun pins s σ H D I hw =>
 wpAny_mono (@h pins s σ H D (I.wish _) hw) (fun _ _ q=>q.unwish) fun _ _ z=>False.elim z
end
section
variable {X:Cx} {st:Stmt} {rest:List Stmt} {t u:TS} {e:Expr} {te:TE} {pos:Pos}
def xf4:TS:=fun D σ H=>D.nx σ H
def xfX (t u:TS):TS:=fun D σ H=>t { D with nx:=u D } σ H
theorem xX:PSs X [] xf4:=fun _ _ σ H _ I h=>wpAny_execs_nil ⟨σ,H,I,h⟩
theorem xc (h1:PS X st t)(h2:PSs X rest u):PSs X (st::rest) (xfX t u):=by
 intro pins s σ H D I h
 refine wpAny_execs_cons (thn (@h1 pins s σ H { D with nx:=u D } I h) fun f s1 q=>?_)
 cases f with
 | next =>
  obtain⟨σ',H',I',q⟩:=q
  exact @h2 pins s1 σ' H' D I' q
 | ret v=>exact q
 | brk=>exact q
 | cont=>exact q
theorem xi (h1:PS X st t):PSs X [st] t:=by
 intro pins s σ H D I h
 refine wpAny_execs_cons (thn (@h1 pins s σ H D I h) fun f s1 q=>?_)
 cases f with
 | next=>exact wpAny_execs_nil q
 | ret v=>exact q
 | brk=>exact q
 | cont=>exact q
theorem Inv.quiet (I:Inv X pins σ H s):interactive X.env=false:=by simp[interactive,I.ok.kind]
def xdf (te:TE):TS:=fun D σ H=>te σ H fun _ H1=>D.nx σ H1
theorem vk (he:PE X e te)(hs:swapsWith e none pos.line X.env=pure false:=by rfl):PS X (.Expr e pos) (xdf te):=by
 intro pins s σ H D I h
 exact wpAny_Expr_any (thn (@he pins s σ H _ I h) fun v s1 ⟨x,H1,I1,r1,q1⟩=>⟨σ,H1,I1,q1⟩) I.quiet hs
def xgR (te:TE):TS:=fun D σ H=>te σ H D.rt
theorem xG (he:PE X e te):PS X (.Return (some e) pos) (xgR te):=by
 intro pins s σ H D I h
 exact wpAny_Return_some (thn (@he pins s σ H _ I h) fun v s1 ⟨x,H1,I1,r1,q1⟩=>⟨x,σ,H1,I1,r1,q1⟩)
def xik (c:TT)(t u:TS):TS:=fun D σ H=>c σ H fun b H1=>if b=true then t D σ H1 else u D σ H1
theorem yA (hc:PT X c tc)(ha:PSs X a t)(hb:PSs X b u):PS X (.If c a b pos) (xik tc t u):=by
 intro pins s σ H D I h
 refine wpAny_If (thn (@hc pins s σ H _ I h) fun d s1 ⟨H1,I1,q1⟩=>?_)
 cases d with
 | true=>exact @ha pins s1 σ H1 D I1 q1
 | false=>exact @hb pins s1 σ H1 D I1 q1
def oM:TS:=fun _ _ _=>False
theorem jJ:PS X st oM:=fun _ _ _ _ _ _ h=>h.elim
end
abbrev TG:=V→St→Hp→(St→Hp→Prop)→Prop
abbrev TGs:=List V→St→Hp→(St→Hp→Prop)→Prop
def PG (X:Cx)(target:Expr)(t:TG):Prop :=
 ∀(pins:List (Addr×Obj)) (s:Shared) (σ:St) (H:Hp) (v:V) (u:Value) (Q:St→Hp→Prop),Inv X pins σ H s→RelV v u→t v σ H Q →
  wpAny (model X.prog X.w) X.A (assign target X.env u) (fun _ s'=>∃ σ' H',Inv X pins σ' H' s'∧Q σ' H') X.xe s
def PGs (X:Cx)(ts:List Expr)(t:TGs):Prop :=
 ∀(pins:List (Addr×Obj)) (s:Shared) (σ:St) (H:Hp) (vs:List V) (us:List Value) (Q:St→Hp→Prop),Inv X pins σ H s→zf vs us→t vs σ H Q →
  wpAny (model X.prog X.w) X.A (assignInOrder ((assignEach ts X.env).map (·.2)) us) (fun _ s'=>∃ σ' H',Inv X pins σ' H' s'∧Q σ' H') X.xe s
abbrev xiZ:=V→V→V→Hp→(Hp→Prop)→Prop
def xix (X:Cx)(t:xiZ):Prop :=
 ∀(pins:List (Addr×Obj)) (s:Shared) (σ:St) (H:Hp) (o i v:V) (ov iv u:Value) (Q:Hp→Prop),Inv X pins σ H s→RelV o ov→RelV i iv→RelV v u→t o i v H Q →
  wpAny (model X.prog X.w) X.A (setItem ov iv u) (fun _ s'=>∃H',Inv X pins σ H' s'∧Q H') X.xe s
section
variable {X:Cx} {pos:Pos}
def gN (i:Nat):TG:=fun v σ H Q=>Q (σ.set i (some v)) H
theorem xS (hN:X.N.Nodup)(hi:X.N[i]? = some x)(hx:Loc X.env.scope x)(hf:X.fn x=true∨X.env.scope.names.lookup x=some .local:=by first | exact .inl rfl | exact .inr rfl | assumption):PG X (.Name x pos) (gN i):=by
 intro pins s σ H v u Q I r h
 exact wpAny_assign_Name (jV I hN hi hx r (fun s' I'=>⟨_,H,I',h⟩) hf)
def xhP:TGs:=fun vs σ H Q=>vs=[]∧Q σ H
def xeO (t:TG)(u:TGs):TGs:=fun vs σ H Q=>∃v r,vs=v::r∧t v σ H fun σ' H'=>u r σ' H' Q
theorem za:PGs X [] xhP:=by
 intro pins s σ H vs us Q I r h
 obtain⟨e,h⟩:=h
 subst e
 cases r
 exact assignInOrder_nil ⟨σ,H,I,h⟩
theorem xH (h1:PG X e t)(h2:PGs X es u)
  (hs:(assignEach (e::es) X.env).map (·.2)=assign e X.env::(assignEach es X.env).map (·.2):=by rfl):PGs X (e::es) (xeO t u):=by
 intro pins s σ H vs us Q I r h
 obtain⟨v,vr,e1,h⟩:=h
 subst e1
 cases r with
 | cons r rr =>
  rw[hs]
  refine assignInOrder_cons (thn (@h1 pins s σ H _ _ _ I r h) fun _ s1 ⟨σ1,H1,I1,q1⟩=>?_)
  exact @h2 pins s1 σ1 H1 _ _ Q I1 rr q1
def xhz (K:PySem.W.Frag)(n:Nat)(t:TGs):TG:=fun v σ H Q=>∃a xs,v=.ref a∧SqT K H a xs∧xs.length=n∧t xs σ H Q
theorem xgz (hc:X.calm=true)(h:PGs X es t)
  (hn:(assignEach es X.env).length=n:=by rfl) (hst:(assignEach es X.env).findIdx? (·.1)=none:=by rfl):PG X (.Tuple es k pos) (xhz X.K n t):=by
 intro pins s σ H v u Q I r hw
 obtain⟨a,xs,e1,hq,hl,hw⟩:=hw
 subst e1
 cases r
 obtain⟨its,rv,ht,hz⟩:=I.tuple hq
 refine assign_Tuple_tuple (I.ok.hd hc) ht (by simp[hn,←hl,rv.length]) hst fun h' hx=>?_
 have I1:Inv X pins σ H { s with heap:=h' }:=I.kept (t':=s.toks) fun b o e=>hx b o (xlH (Heap.lt_size e)) e
 exact @h pins _ σ H xs _ Q I1 (by simpa using rv) hw
def xiW (to ti:TE)(t:xiZ):TG:=fun v σ H Q=>to σ H fun o H1=>ti σ H1 fun i H2=>t o i v H2 fun H3=>Q σ H3
theorem xa0 (ho:PE X o to)(hi:PE X i ti)(hs:xix X t)
  (ha:∀v,assign (.Subscript o i pos) X.env v=(do
   let ov ←holding [v] (eval o X.env)
   let iv ←holding [v,ov] (eval i X.env)
   standAt pos
   holding [v,ov,iv] (setItem ov iv v)
   release [v,ov,iv] []):=by intro _;rfl):PG X (.Subscript o i pos) (xiW to ti t):=by
 intro pins s σ H v u Q I r h
 rw[ha]
 refine wpAny_bind (wpAny_holding (thn (@ho pins s σ H _ I h) fun ov s1 ⟨x,H1,I1,r1,q1⟩=>?_))
 refine wpAny_bind (wpAny_holding (thn (@hi pins s1 σ H1 _ I1 q1) fun iv s2 ⟨y,H2,I2,r2,q2⟩=>?_))
 refine wpAny_bind (wpAny_standAt (wpAny_bind (wpAny_holding (thn (@hs pins s2 σ H2 x y v ov iv u _ I2 r1 r2 r q2) fun _ s3 ⟨H3,I3,q3⟩=>?_))))
 exact wpAny_release ⟨σ,H3,I3,q3⟩
def xcj (te:TE)(g:TG):TS:=fun D σ H=>te σ H fun x H1=>g x σ H1 D.nx
theorem kN (he:PE X e te)(hg:PG X tg g)(hs:swapsWithSole [tg] e pos.line X.env=pure false:=by rfl)(hw:swappedStores [tg] e X.env=pure none:=by rfl)
  (h1:(assignEach [tg] X.env).map (·.2)=[assign tg X.env]:=by rfl):PS X (.Assign [tg] e pos) (xcj te g):=by
 intro pins s σ H D I h
 refine wpAny_Assign_stores (thn (@he pins s σ H _ I h) fun v s1 ⟨x,H1,I1,r1,q1⟩=>?_) hs hw
 rw[h1]
 exact thn (@hg pins s1 σ H1 x v _ I1 r1 q1) fun _ s2 q=>q
theorem ug (hN:X.N.Nodup)(hi:X.N[i]? = some x)(hx:Loc X.env.scope x)(he:PE X e te)(hs:swapsWith e (some (.Name x pos')) pos.line X.env=pure false:=by rfl)(hf:X.fn x=true∨X.env.scope.names.lookup x=some .local:=by first | exact .inl rfl | exact .inr rfl | assumption) :
  PS X (.Assign [.Name x pos'] e pos) (xcj te (gN i)):=by
 intro pins s σ H D I h
 refine wpAny_Assign_Name (thn (@he pins s σ H _ I h) fun v s1 ⟨y,H1,I1,r1,q1⟩=>?_) hs
 exact jV I1 hN hi hx r1 (fun s2 I2=>⟨_,H1,I2,q1⟩) hf
def xiB (i j:Nat)(ta:TA):TS:=fun D σ H=>ta σ H fun vs H1=>∃v w,vs=[v,w]∧D.nx ((σ.set i (some v)).set j (some w)) H1
theorem pH (hc:X.calm=true)(hN:X.N.Nodup)(hi:X.N[i]? = some x)(hj:X.N[j]? = some y)(hij:i≠j)
  (hx:X.env.scope.names.lookup x=some .local) (hy:X.env.scope.names.lookup y=some .local) (ha:PA X [a,b] ta)
  (hw:swappedStores [.Tuple [.Name x px,.Name y py] kt pt] (.Tuple [a,b] k2 pt2) X.env=pure (some [x,y]))
  (hs:swapsWithSole [.Tuple [.Name x px,.Name y py] kt pt] (.Tuple [a,b] k2 pt2) pos.line X.env=pure false:=by rfl) :
  PS X (.Assign [.Tuple [.Name x px,.Name y py] kt pt] (.Tuple [a,b] k2 pt2) pos) (xiB i j ta):=by
 intro pins s σ H D I h
 rw[exec_Assign_arm]
 refine wpAny_bind (wpAny_standAt ?_)
 rw[hs]
 refine wpAny_bind (wpAny_pure ?_)
 rw[if_neg (by decide)]
 refine wpAny_bind (Tuple_ (thn (@ha _ pins s σ H _ I h) fun us s1 ⟨vs,H1,I1,r1,q1⟩=>?_))
 obtain⟨v,w,e1,q1⟩:=q1
 subst e1
 obtain⟨u1,u2,rfl,rv,rw'⟩:∃u1 u2,us=[u1,u2]∧RelV v u1∧RelV w u2:=by
  cases r1 with
  | cons p q =>
   cases q with
   | cons p' q' =>
    cases q'
    exact⟨_,_,rfl,p,p'⟩
 refine wpAny_newObj_type ?_ (by show 2≤sizeLine;decide)
 have I2:Inv X pins σ H1 { s1 with heap:=s1.heap.push { cls:=.type "tuple", data:=.seq [u1,u2].toArray } }:=I1.kept (t':=s1.toks) fun b o e=>Heap.get?_push_of_some _ e
 rw[hw]
 refine wpAny_bind (wpAny_pure ?_)
 show wpAny (model X.prog X.w) X.A (do rule "assign.swapped-stores"; let items ←unpackItems (.ref s1.heap.objs.size) 2 none;assignInOrder [fun v=>bindName X.env y v,fun v=>bindName X.env x v] items.reverse;pure Flow.next) _ _ _
 refine wpAny_bind (wpAny_rule (wpAny_bind (unpackItems_tuple (items := #[u1,u2]) (I.ok.hd hc) (IsTup.new s1.heap _) fun h' hx'=>?_)))
 have I3:=I2.kept (h':=h') (t':=s1.toks) fun b o e=>hx' b o (xlH (Heap.lt_size e)) e
 show wpAny _ _ (assignInOrder [fun v=>bindName X.env y v,fun v=>bindName X.env x v] [u2,u1] >>= fun _=>pure Flow.next) _ _ _
 refine wpAny_bind (assignInOrder_cons (wpAny_bindName (jV I3 hN hj (.inl hy) rw' (fun s2 I4=>?_) (.inr hy))))
 refine assignInOrder_cons (wpAny_bindName (jV I4 hN hi (.inl hx) rv (fun s3 I5=>assignInOrder_nil (wpAny_pure ?_)) (.inr hx)))
 rw[List.set_comm _ _ (Ne.symm hij)] at I5
 exact⟨_,H1,I5,q1⟩
end
section
variable {X:Cx} {pos:Pos}
def xdA (c:TT)(tb:TS):TS:=fun D σ H=>∃W:Nat→St→Hp→Prop,(∃m,W m σ H)∧∀m σ H,W m σ H →
 c σ H fun b H1=>if b=true then ∃N:St→Hp→Prop,(∀ σ' H',N σ' H'→∃m',m' < m∧W m' σ' H')∧tb { D with nx:=N,ct:=N,bk:=D.nx } σ H1 else D.nx σ H1
theorem oG (hp:PassesOwn (model X.prog X.w) X.A X.env X.xe)(hc:PT X c tc)(hb:PSs X body tb):PS X (.While c body [] pos) (xdA tc tb):=by
 intro pins s σ H D I h
 obtain⟨W,⟨m0,w0⟩,turn⟩:=h
 refine wpAny_While (codeAny_whileLoop (fun n s'=>∃ σ' H',Inv X pins σ' H' s'∧W n σ' H') ?_ m0 ⟨σ,H,I,w0⟩)
 rintro n s1 ⟨σ1,H1,I1,w1⟩
 refine wpAny_passesOwn hp (thn (@hc pins s1 σ1 H1 _ I1 (turn n σ1 H1 w1)) fun b s2 ⟨H2,I2,q2⟩=>?_)
 cases b with
 | true =>
  obtain⟨N,hN,q2⟩:=q2
  rw[if_pos rfl]
  refine wpAny_passesOwn hp (thn (@hb pins s2 σ1 H2 _ I2 q2) fun f s3 q3=>?_)
  cases f with
  | next =>
   obtain⟨σ3,H3,I3,n3⟩:=q3
   obtain⟨m',hm,w3⟩:=hN σ3 H3 n3
   exact⟨m',hm,σ3,H3,I3,w3⟩
  | cont =>
   obtain⟨σ3,H3,I3,n3⟩:=q3
   obtain⟨m',hm,w3⟩:=hN σ3 H3 n3
   exact⟨m',hm,σ3,H3,I3,w3⟩
  | brk=>exact q3
  | ret v=>exact q3
 | false =>
  rw[if_neg xjJ]
  exact wpAny_execs_nil ⟨σ1,H2,I2,q2⟩
end
structure It where
 go:Nat→Hp→Prop
 yld:Nat→Hp→V→Hp→Prop
 stop:Nat→Hp→Prop
def cL (X:Cx)(pins:List (Addr×Obj))(H:Hp)(b:Addr):Prop :=
 H b=none∧b≠X.env.locals∧b∉X.fs∧(b∈X.ex∨X.s₀.heap.objs.size≤b)∧(∀x c,X.env.cells.lookup x=some c→c≠b)∧∀p∈X.pn++pins,p.1≠b
theorem Inv.fpOk (I:Inv X pins σ H s)(hb:s.heap.objs.size≤b)(hn:H' b=none):cL X pins H' b:=by
 refine⟨hn,xlG (xlB I.lt hb),I.nofs hb,.inr (xly I.sz hb),fun x c e z=>?_,fun p hp z=>?_⟩
 ·obtain⟨v,q⟩:=I.cell x c e
  exact absurd (xlB q.lt (by rw[z];exact hb)) (xlz _)
 ·exact absurd (xlB (Heap.lt_size (I.pin p hp).1) (by rw[z];exact hb)) (xlz _)
structure Turn (P:Program)(w:World)(K:PySem.W.Frag)(tg:Expr)(J:It)(fp:List Addr)(it:Addr)(tn:Nat→Heap→Prop):Prop where
 mem:it∈fp
 obj:∀i h,tn i h→∀b∈fp,∃o,h.get? b=some o∧∀v,o.data≠.cell v
 keep:∀i h h',tn i h→(∀b∈fp,∀o,h.get? b=some o→h'.get? b=some o)→tn i h'
 item:∀(X:Cx),X.prog=P→X.w=w→X.K=K→X.calm=true→∀(i:Nat) (pins:List (Addr×Obj)) (s:Shared) (σ:St) (H:Hp) (E:Value→Shared→Prop),Inv X pins σ H s→(∀b∈fp,cL X pins H b)→tn i s.heap→J.go i H →
  wpAny (model P w) X.A (pyNext (.ref it)) (fun r s1=>∃u,r=some u ∧
   wpAny (model P w) X.A (letOwnedTupleGo tg (.ref it) u) (fun _ s2=>∃x H',Inv X pins σ H' s2∧RelV x u∧J.yld i H x H'∧tn (i+1) s2.heap∧∀b∈fp,H' b=none) E s1) E s
 done:∀(X:Cx),X.prog=P→X.w=w→X.K=K→X.calm=true→∀(i:Nat) (pins:List (Addr×Obj)) (s:Shared) (σ:St) (H:Hp) (E:Value→Shared→Prop),Inv X pins σ H s→(∀b∈fp,cL X pins H b)→tn i s.heap→J.stop i H →
  wpAny (model P w) X.A (pyNext (.ref it)) (fun r s1=>r=none∧Inv X pins σ H s1) E s
 self:∀(A:Around) (i:Nat) (s:Shared) (Q:Value→Shared→Prop) (E:Value→Shared→Prop),tn i s.heap→Q (.ref it) s→wpAny (model P w) A (pyIter (.ref it)) Q E s
abbrev TI:=St→Hp→(It→Hp→Prop)→Prop
def PIE (X:Cx)(pins:List (Addr×Obj))(σ:St)(tg:Expr)(R:It→Hp→Prop)(itv:Value)(s2:Shared):Prop :=
 ∃(it:Addr) (fp:List Addr) (tn:Nat→Heap→Prop) (J:It) (H':Hp),itv=.ref it∧Inv X pins σ H' s2∧Turn X.prog X.w X.K tg J fp it tn∧tn 0 s2.heap∧(∀b∈fp,cL X pins H' b)∧R J H'
def PI (X:Cx)(tg iter:Expr)(wi:TI):Prop :=
 ∀(pins:List (Addr×Obj)) (s:Shared) (σ:St) (H:Hp) (R:It→Hp→Prop),Inv X pins σ H s→wi σ H R →
  wpAny (model X.prog X.w) X.A (eval iter X.env) (fun v s1=>wpAny (model X.prog X.w) X.A (pyIter v) (PIE X pins σ tg R) X.xe s1) X.xe s
theorem xdt (ho:s.heap.get? it=some o)(hc:o.cls=.type n)(hd:o.data=.fields vs)
  (hn:["enumerate", "zip", "dict_itemiterator", "dict_reverseitemiterator", "odict_iterator", "itertools.zip_longest", "itertools.pairwise"].contains n=false) (hQ:Q () s):wpAny M A (letOwnedTupleGo tg (.ref it) u) Q E s:=by
 unfold letOwnedTupleGo
 cases tg<;>first
  | exact wpAny_pure hQ
  | (cases u<;>first
    | exact wpAny_pure hQ
    | (refine wpAny_bind (wpAny_load ho ?_)
       rw[hc,hd]
       show wpAny M A (if (["enumerate", "zip", "dict_itemiterator", "dict_reverseitemiterator", "odict_iterator", "itertools.zip_longest", "itertools.pairwise"].contains n&&vs[0]? == some (rawInt _))=true then _ else _) Q E s
       rw[if_neg (by intro h;rw[hn,Bool.false_and] at h;cases h)]
       exact wpAny_pure hQ))
def Itl (K:PySem.W.Frag)(a:Addr):It :=
 ⟨fun i H=>∃xs x,SqL K H a xs∧xs[i]? = some x,fun i H x H'=>H'=H∧∀xs,SqL K H a xs→xs[i]? = some x,fun i H=>∃xs,SqL K H a xs∧xs.length≤i⟩
def Itt (K:PySem.W.Frag)(a:Addr):It :=
 ⟨fun i H=>∃xs x,SqT K H a xs∧xs[i]? = some x,fun i H x H'=>H'=H∧∀xs,SqT K H a xs→xs[i]? = some x,fun i H=>∃xs,SqT K H a xs∧xs.length≤i⟩
def Itr (lo:Int)(n:Nat):It:=⟨fun i _=>i<n,fun i H x H'=>H'=H∧x=.int (lo+i),fun i _=>n≤i⟩
theorem xb3 {P:Program}{w:World}{K:PySem.W.Frag}{tg:Expr}(a it:Addr):Turn P w K tg (Itl K a) [it] it (fun i h=>h.IsListIter it a i) where
 mem:=by simp
 obj:=fun i h st b hb=>by
  have e:b=it:=by simpa using hb
  subst e
  obtain⟨o,e,c,d⟩:=st
  exact⟨o,e,fun v z=>by rw[d] at z;cases z⟩
 keep:=fun i h h' st k=>st.at fun o e=>k it (by simp) o e
 item:=by
  intro X hP hw hK hc i pins s σ H E I hf st hg
  subst hP hw hK
  obtain⟨xs,x,hq,hx⟩:=hg
  obtain⟨its,rv,p,hz⟩:=I.list hq
  obtain⟨u,hu,ru⟩:=rv.get hx
  obtain⟨f0,f1,f2,f3,f4,f5⟩:=hf it (by simp)
  refine wpAny_pyNext_list_item st p.isList (x:=u) (by simpa using hu) fun h' st' sb=>?_
  have I1:Inv X pins σ H { s with heap:=h' }:=I.turned (t':=s.toks) (fun b o hb e=>(sb.2 b hb).trans e) f0 f1 f3 f4 f5
  obtain⟨o,e,c,d⟩:=id st'
  exact⟨u,rfl,xdt (s:={ s with heap:=h' }) e c d (by decide) ⟨x,H,I1,ru,⟨rfl,fun ys hy=>by rw[I.list_inj hy hq];exact hx⟩,st',fun b hb=>(hf b hb).1⟩⟩
 done:=by
  intro X hP hw hK hc i pins s σ H E I hf st hg
  subst hP hw hK
  obtain⟨xs,hq,hx⟩:=hg
  obtain⟨its,rv,p,hz⟩:=I.list hq
  obtain⟨f0,f1,f2,f3,f4,f5⟩:=hf it (by simp)
  have hl:=rv.length
  exact wpAny_pyNext_list_end (I.ok.hd hc) st p.isList (by simp;omega) fun h' eb=>⟨rfl,I.turned (t':=s.toks) (fun b o hb e=>eb b o hb e) f0 f1 f3 f4 f5⟩
 self:=fun _ _ _ _ _ st h=>wpAny_pyIter_listiter st h
theorem lq {P:Program}{w:World}{K:PySem.W.Frag}{tg:Expr}(a it:Addr):Turn P w K tg (Itt K a) [it] it (fun i h=>h.IsTupleIter it a i) where
 mem:=by simp
 obj:=fun i h st b hb=>by
  have e:b=it:=by simpa using hb
  subst e
  obtain⟨o,e,c,d⟩:=st
  exact⟨o,e,fun v z=>by rw[d] at z;cases z⟩
 keep:=fun i h h' st k=>st.at fun o e=>k it (by simp) o e
 item:=by
  intro X hP hw hK hc i pins s σ H E I hf st hg
  subst hP hw hK
  obtain⟨xs,x,hq,hx⟩:=hg
  obtain⟨its,rv,p,hz⟩:=I.tuple hq
  obtain⟨u,hu,ru⟩:=rv.get hx
  obtain⟨f0,f1,f2,f3,f4,f5⟩:=hf it (by simp)
  refine wpAny_pyNext_tuple_item st (show s.heap.IsTuple a its.toArray from p) (x:=u) (by simpa using hu) fun h' st' sb=>?_
  have I1:Inv X pins σ H { s with heap:=h' }:=I.turned (t':=s.toks) (fun b o hb e=>(sb.2 b hb).trans e) f0 f1 f3 f4 f5
  obtain⟨o,e,c,d⟩:=id st'
  exact⟨u,rfl,xdt (s:={ s with heap:=h' }) e c d (by decide) ⟨x,H,I1,ru,⟨rfl,fun ys hy=>by rw[I.tuple_inj hy hq];exact hx⟩,st',fun b hb=>(hf b hb).1⟩⟩
 done:=by
  intro X hP hw hK hc i pins s σ H E I hf st hg
  subst hP hw hK
  obtain⟨xs,hq,hx⟩:=hg
  obtain⟨its,rv,p,hz⟩:=I.tuple hq
  obtain⟨f0,f1,f2,f3,f4,f5⟩:=hf it (by simp)
  have hl:=rv.length
  exact wpAny_pyNext_tuple_end (I.ok.hd hc) st (show s.heap.IsTuple a its.toArray from p) (by simp;omega) fun h' eb=>⟨rfl,I.turned (t':=s.toks) (fun b o hb e=>eb b o hb e) f0 f1 f3 f4 f5⟩
 self:=fun _ _ _ _ _ st h=>wpAny_pyIter_tupleiter st h
theorem lR {P:Program}{w:World}{K:PySem.W.Frag}{tg:Expr}(it:Addr)(lo:Int)(n:Nat):Turn P w K tg (Itr lo n) [it] it (fun i h=>IsRangeIter h it (lo+(i:Nat)*1) ((n:Int)-(i:Nat)) 1) where
 mem:=by simp
 obj:=fun i h st b hb=>by
  have e:b=it:=by simpa using hb
  subst e
  exact⟨_,st,fun v z=>by
   have z':Data.fields _=Data.cell v:=z
   cases z'⟩
 keep:=fun i h h' st k=>k it (by simp) _ st
 item:=by
  intro X hP hw hK hc i pins s σ H E I hf st hg
  subst hP hw hK
  obtain⟨f0,f1,f2,f3,f4,f5⟩:=hf it (by simp)
  have W:=Walks.range (prog:=X.prog) (w:=X.w) (I.ok.hd hc) it lo 1 n
  refine W.item i s _ _ hg st fun v h' tk hv st' kk=>?_
  obtain⟨t,rfl⟩:=hv
  have I1:Inv X pins σ H { s with heap:=h',toks:=tk }:=I.turned (fun b o hb e=>kk b o (by simpa using hb) e) f0 f1 f3 f4 f5
  refine⟨_,rfl,xdt (s:={ s with heap:=h',toks:=tk }) (n := "range_iterator") st' rfl rfl (by decide) ⟨.int (lo+i),H,I1,⟨t,?_⟩,⟨rfl,rfl⟩,st',fun b hb=>(hf b hb).1⟩⟩
  rw[Int.mul_one]
 done:=by
  intro X hP hw hK hc i pins s σ H E I hf st hg
  subst hP hw hK
  obtain⟨f0,f1,f2,f3,f4,f5⟩:=hf it (by simp)
  exact wpAny_pyNext_range_end (I.ok.hd hc) st (by have:n≤i:=hg;omega) fun h' eb=>⟨rfl,I.turned (t':=s.toks) (fun b o hb e=>eb b o hb e) f0 f1 f3 f4 f5⟩
 self:=fun _ _ _ _ _ st h=>wpAny_pyIter_rangeiter st h
end L2
namespace L2
open PySem PySem.Spec PyProof.Rows
section
variable {X:Cx} {tg:Expr}
def xh1 (K:PySem.W.Frag)(tl:TE):TI:=fun σ H R=>tl σ H fun x H1=>∃a,x=.ref a∧(∃xs,SqL K H1 a xs)∧R (Itl K a) H1
theorem xc4 {pins:List (Addr×Obj)}{σ:St}{H:Hp}{s:Shared}{R:It→Hp→Prop}{E:Value→Shared→Prop}{lo hi:Int}{t u v:Tok}{tk:Nat}(I:Inv X pins σ H s)(h1:-(2 ^ 62)≤lo)(h2:lo<2 ^ 62)(h3:-(2 ^ 62)≤hi)(h4:hi<2 ^ 62)
  (q:R (Itr lo (hi-lo).toNat) H):wpAny (model X.prog X.w) X.A (pyIter (.ref s.heap.objs.size)) (PIE X pins σ tg R) E { s with heap:=s.heap.push { cls:=.type "range", data:=.fields #[.int lo t,.int hi u,.int 1 v] },toks:=tk }:=by
 refine wpAny_pyIter_range (IsRange.new ..) (small_one h1 h2 h3 h4) ?_
 have I1:Inv X pins σ H { s with heap:=s.heap.push { cls:=.type "range", data:=.fields #[.int lo t,.int hi u,.int 1 v] },toks:=tk }:=I.kept fun b o e=>Heap.get?_push_of_some _ e
 refine⟨(s.heap.push { cls:=.type "range", data:=.fields #[.int lo t,.int hi u,.int 1 v] }).objs.size,[(s.heap.push { cls:=.type "range", data:=.fields #[.int lo t,.int hi u,.int 1 v] }).objs.size],_,_,H,rfl,
  I1.kept (t':=tk) fun b o e=>Heap.get?_push_of_some _ e,lR _ lo (hi-lo).toNat,?_,fun b hb=>?_,q⟩
 ·have e1:lo+((0:Nat):Int)*1=lo:=by simp
  have e2:(((hi-lo).toNat:Nat):Int)-((0:Nat):Int)=Builtin.Range.rangeSize lo hi 1:=by rw[rangeSize_one];split<;>omega
  show IsRangeIter _ _ (lo+((0:Nat):Int)*1) ((((hi-lo).toNat:Nat):Int)-((0:Nat):Int)) 1
  rw[e1,e2]
  exact Heap.get?_push_size _ rfl
 ·have e:b=(s.heap.push { cls:=.type "range", data:=.fields #[.int lo t,.int hi u,.int 1 v] }).objs.size:=by simpa using hb
  subst e
  exact I1.fpOk (xlw _) (I1.hok.fresh (xlw _))
def xgN (ta:TA):TI:=fun σ H R=>ta σ H fun vs H1=>∃j:Int,vs=[.int j]∧-(2 ^ 62)≤j∧j<2 ^ 62∧R (Itr 0 j.toNat) H1
theorem vI {a:Expr}{ta:TA}{p pos:Pos}(hg:Gl X "range")(hm:X.mg "range" = none)(ha:PA X [a] ta)(hs:starEach [a] X.env=[(false,eval a X.env)]:=by rfl):PI X tg (.Call (.Name "range" p) [a] [] pos) (xgN ta):=by
 intro pins s σ H R I h
 refine Call_ (sQ I hg hm boot_range (PyProof.Rows.callWith_type1 (thn (@ha pos pins s σ H _ I h) fun us s1 ⟨vs,H1,I1,r1,q1⟩=>?_) hs rfl))
 obtain⟨j,e,q1,q2,q⟩:=q1
 subst e
 cases r1 with
 | cons r rr =>
  cases rr
  obtain⟨t,rfl⟩:=r
  exact call_range_1 (xc4 I1 (by omega) (by omega) q1 q2 (by simpa using q))
def xi4 (wi:TI)(g:TG)(tb:TS):TS:=fun D σ H=>wi σ H fun J H1=>∃W:Nat→Nat→St→Hp→Prop,(∃m,W 0 m σ H1)∧∀i m σ H,W i m σ H →
 (J.stop i H∧D.nx σ H)∨(J.go i H∧∃N:St→Hp→Prop,(∀ σ' H',N σ' H'→∃m',m' < m∧W (i+1) m' σ' H')∧∀x H',J.yld i H x H'→g x σ H' fun σ2 H2=>tb { D with nx:=N,ct:=N,bk:=D.nx } σ2 H2)
def sN (fp:List Addr)(h:Heap):List (Addr×Obj):=fp.filterMap fun b=>(h.get? b).map fun o=>(b,o)
theorem ux (hb:b∈fp)(e:h.get? b=some o):(b,o)∈sN fp h:=xk9.mpr ⟨b,hb,by rw[e];rfl⟩
theorem xaY (hp:p∈sN fp h):p.1∈fp∧h.get? p.1=some p.2:=by
 obtain⟨b,hb,e⟩:=xk9.mp hp
 cases q:h.get? b with
 | none=>rw[q] at e;cases e
 | some o =>
  rw[q] at e
  have e':(b,o)=p:=xlL e
  subst e'
  exact⟨hb,q⟩
theorem Inv.pinned (I:Inv X pins σ H s)(hf:∀b∈fp,cL X pins H b)(ho:∀b∈fp,∃o,s.heap.get? b=some o∧∀v,o.data≠.cell v):Inv X (pins++sN fp s.heap) σ H s :=
 I.pins_of fun p hp=>(xk2.mp hp).elim (fun z=>I.pin p (xk4 _ z)) fun z=>by
  obtain⟨hb,e⟩:=xaY z
  obtain⟨f0,f1,f2,_⟩:=hf p.1 hb
  obtain⟨o,e',d⟩:=ho p.1 hb
  rw[e] at e';cases e'
  exact⟨e,f0,f1,f2,d⟩
theorem Inv.unpinned (I:Inv X (pins++pl) σ H s):Inv X pins σ H s:=I.pins_of fun p hp=>I.pin p (xk4 _ (xk3 _ hp))
theorem ue (hp:PassesOwn (model X.prog X.w) X.A X.env X.xe)(hc:X.calm=true)(hi:PI X tg iter wi)(hg:PG X tg g)(hb:PSs X body tb)
  (hs:∀x,foldedSetIterable iter X.env x=pure x:=by intro _;rfl):PS X (.For tg iter body [] pos) (xi4 wi g tb):=by
 intro pins s σ H D I h
 refine wpAny_For (thn (@hi pins s σ H _ I h) fun v s1 h1=>thn h1 fun itv s2 h2=>?_) hs
 obtain⟨it,fp,tn,J,H2,e,I2,T,st2,f2,W,⟨m0,w0⟩,turn⟩:=h2
 subst e
 have stat:∀ {H':Hp},(∀b∈fp,H' b=none)→∀b∈fp,cL X pins H' b:=fun hn b hb=>⟨hn b hb,(f2 b hb).2⟩
 refine codeAny_forLoop_any (fun n s'=>∃i σ' H',Inv X pins σ' H' s'∧tn i s'.heap∧(∀b∈fp,H' b=none)∧W i n σ' H') ?_ m0 ⟨0,σ,H2,I2,st2,fun b hb=>(f2 b hb).1,w0⟩
 rintro n s3 ⟨i,σ3,H3,I3,st3,fr3,w3⟩
 rcases turn i n σ3 H3 w3 with ⟨stop,qn⟩ | ⟨go,N,hN,step⟩
 ·refine wpAny_passesOwn hp (thn (T.done X rfl rfl rfl hc i pins s3 σ3 H3 X.xe I3 (stat fr3) st3 stop) fun r s4 ⟨hr,I4⟩=>?_)
  subst hr
  exact wpAny_execs_nil ⟨σ3,H3,I4,qn⟩
 ·refine wpAny_passesOwn hp (thn (T.item X rfl rfl rfl hc i pins s3 σ3 H3 X.xe I3 (stat fr3) st3 go) fun r s4 ⟨u,hr,h4⟩=>?_)
  subst hr
  refine wpAny_passesOwn hp (thn h4 fun _ s5 ⟨x,H5,I5,r5,y5,st5,fr5⟩=>?_)
  have I5':=I5.pinned (stat fr5) (T.obj _ _ st5)
  refine wpAny_passesOwn hp (thn (hg _ s5 σ3 H5 x u _ I5' r5 (step x H5 y5)) fun _ s6 ⟨σ6,H6,I6,q6⟩=>?_)
  refine wpAny_passesOwn hp (thn (@hb _ s6 σ6 H6 _ I6 q6) fun f s7 q7=>?_)
  have again:∀ {σ7:St} {H7:Hp},Inv X (pins++sN fp s5.heap) σ7 H7 s7→N σ7 H7→∃m,m<n∧∃i σ' H',Inv X pins σ' H' s7∧tn i s7.heap∧(∀b∈fp,H' b=none)∧W i m σ' H':=fun {σ7 H7} I7 n7=>by
   obtain⟨m',hm,w7⟩:=hN σ7 H7 n7
   refine⟨m',hm,i+1,σ7,H7,I7.unpinned,T.keep _ _ _ st5 fun b hb o e=>(I7.pin (b,o) (xk4 _ (xk4 _ (ux hb e)))).1,fun b hb=>?_,w7⟩
   obtain⟨o,e,d⟩:=T.obj _ _ st5 b hb
   exact(I7.pin (b,o) (xk4 _ (xk4 _ (ux hb e)))).2.1
  cases f with
  | next=>obtain⟨σ7,H7,I7,n7⟩:=q7;exact again I7 n7
  | cont=>obtain⟨σ7,H7,I7,n7⟩:=q7;exact again I7 n7
  | brk=>obtain⟨σ7,H7,I7,q7⟩:=q7;exact⟨σ7,H7,I7.unpinned,q7⟩
  | ret v=>obtain⟨x7,σ7,H7,I7,r7,q7⟩:=q7;exact⟨x7,σ7,H7,I7.unpinned,r7,q7⟩
end
end L2
namespace L2
open PySem PySem.Spec PyProof.Rows
abbrev R2:=V→V→Hp→VK→Prop
def OpR (X:Cx)(f:Value→Value→Sem Value)(r:R2):Prop :=
 ∀(pins:List (Addr×Obj)) (s:Shared) (σ:St) (H:Hp) (x y:V) (v u:Value) (Q:VK),Inv X pins σ H s→RelV x v→RelV y u→r x y H Q →
  wpAny (model X.prog X.w) X.A (f v u) (EP X pins σ Q) X.xe s
def UnR (X:Cx)(f:Value→Sem Value)(r:V→Hp→VK→Prop):Prop :=
 ∀(pins:List (Addr×Obj)) (s:Shared) (σ:St) (H:Hp) (x:V) (v:Value) (Q:VK),Inv X pins σ H s→RelV x v→r x H Q →
  wpAny (model X.prog X.w) X.A (f v) (EP X pins σ Q) X.xe s
def uk (X:Cx)(f:Value)(r:List V→Hp→VK→Prop):Prop :=
 ∀(pins:List (Addr×Obj)) (s:Shared) (σ:St) (H:Hp) (xs:List V) (us:List Value) (Q:VK),Inv X pins σ H s→zf xs us→r xs H Q →
  wpAny (model X.prog X.w) X.A (call f us) (EP X pins σ Q) X.xe s
def tOp (r:R2)(ta tb:TE):TE:=fun σ H Q=>ta σ H fun x H1=>tb σ H1 fun y H2=>r x y H2 Q
def tUn (r:V→Hp→VK→Prop)(ta:TE):TE:=fun σ H Q=>ta σ H fun x H1=>r x H1 Q
def rI (C:Int→Int→Prop)(g:Int→Int→V):R2:=fun x y H Q=>∃i j,x=.int i∧y=.int j∧C i j∧Q (g i j) H
def rI0 (g:Int→Int→V):R2:=fun x y H Q=>∃i j,x=.int i∧y=.int j∧Q (g i j) H
def rU (g:Int→V):V→Hp→VK→Prop:=fun x H Q=>∃i,x=.int i∧Q (g i) H
section
variable {X:Cx} {a b c:Expr} {ta tb tc:TE} {pos:Pos}
theorem xhN (ha:PE X a ta)(hb:PE X b tb){pins:List (Addr×Obj)}{s:Shared}{σ:St}{H:Hp}{R:V→V→Hp→Prop}(I:Inv X pins σ H s)
  (h:ta σ H fun x H1=>tb σ H1 fun y H2=>R x y H2) {Q:Value→Shared→Prop} {f:Value→Value→Sem Value}
  (hf:∀v u s2 x y H2,Inv X pins σ H2 s2→RelV x v→RelV y u→R x y H2→wpAny (model X.prog X.w) X.A (f v u) Q X.xe s2) :
  wpAny (model X.prog X.w) X.A (eval a X.env) (fun v s₁=>wpAny (model X.prog X.w) X.A (eval b X.env) (fun u s₂=>wpAny (model X.prog X.w) X.A (f v u) Q X.xe s₂) X.xe s₁) X.xe s:=by
 refine thn (@ha pins s σ H _ I h) fun v s1 ⟨x,H1,I1,r1,q1⟩=>?_
 refine thn (@hb pins s1 σ H1 _ I1 q1) fun u s2 ⟨y,H2,I2,r2,q2⟩=>?_
 exact hf v u s2 x y H2 I2 r1 r2 q2
theorem xy {op:Operator}{r:R2}(ho:OpR X (binaryOp op) r)(ha:PE X a ta)(hb:PE X b tb):PE X (.BinOp a op b pos) (tOp r ta tb):=by
 intro pins s σ H Q I h
 exact wpAny_BinOp (xhN ha hb I h fun v u s2 x y H2 I2 rx ry q=>@ho pins s2 σ H2 x y v u Q I2 rx ry q)
theorem vX (ho:UnR X (unaryOp op) r)(ha:PE X a ta):PE X (.UnaryOp op a pos) (tUn r ta):=by
 intro pins s σ H Q I h
 exact UnaryOp_ (thn (@ha pins s σ H _ I h) fun v s1 ⟨x,H1,I1,r1,q1⟩=>@ho pins s1 σ H1 x v Q I1 r1 q1)
theorem opI {f:Value→Value→Sem Value}{C:Int→Int→Prop}{g:Int→Int→Int}
  (rule:∀(i j:Int) (t u:Tok) (s:Shared) (Q:Value→Shared→Prop) (E:Value→Shared→Prop),C i j→Q (.int (g i j) s.toks) { s with toks:=s.toks+1 }→wpAny (model X.prog X.w) X.A (f (.int i t) (.int j u)) Q E s) :
  OpR X f (rI C fun i j=>.int (g i j)):=by
 intro pins s σ H x y v u Q I rx ry h
 obtain⟨i,j,rfl,rfl,hc,q⟩:=h
 obtain⟨t,rfl⟩:=rx
 obtain⟨t',rfl⟩:=ry
 exact rule i j t t' s _ _ hc ⟨.int (g i j),H,I.tok _,⟨_,rfl⟩,q⟩
theorem xiP {f:Value→Value→Sem Value}{g:Int→Int→Int}
  (rule:∀(i j:Int) (t u:Tok) (s:Shared) (Q:Value→Shared→Prop) (E:Value→Shared→Prop),Q (.int (g i j) s.toks) { s with toks:=s.toks+1 }→wpAny (model X.prog X.w) X.A (f (.int i t) (.int j u)) Q E s) :
  OpR X f (rI0 fun i j=>.int (g i j)):=by
 intro pins s σ H x y v u Q I rx ry h
 obtain⟨i,j,rfl,rfl,q⟩:=h
 obtain⟨t,rfl⟩:=rx
 obtain⟨t',rfl⟩:=ry
 exact rule i j t t' s _ _ ⟨.int (g i j),H,I.tok _,⟨_,rfl⟩,q⟩
theorem xhG {f:Value→Value→Sem Value}{g:Int→Int→Bool}
  (rule:∀(i j:Int) (t u:Tok) (s:Shared) (Q:Value→Shared→Prop) (E:Value→Shared→Prop),Q (.bool (g i j)) s→wpAny (model X.prog X.w) X.A (f (.int i t) (.int j u)) Q E s) :
  OpR X f (rI0 fun i j=>.bl (g i j)):=by
 intro pins s σ H x y v u Q I rx ry h
 obtain⟨i,j,rfl,rfl,q⟩:=h
 obtain⟨t,rfl⟩:=rx
 obtain⟨t',rfl⟩:=ry
 exact rule i j t t' s _ _ ⟨.bl (g i j),H,I,rfl,q⟩
def xi8 (i j:Int):Prop:=0≤j∧j≤1000000∧i.natAbs<2 ^ 64
def xhE (i j:Int):Prop:=(-(2 ^ 64)<i∧i<2 ^ 64)∨(-(2 ^ 64)<j∧j<2 ^ 64)
theorem xhE.ok (h:xhE i j):IntMulOk i j:=by
 rcases h with ⟨h1,h2⟩ | ⟨h1,h2⟩
 ·exact .of_left (intBits_le_64 h1 h2)
 ·exact .of_right (intBits_le_64 h1 h2)
theorem zT:OpR X (binaryOp .Add) (rI0 fun i j=>.int (i+j)):=xiP fun _ _ _ _ _ _ _ q=>add_int q
theorem zN:OpR X (binaryOp .Sub) (rI0 fun i j=>.int (i-j)):=xiP fun _ _ _ _ _ _ _ q=>sub_int q
theorem nQ:OpR X (binaryOp .Mult) (rI xhE fun i j=>.int (i*j)):=opI fun _ _ _ _ _ _ _ hc q=>mul_int q hc.ok
theorem ax:OpR X (binaryOp .Mod) (rI (fun _ j=>0<j) fun i j=>.int (i % j)):=opI fun i j _ _ _ _ _ hc q=>by
 have h1:(0:Int)<j:=hc
 exact mod_int' (by omega) (by rw[Int.fmod_eq_emod_of_nonneg i (by omega)];exact q)
theorem l9:OpR X (binaryOp .Mod) (rI (fun _ j=>j≠0) fun i j=>.int (i.fmod j)):=opI fun _ _ _ _ _ _ _ hc q=>mod_int' hc q
theorem xdy:OpR X (binaryOp .Pow) (rI xi8 fun i j=>.int (i ^ j.toNat)):=opI fun _ _ _ _ _ _ _ hc q=>pow_int_small hc.1 hc.2.1 hc.2.2 q
theorem unI {f:Value→Sem Value}{g:Int→Int}
  (rule:∀(i:Int) (t:Tok) (s:Shared) (Q:Value→Shared→Prop) (E:Value→Shared→Prop),Q (.int (g i) s.toks) { s with toks:=s.toks+1 }→wpAny (model X.prog X.w) X.A (f (.int i t)) Q E s) :
  UnR X f (rU fun i=>.int (g i)):=by
 intro pins s σ H x v Q I rx h
 obtain⟨i,rfl,q⟩:=h
 obtain⟨t,rfl⟩:=rx
 exact rule i t s _ _ ⟨.int (g i),H,I.tok _,⟨_,rfl⟩,q⟩
theorem wB:UnR X (unaryOp .USub) (rU fun i=>.int (-i)):=unI fun _ _ _ _ _ q=>neg_int q
end
section
variable {X:Cx} {a b c:Expr} {ta tb tc:TE} {pos:Pos}
theorem xge (I:Inv X pins σ H s)(q:Q (.bl k) H)(e:k=k'):EP X pins σ Q (.bool k') s:=by
 subst e
 exact⟨.bl k,H,I,rfl,q⟩
theorem xgE:OpR X (compareOp .Lt) (rI0 fun i j=>.bl (decide (i<j))):=xhG fun _ _ _ _ _ _ _ q=>lt_int q
theorem jj:OpR X (compareOp .LtE) (rI0 fun i j=>.bl (decide (i≤j))):=xhG fun _ _ _ _ _ _ _ q=>le_int q
theorem bB:OpR X (compareOp .Gt) (rI0 fun i j=>.bl (decide (j<i))):=xhG fun _ _ _ _ _ _ _ q=>gt_int q
theorem xhS:OpR X (compareOp .GtE) (rI0 fun i j=>.bl (decide (j≤i))):=xhG fun _ _ _ _ _ _ _ q=>ge_int q
theorem q_:OpR X (compareOp .NotIn) (fun x y H Q=>∃i j,x=.str i∧y=.str j∧Q (.bl (!(!(Builtin.Str.occurrences j i 0 j.length 1).isEmpty))) H):=by
 intro pins s σ H x y v u Q I rx ry h
 obtain⟨i,j,rfl,rfl,q⟩:=h
 obtain⟨t,rfl⟩:=rx
 obtain⟨t',rfl⟩:=ry
 exact notIn_str (xge I q rfl)
theorem OpR.or (h:OpR X f r)(h':OpR X f r'):OpR X f (fun x y H Q=>r x y H Q∨r' x y H Q):=by
 intro pins s σ H x y v u Q I rx ry q
 rcases q with q | q
 ·exact @h pins s σ H x y v u Q I rx ry q
 ·exact @h' pins s σ H x y v u Q I rx ry q
theorem xY (b:Expr)(h:op≠.In:=by decide)(h2:op≠.NotIn:=by decide):behindInMarks op b=false:=by
 have e1:(op == CmpOp.In)=false:=by cases op<;>first | rfl | exact absurd rfl h
 have e2:(op == CmpOp.NotIn)=false:=by cases op<;>first | rfl | exact absurd rfl h2
 cases b<;>simp[behindInMarks,e1,e2]
theorem zA {op:CmpOp}{r:R2}(ho:OpR X (compareOp op) r)(ha:PE X a ta)(hb:PE X b tb)(hm:behindInMarks op b=false):PE X (.Compare a [op] [b] pos) (tOp r ta tb):=by
 intro pins s σ H Q I h
 exact wpAny_Compare1 (xhN ha hb I h fun v u s2 x y H2 I2 rx ry q=>@ho pins s2 σ H2 x y v u Q I2 rx ry q) hm
def xfh (t:TE):TT:=fun σ H Q=>t σ H fun x H'=>∃k,x=.bl k∧Q k H'
theorem xK (ho:OpR X (compareOp op) r)(ha:PE X a ta)(hb:PE X b tb)(hm:behindInMarks op b=false):PT X (.Compare a [op] [b] pos) (xfh (tOp r ta tb)):=by
 intro pins s σ H Q I h
 refine wpAny_isTrue_Compare1 (thn (@ha pins s σ H _ I h) fun v s1 ⟨x,H1,I1,r1,q1⟩=>thn (@hb pins s1 σ H1 _ I1 q1) fun u s2 ⟨y,H2,I2,r2,q2⟩ =>
  thn (@ho pins s2 σ H2 x y v u _ I2 r1 r2 q2) fun c s3 ⟨z,H3,I3,r3,k,e,q3⟩=>?_) hm
 subst e
 cases r3
 exact wpAny_truthy_bool ⟨H3,I3,q3⟩
def xdS (r r':R2)(ta tb tc:TE):TE:=fun σ H Q=>ta σ H fun x H1=>tb σ H1 fun y H2=>r x y H2 fun z H3=>∃k,z=.bl k ∧
 (if k=true then tc σ H3 fun w' H4=>r' y w' H4 Q else Q (.bl false) H3)
theorem gX (ho:OpR X (compareOp op) r)(ho':OpR X (compareOp op') r')(ha:PE X a ta)(hb:PE X b tb)(hc:PE X c tc)
  (hm:lastMarks [op,op'] [b,c]=false:=by with_unfolding_all rfl):PT X (.Compare a [op,op'] [b,c] pos) (xfh (xdS r r' ta tb tc)):=by
 intro pins s σ H Q I h
 refine isTrue_chain (thn (@ha pins s σ H _ I h) fun v s1 ⟨x,H1,I1,r1,q1⟩=>test_link (thn (@hb pins s1 σ H1 _ I1 q1) fun u s2 ⟨y,H2,I2,r2,q2⟩ =>
  thn (@ho pins s2 σ H2 x y v u _ I2 r1 r2 q2) fun d s3 ⟨z,H3,I3,r3,k,e,q3⟩=>?_)) hm
 subst e
 cases r3
 refine wpAny_truthy_bool ?_
 cases k with
 | false =>
  obtain⟨k',e',q'⟩:=q3
  cases e'
  exact ite_ff ⟨H3,I3,q'⟩
 | true =>
  refine ite_tt (test_last (thn (@hc pins s3 σ H3 _ I3 q3) fun w' s4 ⟨z',H4,I4,r4,q4⟩=>thn (@ho' pins s4 σ H4 y z' u w' _ I4 r2 r4 q4) fun d' s5 ⟨z2,H5,I5,r5,k2,e2,q5⟩=>?_))
  subst e2
  cases r5
  exact wpAny_truthy_bool ⟨H5,I5,q5⟩
theorem af:(sizeLine:Nat)<2 ^ 63:=by rw[sizeLine_eq];decide
theorem vC:OpR X (binaryOp .Add) (fun x y H Q=>∃i j,x=.str i∧y=.str j∧i.length+j.length≤sizeLine∧Q (.str (i++j)) H):=by
 intro pins s σ H x y v u Q I rx ry h
 obtain⟨i,j,rfl,rfl,hz,q⟩:=h
 obtain⟨t,rfl⟩:=rx
 obtain⟨t',rfl⟩:=ry
 exact add_str (fun t' tk=>⟨.str (i++j),H,I.tok _,⟨_,rfl⟩,q⟩) hz
theorem vals1 (r:zf [x] us):∃u,us=[u]∧RelV x u:=by
 cases r with
 | cons r1 r2=>cases r2;exact⟨_,rfl,r1⟩
theorem vals2 (r:zf [x,y] us):∃u w',us=[u,w']∧RelV x u∧RelV y w':=by
 cases r with
 | cons r1 r2 =>
  cases r2 with
  | cons r3 r4=>cases r4;exact⟨_,_,rfl,r1,r3⟩
theorem zH:uk X (.builtin "abs") (fun xs H Q=>∃i,xs=[.int i]∧Q (.int (if i<0 then -i else i)) H):=by
 intro pins s σ H xs us Q I r h
 obtain⟨i,rfl,q⟩:=h
 obtain⟨u,rfl,t,rfl⟩:=vals1 r
 exact call_abs_int fun u tk=>⟨.int (if i<0 then -i else i),H,I.tok _,⟨_,rfl⟩,q⟩
theorem nY (hc:X.calm=true):uk X (.builtin "max") (fun xs H Q=>∃i j,xs=[.int i,.int j]∧Q (.int (if j>i then j else i)) H):=by
 intro pins s σ H xs us Q I r h
 obtain⟨i,j,rfl,q⟩:=h
 obtain⟨u,w',rfl,⟨t,rfl⟩,⟨t',rfl⟩⟩:=vals2 r
 refine max_two_ints (I.ok.hd hc) fun h' tk k=>⟨_,H,I.kept k,?_,q⟩
 by_cases hj:j>i
 ·rw[if_pos hj,if_pos hj];exact⟨_,rfl⟩
 ·rw[if_neg hj,if_neg hj];exact⟨_,rfl⟩
theorem xbw (hc:X.calm=true):uk X (.builtin "min") (fun xs H Q=>∃i j,xs=[.int i,.int j]∧Q (.int (if j<i then j else i)) H):=by
 intro pins s σ H xs us Q I r h
 obtain⟨i,j,rfl,q⟩:=h
 obtain⟨u,w',rfl,⟨t,rfl⟩,⟨t',rfl⟩⟩:=vals2 r
 refine min_two_ints (I.ok.hd hc) fun h' tk k=>⟨_,H,I.kept k,?_,q⟩
 by_cases hj:j<i
 ·rw[if_pos hj,if_pos hj];exact⟨_,rfl⟩
 ·rw[if_neg hj,if_neg hj];exact⟨_,rfl⟩
theorem xbS:uk X (.type "int") (fun xs H Q=>(∃i,xs=[.int i]∧Q (.int i) H)∨∃k,xs=[.bl k]∧Q (.int (if k then 1 else 0)) H):=by
 intro pins s σ H xs us Q I r h
 rcases h with ⟨i,rfl,q⟩ | ⟨k,rfl,q⟩
 ·obtain⟨u,rfl,t,rfl⟩:=vals1 r
  exact call_int_int ⟨.int i,H,I,⟨_,rfl⟩,q⟩
 ·obtain⟨u,rfl,r1⟩:=vals1 r
  cases r1
  exact call_int_bool ⟨.int (if k then 1 else 0),H,I.tok _,⟨_,rfl⟩,q⟩
theorem qR:uk X (.type "str") (fun xs H Q=>∃i,xs=[.int i]∧i.natAbs.log2<1920∧Q (.str (toString i)) H):=by
 intro pins s σ H xs us Q I r h
 obtain⟨i,rfl,hz,q⟩:=h
 obtain⟨u,rfl,t,rfl⟩:=vals1 r
 exact PySem.P.str_of_int hz ⟨.str _,H,I.tok _,⟨_,rfl⟩,q⟩
end
end L2
namespace L2
open PySem PySem.Spec PyProof.Rows
structure xih (h:Heap)(x dx C:Addr)(mA:Str→Option Value):Prop where
 obj:h.get? x=some (PySem.W.instObj C dx)
 ns:h.Ns1 dx mA
 ne:dx≠x
theorem xay {h:Heap}{dx:Addr}{mA:Str→Option Value}(n:h.Ns1 dx mA):∃od,h.get? dx=some od∧∀name,PySem.W.lookIn name od=some (mA name):=by
 obtain⟨o,es,ep,ho,hd,hk,_,hm⟩:=n
 refine⟨o,ho,fun name=>?_⟩
 have e:=hm name
 unfold nsFind findBy at e
 rw[←Array.find?_toList] at e
 unfold PySem.W.lookIn
 rw[hd]
 dsimp only
 split
 ·rename_i y q
  rw[q] at e
  exact xlN some e
 ·rename_i q
  rw[q] at e
  have a:es.toList.any (·.refKey)=false:=by
   rw[xkk]
   intro y hy
   obtain⟨z,t,hkey⟩:=hk y (Array.mem_toList_iff.mp hy)
   simp[DictEntry.refKey,hkey]
  have a':¬es.toList.any (·.refKey)=true:=by rw[a];exact xjJ
  rw[if_neg a']
  exact xlN some e
theorem xih.look (I:xih h x dx C mA):∃od,PySem.W.InstAt h x (PySem.W.instObj C dx) C (some od)∧∀name,PySem.W.lookIn name od=some (mA name) :=
 let ⟨od,ho,hl⟩:=xay I.ns
 ⟨od,⟨I.obj,rfl,rfl,ho⟩,hl⟩
section
variable {prog:Program} {w:World} {A:Around} {E:Value→Shared→Prop} {s:Shared} {K:PySem.W.Frag} {x dx C f:Addr} {mA:Str→Option Value} {name:Str} {v:Value}
end
section
variable {P:Program} {w:World} {H H':Hp} {h h':Heap} {a C dx:Addr} {fs fs':List (Str×V)}
theorem xfK (hok:HOk P w H h)(e:H a=some (.ins C dx fs)):∃mA,xih h a dx C mA∧(∀f,xii (fs.lookup f) (mA f))∧PySem.Within mA (fs.map (·.1))∧fs.length≤1000∧H dx=some (.own a):=by
 obtain⟨d,z,ne,ob,mA,n,r,q⟩:=(show wj P w H h a (.ins C dx fs) from hok a _ e)
 exact⟨mA,⟨ob,n,ne⟩,r,q,z,d⟩
end
structure Cls (K:PySem.W.Frag)(C:Addr):Prop where
 pg:PySem.W.plainGet K C Str.empty=true
 hd:PySem.W.hasDictIn K C=true
 po:PySem.W.plainOver K C=true
 sa:PySem.W.findIn K (.ref C) "__setattr__" = some (some (.builtin "object.__setattr__"))
theorem Cls.get {K:PySem.W.Frag}{C:Addr}(c:Cls K C)(f:Str):PySem.W.plainGet K C f=true:=c.pg
section
variable {X:Cx} {pins:List (Addr×Obj)} {σ:St} {H:Hp} {s:Shared} {a C dx:Addr} {fs:List (Str×V)} {f:Str} {v:V} {A:Around} {E:Value→Shared→Prop}
end
section
variable {X:Cx} {o e value:Expr} {f:Str} {pos pos' tpos:Pos} {ta tv:TE}
end
section
variable {X:Cx} {pins:List (Addr×Obj)} {σ:St} {H:Hp} {s:Shared} {A:Around} {E:Value→Shared→Prop} {Q:Value→Shared→Prop} {c:Value} {b:Bool}
inductive lF (K:PySem.W.Frag)(H:Hp):V→Value→Prop where
 | non:lF K H .non (.type "NoneType")
 | bl (x:Bool):lF K H (.bl x) (.type "bool")
 | int (i:Int):lF K H (.int i) (.type "int")
 | str (x:Str):lF K H (.str x) (.type "str")
 | flt (x:UInt64):lF K H (.flt x) (.type "float")
 | lst {a:Addr} {xs:List V} (e:H a=some (.lst xs)):lF K H (.ref a) (.type "list")
 | frz {a:Addr} {o:Obj} {xs:List V} (e:H a=some (.frz o (.lst xs))):lF K H (.ref a) (.type "list")
 | tup {a:Addr} {xs:List V} (e:H a=some (.tup xs)):lF K H (.ref a) (.type "tuple")
 | dK {a:Addr} {kvs:List (Key×V)} (e:H a=some (.dK kvs)):lF K H (.ref a) (.type "dict")
 | dT {a:Addr} {kvs:List (List Key×V)} (e:H a=some (.dT kvs)):lF K H (.ref a) (.type "dict")
 | ins {a C dx:Addr} {fs:List (Str×V)} (e:H a=some (.ins C dx fs)) (cl:Cls K C) (ha:PySem.W.findIn K (.ref C) "__class__" = some (some (.builtin "object.__class__")))
   (hn:PySem.W.specialIn K (.builtin "object.__class__") "__get__" = some (some (.builtin "getset_descriptor.__get__"))) (htk:PySem.W.takesIn K (.builtin "object.__class__")=some true)
   (hm:PySem.W.mroIn K C (.type "object")=some true):lF K H (.ref a) (.ref C)
theorem xcb (I:Inv X pins σ H s)(rx:RelV x u)(ty:lF X.K H x t)(e:PySem.W.kitOne X.K t c=some b)(h:∀tk,Q (.bool b) { s with toks:=tk }) :
  wpAny (model X.prog X.w) A (call (.builtin "isinstance") [u,c]) Q E s:=by
 cases ty with
 | non=>cases (show u=Value.none from rx);exact PySem.W.kia_one PySem.W.kitx_none I.kIn True.intro e (fun z=>nomatch z) h
 | bl y=>cases (show u=Value.bool y from rx);exact PySem.W.kia_one PySem.W.kitx_bool I.kIn True.intro e (fun z=>nomatch z) h
 | int i=>obtain⟨t,q⟩:=(show ∃t,u=Value.int i t from rx);cases q;exact PySem.W.kia_one PySem.W.kitx_int I.kIn True.intro e (fun z=>nomatch z) h
 | str y=>obtain⟨t,q⟩:=(show ∃t,u=Value.str y t from rx);cases q;exact PySem.W.kia_one PySem.W.kitx_str I.kIn True.intro e (fun z=>nomatch z) h
 | flt y=>obtain⟨t,q⟩:=(show ∃t,u=Value.float y t from rx);cases q;exact PySem.W.kia_one PySem.W.kitx_float I.kIn True.intro e (fun z=>nomatch z) h
 | @lst a xs ea =>
  cases (show u=Value.ref a from rx)
  obtain⟨_,_,n,_,h1⟩:=(show wj X.prog X.w H s.heap a (.lst xs) from I.hok a _ ea)
  exact PySem.W.kia_one PySem.W.kitx_list I.kIn ⟨_,h1,rfl⟩ e (fun z=>nomatch z) h
 | @frz a ob xs ea =>
  cases (show u=Value.ref a from rx)
  obtain⟨_,_,_,n,_,h1⟩:=(show wj X.prog X.w H s.heap a (.frz ob (.lst xs)) from I.hok a _ ea)
  exact PySem.W.kia_one PySem.W.kitx_list I.kIn ⟨_,h1,rfl⟩ e (fun z=>nomatch z) h
 | @tup a xs ea =>
  cases (show u=Value.ref a from rx)
  obtain⟨_,_,_,p⟩:=(show wj X.prog X.w H s.heap a (.tup xs) from I.hok a _ ea)
  obtain⟨o,h1,h2,_⟩:=p
  exact PySem.W.kia_one PySem.W.kitx_tuple I.kIn ⟨o,h1,h2⟩ e (fun z=>nomatch z) h
 | @dK a kvs ea =>
  cases (show u=Value.ref a from rx)
  obtain⟨_,_,vs,_,p⟩:=(show wj X.prog X.w H s.heap a (.dK kvs) from I.hok a _ ea)
  obtain⟨o,es,ep,h1,h2,_⟩:=p
  exact PySem.W.kia_one PySem.W.kitx_dict I.kIn ⟨o,h1,h2.1⟩ e (fun z=>nomatch z) h
 | @dT a kvs ea =>
  cases (show u=Value.ref a from rx)
  obtain⟨_,_,xs,_,o,es,ep,h1,h2,_⟩:=(show wj X.prog X.w H s.heap a (.dT kvs) from I.hok a _ ea)
  exact PySem.W.kia_one PySem.W.kitx_dict I.kIn ⟨o,h1,h2.1⟩ e (fun z=>nomatch z) h
 | @ins a C dx fs ea cl ha hn htk hm =>
  cases (show u=Value.ref a from rx)
  obtain⟨mA,O,_⟩:=xfK I.hok ea
  obtain⟨od,J,_⟩:=O.look
  exact PySem.W.kia_one (PySem.W.kitx_own (cl.get _) cl.hd ha hn htk hm) I.kIn J e (fun z=>nomatch z) h
end
end L2
namespace L2
open PySem PySem.Spec PyProof.Rows
structure kL (k:Nat)(A:Around):Prop where
 hd:A.handled=none
 dp:A.depth+3*k+5<recursionLimit
 un:A.units+16*k+200<cLine
theorem kL.mono (r:kL k A)(h:j≤k):kL j A:=⟨r.hd,by have:=r.dp;omega,by have:=r.un;omega⟩
theorem kL.deeper (r:kL (k+1) A)(env:Env):kL k (A.deeper env) :=
 ⟨r.hd,by have:=r.dp;show A.depth+1+3*k+5<_;omega,by have:=r.un;show A.units+3+16*k+200<_;omega⟩
theorem kL.depth (r:kL k A):A.depth<recursionLimit:=by have:=r.dp;omega
theorem kL.units (r:kL k A):A.units+64<cLine:=by have:=r.un;omega
def bW:TA:=fun _ H Q=>Q [] H
def uo (ta:TE)(tr:TA):TA:=fun σ H Q=>ta σ H fun x H1=>tr σ H1 fun xs H2=>Q (x::xs) H2
section
variable {X:Cx} {e:Expr} {es:List Expr} {te:TE} {t:TA} {pos:Pos}
theorem u9:PA X [] bW:=fun _ _ _ _ H Q I h=>Calls.spliced_nil ⟨[],H,I,.nil,h⟩
theorem xQ (ha:PE X e te)(hr:PA X es t)(hs:starEach (e::es) X.env=(false,eval e X.env)::starEach es X.env:=by rfl):PA X (e::es) (uo te t):=by
 intro pos pins s σ H Q I h
 rw[hs]
 show wpAny _ _ (spliced ((false,eval e X.env)::backTo pos (starEach es X.env))) _ _ s
 refine Calls.spliced_cons (thn (@ha pins s σ H _ I h) fun u s1 ⟨x,H1,I1,r1,q1⟩=>?_)
 exact thn (@hr pos pins s1 σ H1 _ I1 q1) fun us s2 ⟨xs,H2,I2,r2,q2⟩=>⟨x::xs,H2,I2,.cons r1 r2,q2⟩
def xio (t:TA):TE:=fun σ H Q=>t σ H fun xs H1=>xs.length≤sizeLine∧∀p,H1 p=none→Q (.ref p) (upd H1 p (.tup xs))
def xhX (t:TA):TE:=fun σ H Q=>t σ H fun xs H1=>xs.length≤sizeLine∧∀p,H1 p=none→Q (.ref p) (upd H1 p (.lst xs))
theorem yr (h:PA X es t):PE X (.Tuple es x1 pos) (xio t):=by
 intro pins s σ H Q I hq
 refine wpAny_Tuple_spliced (thn (@h pos pins s σ H _ I hq) fun us s1 ⟨xs,H1,I1,r,z,q⟩=>⟨by rw[←r.length];exact z,?_⟩)
 have hf:H1 s1.heap.objs.size=none:=I1.hok.fresh (xlw _)
 refine⟨.ref s1.heap.objs.size,upd H1 s1.heap.objs.size (.tup xs),I1.laid (t':=s1.toks) (fun b u e=>Heap.get?_push_of_some _ e) (xlw _) ?_,rfl,q _ hf⟩
 exact⟨z,us,r,⟨_,Heap.get?_push_size _ rfl,rfl,_,rfl⟩⟩
theorem yX (h:PA X es t):PE X (.List es pos) (xhX t):=by
 intro pins s σ H Q I hq
 refine wpAny_List_spliced (thn (@h pos pins s σ H _ I hq) fun us s1 ⟨xs,H1,I1,r,z,q⟩=>⟨by rw[←r.length];exact z,?_⟩)
 have hf:H1 s1.heap.objs.size=none:=I1.hok.fresh (xlw _)
 refine⟨.ref s1.heap.objs.size,upd H1 s1.heap.objs.size (.lst xs),I1.laid (t':=s1.toks) (fun b u e=>Heap.get?_push_of_some _ e) (xlw _) ?_,rfl,q _ hf⟩
 exact⟨z,us,0,r,Heap.get?_push_size _ rfl⟩
end
abbrev Sp:=List V→Hp→VK→XK→Prop
abbrev CXT:=List Env→Hp→Shared→XK→Value→Shared→Prop
structure xc7 (P:Program)(w:World)(K:PySem.W.Frag)(mg:Str→Option Value)(base:Heap)(A:Around)(outer:List Env)(s:Shared)(H:Hp):Prop where
 frames:A.frames=some outer
 mod:Mod K mg base
 bs:∀b o,base.get? b=some o→s.heap.get? b=some o∧H b=none
 bsz:base.objs.size≤s.heap.objs.size
 funs:s.heap.FunFrames base outer
 frf:∀b∈frs outer,H b=none
 hok:HOk P w H s.heap
 bare:AllBare s.gens
def CE (outer:List Env)(P:Program)(w:World)(H:Hp)(s:Shared)(Q:VK)(u:Value)(s':Shared):Prop :=
 ∃v H',s'.os=s.os∧AllBare s'.gens∧Un (frs outer) [] H H' s.heap s'.heap∧HOk P w H' s'.heap∧RelV v u∧Q v H'
def CR (CX:CXT)(outer:List Env)(P:Program)(w:World)(H:Hp)(s:Shared)(Q:VK)(E:XK)(r:Result)(s':Shared):Prop :=
 match r with
 | .ok (.ret u)=>CE outer P w H s Q u s'
 | .ok _=>False
 | .error e=>CX outer H s E e s'
structure sY (P:Program)(w:World)(K:PySem.W.Frag)(mg:Str→Option Value)(base:Heap)(CX:CXT)(k:Nat)(f:Addr)(fd:FuncData)(ps:List Str)(sp:Sp):Prop where
 len:∀vs H Q E,sp vs H Q E→vs.length=ps.length
 run:∀(A:Around) (outer:List Env) (s:Shared) (H:Hp) (args:Args) (us:List Value) (vs:List V) (Q:VK) (E:XK),kL k A→xc7 P w K mg base A outer s H→BindsTo s fd args (ps.zip us)→zf vs us→sp vs H Q E →
  codeAny (model P w) A (.call (.ref f) args) (CR CX outer P w H s Q E) s
theorem sY.mono {P:Program}{w:World}{K:PySem.W.Frag}{mg:Str→Option Value}{base:Heap}{CX:CXT}{j k:Nat}{f:Addr}{fd:FuncData}{ps:List Str}{sp:Sp}(F:sY P w K mg base CX j f fd ps sp)(h:j≤k) :
  sY P w K mg base CX k f fd ps sp:=⟨F.len,fun A outer s H args us vs Q E hr=>F.run A outer s H args us vs Q E (hr.mono h)⟩
theorem sY.imp {P:Program}{w:World}{K:PySem.W.Frag}{mg:Str→Option Value}{base:Heap}{CX:CXT}{k:Nat}{f:Addr}{fd:FuncData}{ps:List Str}{sp sp':Sp}(F:sY P w K mg base CX k f fd ps sp)
  (h:∀vs H Q E,sp' vs H Q E→sp vs H Q E):sY P w K mg base CX k f fd ps sp' :=
 ⟨fun vs H Q E q=>F.len vs H Q E (h _ _ _ _ q),fun A outer s H args us vs Q E hr he hb hv hs=>F.run A outer s H args us vs Q E hr he hb hv (h _ _ _ _ hs)⟩
section
variable {X:Cx} {pins:List (Addr×Obj)} {σ:St} {H:Hp} {s s':Shared}
theorem Inv.env0 (I:Inv X pins σ H s):xc7 X.prog X.w X.K X.mg X.base X.A X.stack s H :=
 ⟨I.ok.frames,I.ok.mod,I.bs,xly I.ok.bsz I.sz,I.stack,I.stkFree,I.hok,I.bare⟩
theorem Inv.after (I:Inv X pins σ H s)(h:CE X.stack X.prog X.w H s Q u s'):EP X pins σ Q u s':=by
 obtain⟨v,H',os,bare,un,hok,r,q⟩:=h
 obtain⟨hh,g,d,t,os'⟩:=s'
 obtain rfl:os'=s.os:=os
 exact⟨v,H',I.call (h':=hh) (g':=g) (d':=d) (t':=t) (ch:=[]) un hok bare (fun b z=>absurd z (by simp)),r,q⟩
end
def xh6 (sp:Sp)(dvs:List V)(E:XK)(t:TA):TE:=fun σ H Q=>t σ H fun vs H1=>sp (vs++dvs) H1 Q E
def Binds (K:PySem.W.Frag)(fd:FuncData)(ps:List Str)(ds:List Value):Prop :=
 ∀(s:Shared) (us:List Value),K.In s.heap→(us++ds).length=ps.length→BindsTo s fd ⟨us,[]⟩ (ps.zip (us++ds))
theorem Binds.all {K:PySem.W.Frag}{fd:FuncData}{ps:List Str}(h:∀us:List Value,us.length=ps.length→bindArgs fd ⟨us,[]⟩=pure (ps.zip us)):Binds K fd ps []:=fun s us _ hl=>by
 rw[xkn] at hl ⊢
 exact .of_eq (h us hl)
def gC (CX:CXT)(X:Cx)(E:XK):Prop:=∀(pins:List (Addr×Obj)) (σ:St) (H:Hp) (s:Shared) (e:Value) (s':Shared),Inv X pins σ H s→CX X.stack H s E e s'→X.xe e s'
section
variable {X:Cx} {CX:CXT} {k:Nat} {f C:Addr} {fd:FuncData} {ps:List Str} {sp:Sp} {dvs:List V} {ds:List Value} {E:XK} {x m:Str} {p pos apos:Pos} {e o:Expr} {es:List Expr} {ta:TE} {t:TA}
theorem xa8 (F:sY X.prog X.w X.K X.mg X.base CX k f fd ps sp)(hr:kL k X.A)(hb:Binds X.K fd ps ds)(hd:zf dvs ds)(hx:gC CX X E)
  (I:Inv X pins σ H s) (r:zf vs us) (h:sp (vs++dvs) H Q E):wpAny (model X.prog X.w) X.A (call (.ref f) us) (EP X pins σ Q) X.xe s:=by
 have r2:zf (vs++dvs) (us++ds):=r.append hd
 have hl:(us++ds).length=ps.length:=by rw[←r2.length];exact F.len _ _ _ _ h
 refine wpAny_call (codeAny_mono (F.run X.A X.stack s H ⟨us,[]⟩ (us++ds) (vs++dvs) Q E hr I.env0 (hb s us I.kIn hl) r2 h) fun r s' hq=>?_)
 cases r with
 | error e=>exact hx pins σ H s e s' I hq
 | ok fl =>
  cases fl with
  | ret u=>exact I.after hq
  | next=>exact False.elim hq
  | brk=>exact False.elim hq
  | cont=>exact False.elim hq
theorem xaS (F:sY X.prog X.w X.K X.mg X.base CX k f fd ps sp)(hr:kL k X.A)(hg:Gl X x)(hm:X.mg x=some (.ref f))(hk:PySem.W.keepIn X.K (.ref f)=true)(hb:Binds X.K fd ps ds)(hd:zf dvs ds)(hx:gC CX X E)
  (ha:PA X (e::es) t) (hdb:(x == ("__debug__" : Str))=false:=by decide) (he:starEach (e::es) X.env=(false,eval e X.env)::starEach es X.env:=by rfl) (hpl:(backTo pos (starEach es X.env)).any (·.1)=false:=by rfl) :
  PE X (.Call (.Name x p) (e::es) [] pos) (xh6 sp dvs E t):=by
 intro pins s σ H Q I h
 refine wpAny_Call_Name_kw (hZ I hg hm ?_ hdb)
 refine PySem.W.callWith_K (h₀:=X.base) I.ok.mod.kin hk (thn (@ha pos pins s σ H _ I h) fun us s1 ⟨vs,H1,I1,r,q⟩=>⟨I1.kIn,?_⟩) he hpl
 exact xa8 F hr hb hd hx I1 r q
end
section
variable {X:Cx} {CX:CXT} {k:Nat} {f C:Addr} {fd:FuncData} {ps ks:List Str} {sp:Sp} {E:XK} {x m:Str} {p pos apos kpos:Pos} {e o:Expr} {es:List Expr} {kws:List Keyword} {te ta:TE} {t tk:TA} {nm:Option Str}
variable {g:List Value→List Value→List Value} {gV:List V→List V→List V}
end
structure xC (N P:List Str)(sc:Scope):Prop where
 kind:sc.kind=.function
 co:sc.isCoroutine=false
 gen:sc.isGenerator=false
 nd:N.Nodup
 pre:N.take P.length=P
 par:∀x∈P,sc.names.lookup x=some .local∨sc.names.lookup x=some .cell
 nofree:∀y∈sc.names,y.2≠.free
theorem tO {kindOf:Str→Option NameKind}{x:Str}:∀ {binds:List (Str×Value)} {m:Str→Option Value},(∀v,(x,v)∉binds)→bindL kindOf binds m x=m x
 | [],_,_=>rfl
 | (n,v)::r,m,h=>by
  unfold bindL
  rw[tO fun w hw=>h w (xk6 _ hw)]
  split
  ·have:x≠n:=by rintro rfl;exact h v xk7
   simp[this]
  ·rfl
theorem mq {kindOf:Str→Option NameKind}{x:Str}:∀ {binds:List (Str×Value)} {m:Str→Option Value},(∀v,(x,v)∉binds)→bindC kindOf binds m x=m x
 | [],_,_=>rfl
 | (n,v)::r,m,h=>by
  unfold bindC
  rw[mq fun w hw=>h w (xk6 _ hw)]
  split
  ·rfl
  ·have:x≠n:=by rintro rfl;exact h v xk7
   simp[this]
theorem m6 {kindOf:Str→Option NameKind}{x:Str}{v:Value}:∀ {P:List Str} {vs:List Value} {i:Nat} {m:Str→Option Value},P.Nodup→P[i]? = some x→vs[i]? = some v→kindOf x=some .local →
  bindL kindOf (P.zip vs) m x=some v
 | [],_,_,_,_,h,_,_=>by simp at h
 | _::_,[],_,_,_,_,h,_=>by simp at h
 | p::P,w::vs,0,m,nd,h1,h2,hk=>by
  simp at h1 h2;subst h1;subst h2
  show bindL kindOf ((p,w)::P.zip vs) m p=_
  unfold bindL
  rw[tO fun v hv=>(xlj.mp nd).1 (List.of_mem_zip hv).1,if_pos hk]
  simp
 | p::P,w::vs,i+1,m,nd,h1,h2,hk=>by
  show bindL kindOf ((p,w)::P.zip vs) m x=_
  unfold bindL
  exact m6 (i:=i) (xlj.mp nd).2 (by simpa using h1) (by simpa using h2) hk
theorem nH {kindOf:Str→Option NameKind}{x:Str}{v:Value}:∀ {P:List Str} {vs:List Value} {i:Nat} {m:Str→Option Value},P.Nodup→P[i]? = some x→vs[i]? = some v→kindOf x≠some .local →
  bindC kindOf (P.zip vs) m x=some v
 | [],_,_,_,_,h,_,_=>by simp at h
 | _::_,[],_,_,_,_,h,_=>by simp at h
 | p::P,w::vs,0,m,nd,h1,h2,hk=>by
  simp at h1 h2;subst h1;subst h2
  show bindC kindOf ((p,w)::P.zip vs) m p=_
  unfold bindC
  rw[mq fun v hv=>(xlj.mp nd).1 (List.of_mem_zip hv).1,if_neg hk]
  simp
 | p::P,w::vs,i+1,m,nd,h1,h2,hk=>by
  show bindC kindOf ((p,w)::P.zip vs) m x=_
  unfold bindC
  exact nH (i:=i) (xlj.mp nd).2 (by simpa using h1) (by simpa using h2) hk
def start (N:List Str)(vs:List V):St:=vs.map some++List.replicate (N.length-vs.length) none
def gU (CX:CXT)(P:Program)(w:World)(K:PySem.W.Frag)(mg:Str→Option Value)(base:Heap)(N:List Str)(qual:Str)(scope:Scope)(f:Addr)(cd:Value)(A:Around)(outer:List Env)(s:Shared)(H:Hp)(E:XK):Cx where
 prog:=P
 w:=w
 K:=K
 mg:=mg
 base:=base
 A:=A.deeper (envOfC qual scope s.heap.objs.size f cd)
 N:=N
 s₀:=s
 H₀:=H
 env:=envOfC qual scope s.heap.objs.size f cd
 outer:=outer
 stack:=envOfC qual scope s.heap.objs.size f cd::outer
 ex:=[]
 calm:=true
 fn:=fun _=>true
 pn:=[]
 xe:=fun e s'=>wpAny (model P w) (A.deeper (envOfC qual scope s.heap.objs.size f cd)) (leaving (envOfC qual scope s.heap.objs.size f cd) e) (fun _ s''=>CX outer H s E e s'') (fun e' s''=>CX outer H s E e' s'') s'
theorem pF {sc:Scope}{n:Nat}{x:Str}(h:sc.names.lookup x=some .cell):∃c,(cellsFrom n sc.names []).lookup x=some c:=by
 have q:=PySem.W.cellsFrom_some sc.names n [] (.inl h)
 exact Option.isSome_iff_exists.mp q
theorem xal {CX:CXT}{P:Program}{w:World}{K:PySem.W.Frag}{mg:Str→Option Value}{base:Heap}{N ps:List Str}{qual:Str}{scope:Scope}{f:Addr}{cd:Value}{A:Around}{outer:List Env}{s s1:Shared}{H:Hp}{E:XK}{us:List Value}{vs:List V}
  (S:xC N ps scope) (hd:A.handled=none) (e0:xc7 P w K mg base A outer s H) (hl:vs.length=ps.length) (r:zf vs us)
  (x:InCallC s s.heap.objs.size (bindL (envOfC qual scope s.heap.objs.size f cd).kindOf (ps.zip us) fun _=>none) (cellsFrom (s.heap.objs.size+1) scope.names []) (bindC (envOfC qual scope s.heap.objs.size f cd).kindOf (ps.zip us) fun _=>none) s1) :
  Inv (gU CX P w K mg base N qual scope f cd A outer s H E) [] (start N vs) H s1:=by
 have hpl:ps.length≤N.length:=by have:=xlN List.length S.pre;rw[xkT] at this;omega
 obtain⟨h1,tk,rfl,hk⟩:=x.done
 have noA:∀b:Addr,b∉(gU CX P w K mg base N qual scope f cd A outer s H E).ex:=fun b z=>absurd (show b∈([]:List Addr) from z) (by simp)
 refine⟨⟨e0.mod,S.kind,rfl,rfl,xlw _,fun y z c h1 h2=>?_,fun y hy=>?_,fun y c _ h=>?_,fun _=>hd,Around.frames_deeper e0.frames,.inr ⟨rfl,rfl⟩,fun b z=>absurd z (noA b),e0.bs,e0.bsz,fun b _ _=>noA b,fun b z=>absurd z (noA b),e0.funs,e0.frf⟩,
  rfl,e0.bare,Un.kept hk,⟨_,x.toInCall.ns,fun i y v h1 h2 h3=>?_⟩,fun y c h=>⟨_,x.cell y c h⟩,e0.hok.fresh (xlw _),fun y c h=>?_,fun p hp=>absurd (show p∈([]:List (Addr×Obj)) from hp) (by simp),e0.hok.kept hk,?_⟩
 ·exact name_of_addr x.apart (PySem.mem_of_lookup h1) (PySem.mem_of_lookup h2)
 ·have hy:scope.names.lookup y=some .cell∨scope.names.lookup y=some .free:=hy
  rcases hy with hy | hy
  ·exact pF hy
  ·exact absurd rfl (S.nofree _ (PySem.mem_of_lookup hy))
 ·exact xlv (x.above y c (PySem.mem_of_lookup h))
 ·have hi:i<vs.length:=by
   unfold start at h2
   by_cases hi:i<vs.length
   ·exact hi
   ·rw[xkB (by simpa using hi)] at h2
    rw[List.getElem?_replicate] at h2
    split at h2<;>cases h2
  have ha:vs[i]? = some v:=by
   unfold start at h2
   rw[xkA (by simpa using hi),xkG] at h2
   cases e:vs[i]? with
   | none=>rw[e] at h2;cases h2
   | some a=>rw[e] at h2;cases h2;rfl
  obtain⟨u,hu,rv⟩:=r.get ha
  have hp:ps[i]? = some y:=by
   rw[←S.pre,List.getElem?_take_of_lt (by omega)];exact h1
  have ndP:ps.Nodup:=by rw[←S.pre];exact S.nd.sublist (List.take_sublist _ _)
  refine⟨u,rv,?_⟩
  rcases S.par y (xlc hp) with k | k
  ·exact .inl ⟨k,m6 ndP hp hu k⟩
  ·obtain⟨c,e⟩:=pF (n:=s.heap.objs.size+1) k
   refine .inr ⟨.inl k,c,e,?_⟩
   have q:=x.cell y c e
   rw[nH ndP hp hu (by show scope.names.lookup y≠_;rw[k];decide)] at q
   exact q
 ·exact e0.hok.fresh (xlv (x.above y c (PySem.mem_of_lookup h)))
 ·unfold start
  show _=N.length
  rw[xkL,xkP,List.length_replicate]
  omega
theorem xeE {CX:CXT}{P:Program}{w:World}{K:PySem.W.Frag}{mg:Str→Option Value}{base:Heap}{k:Nat}{f:Addr}{name qual:Str}{params:Arguments}{body:List Stmt}{scope:Scope}{dV kV doc pm cdv ct oc:Value}{an od:Option Addr}
  {osl:Array (Option Value)} {N ps:List Str} {sp:Sp} (lk:K.lookup f=some ⟨oc,od,.func (PySem.W.fnOf name qual params body scope dV kV doc pm an cdv ct),osl⟩) (hcd:PySem.W.codeIn K cdv qual=true) (S:xC N ps scope)
  (len:∀vs H Q E,sp vs H Q E→vs.length=ps.length)
  (hbody:∀(A:Around) (outer:List Env) (s:Shared) (H:Hp) (vs:List V) (Q:VK) (E:XK),kL k (A.deeper (envOfC qual scope s.heap.objs.size f cdv))→sp vs H Q E →
   ∃t,PSs (gU CX P w K mg base N qual scope f cdv A outer s H E) body t∧t { nx:=fun _ H'=>Q .non H',rt:=Q } (start N vs) H) :
  sY P w K mg base CX (k+1) f (PySem.W.fnOf name qual params body scope dV kV doc pm an cdv ct) ps sp:=by
 refine⟨len,fun A outer s H args us vs Q E hr e0 hb r hsp=>?_⟩
 have hl:=len _ _ _ _ hsp
 have KX:K.In s.heap:=e0.mod.kin.keeps fun b o e=>(e0.bs b o e).1
 have lim:s.heap.NoLimit:=e0.mod.nolimit.keeps fun b o e=>(e0.bs b o e).1
 have hkind:∀y∈ps.zip us,scope.names.lookup y.1=some .local∨(scope.names.lookup y.1=some .cell∧((cellsFrom (s.heap.objs.size+1) scope.names []).lookup y.1).isSome=true):=fun⟨n,v⟩ hy=>by
  rcases S.par n (List.of_mem_zip hy).1 with q | q
  ·exact .inl q
  ·exact .inr ⟨q,PySem.W.cellsFrom_some _ _ _ (.inl q)⟩
 refine codeAny_call_function hr.depth (KX _ _ lk) rfl S.co S.gen rfl (PySem.W.codeRec_of KX hcd) (hb _ _ _ _ ?_)
 refine wpAny_newFunctionEnv_cells S.kind hkind fun env he s1 x=>?_
 subst he
 refine⟨lim.keeps x.toInCall.keep,codeAny_func ?_⟩
 obtain⟨t,ht,hq⟩:=hbody A outer s H vs Q E (hr.deeper _) hsp
 have I:Inv (gU CX P w K mg base N qual scope f cdv A outer s H E) [] (start N vs) H s1:=xal S hr.hd e0 hl r x
 refine wpAny_mono (@ht [] s1 (start N vs) H _ I hq) (fun fl s' hs=>?_) fun e s' hs=>hs
 have fin:∀ {σ':St} {H':Hp} {v:V} {u:Value},Inv (gU CX P w K mg base N qual scope f cdv A outer s H E) [] σ' H' s'→RelV v u→Q v H'→CE outer P w H s Q u s' :=
  fun {σ' H' v u} J rv q=>⟨v,H',J.os,J.bare,J.base,J.hok,rv,q⟩
 cases fl with
 | ret u =>
  obtain⟨v,σ',H',J,rv,q⟩:=hs
  exact fin J rv q
 | next =>
  obtain⟨σ',H',J,q⟩:=hs
  exact fin (v:=V.non) (u:=Value.none) J rfl q
 | brk =>
  obtain⟨_,_,_,q⟩:=hs
  exact False.elim q
 | cont =>
  obtain⟨_,_,_,q⟩:=hs
  exact False.elim q
end L2
namespace L2
open PySem PySem.Spec PyProof.Rows
section
variable {X:Cx} {x:Str} {p pos:Pos} {e:Expr} {es:List Expr} {t:TA} {id T:String} {r:List V→Hp→VK→Prop}
def tCB (r:List V→Hp→VK→Prop)(t:TA):TE:=fun σ H Q=>t σ H fun vs H1=>r vs H1 Q
theorem xl (hc:uk X (.builtin id) r)(hg:Gl X x)(hm:X.mg x=none)(hv:bootBuiltins x=some (.builtin id))(ha:PA X (e::es) t)(hn:x ≠ "__name__" := by decide)(hdb:(x == ("__debug__" : Str))=false:=by decide)
  (he:starEach (e::es) X.env=(false,eval e X.env)::starEach es X.env:=by rfl) (hpl:(backTo pos (starEach es X.env)).any (·.1)=false:=by rfl):PE X (.Call (.Name x p) (e::es) [] pos) (tCB r t):=by
 intro pins s σ H Q I h
 refine wpAny_Call_Name_kw (sQ I hg hm hv ?_ hn hdb)
 exact PyProof.Rows.callWith_builtin1 (thn (@ha pos pins s σ H _ I h) fun us s1 ⟨vs,H1,I1,r1,q1⟩=>@hc pins s1 σ H1 vs us Q I1 r1 q1) he hpl
theorem yR (hc:uk X (.type T) r)(hg:Gl X x)(hm:X.mg x=none)(hv:bootBuiltins x=some (.type T))(ha:PA X (e::es) t)(hn:x ≠ "__name__" := by decide)(hdb:(x == ("__debug__" : Str))=false:=by decide)
  (he:starEach (e::es) X.env=(false,eval e X.env)::starEach es X.env:=by rfl) (hpl:(backTo pos (starEach es X.env)).any (·.1)=false:=by rfl):PE X (.Call (.Name x p) (e::es) [] pos) (tCB r t):=by
 intro pins s σ H Q I h
 refine wpAny_Call_Name_kw (sQ I hg hm hv ?_ hn hdb)
 exact PyProof.Rows.callWith_type1 (thn (@ha pos pins s σ H _ I h) fun us s1 ⟨vs,H1,I1,r1,q1⟩=>@hc pins s1 σ H1 vs us Q I1 r1 q1) he hpl
end
end L2
namespace HT
open PySem PyProof.Rows
def lexLt:List Int→List Int→Bool
 | [],[]=>false
 | [],_::_=>true
 | _::_,[]=>false
 | x::xs,y::ys=>if x=y then lexLt xs ys else decide (x<y)
theorem lM (x y:Int)(xs ys:List Int):lexLt (x::xs) (y::ys)=if x=y then lexLt xs ys else decide (x<y):=rfl
theorem aK:lexLt [] []=false:=rfl
theorem sj (y:Int)(ys:List Int):lexLt [] (y::ys)=true:=rfl
theorem sd (x:Int)(xs:List Int):lexLt (x::xs) []=false:=rfl
theorem xcv (A:Around)(s:Shared)(a:Int)(t:Tok)(c:Int)(u:Tok):∃e,SeqAt.EqAt A s (.int a t) (.int c u) e∧(e=true↔a=c) :=
 ⟨(a == c),SeqAt.EqAt.int_int a t c u,by simp⟩
theorem xcZ (A:Around)(s:Shared)(a:Int)(t:Tok)(c:Int)(u:Tok)(prog:Program)(w:World)(E:Value→Shared→Prop)(Q:Value→Shared→Prop)(h:Q (.bool (decide (a<c))) s) :
  wpAny (model prog w) A (richCompare .Lt (.int a t) (.int c u)) Q E s :=
 (PyProof.Rows.lt_int h:wpAny (model prog w) A (compareOp .Lt (.int a t) (.int c u)) Q E s)
section
open PySem.SeqAt
open PySem.AutoSeq1 (wpAny_loadPart')
open PySem.MeetsSeq PySem.MeetsSeq2 PySem.MeetsSeq3
theorem rF (l b:Addr)(items items2:Array Value)(n n2:Nat)(dd dd2:Option Addr)(sl sl2:Array (Option Value))(ns ms:List Int)(hi:IntsAre items.toList ns)(hj:IntsAre items2.toList ms) :
  Meets (Builtin.«tuple.__lt__» ⟨[.ref l,.ref b],[]⟩)
   (fun _ R s=>s.heap.get? l=some { cls:=.type "tuple", dict:=dd,data:=.seq items n,slots:=sl }∧s.heap.get? b=some { cls:=.type "tuple", dict:=dd2,data:=.seq items2 n2,slots:=sl2 } ∧
    R (.ok (.ret (.bool (lexLt ns ms)))) s) :=
 .of_wp fun prog w A R s h=>by
  obtain⟨hp,g,d,tk,os⟩:=s;obtain⟨hl,hb,h⟩:=h
  have f2:=AutoSeq1.sub_tuple_tuple
  have z1:items.size=ns.length:=by rw[←hi.length];simp
  have z2:items2.size=ms.length:=by rw[←hj.length];simp
  wp_walk using wpAny_loadPart' hl,wpAny_loadPart' hb,wpAny_forIn_list _ (fun rest b s'=>b.1=none∧s'=⟨hp,g,d,tk,os⟩∧∃(vs ws:List Value) (ns' ms':List Int),rest=vs.zip ws ∧
   IntsAre vs ns'∧IntsAre ws ms'∧ns'.length+items2.size=ms'.length+items.size∧R (.ok (.ret (.bool (lexLt ns' ms')))) ⟨hp,g,d,tk,os⟩) _
  case turn =>
   rintro⟨y,x⟩ rest b s' ⟨hb',rfl,vs,ws,ns',ms',hz,hvi,hwi,hlen,hR⟩
   cases hvi with
   | nil=>rw[List.zip_nil_left] at hz;cases hz
   | cons a t hvi' =>
    cases hwi with
    | nil=>rw[List.zip_nil_right] at hz;cases hz
    | cons c u hwi' =>
     rw[List.zip_cons_cons] at hz
     injection hz with hyx hrest
     injection hyx with hy hx
     subst hy hx
     rw[lM] at hR
     simp only[xkM] at hlen
     obtain⟨e,he,hiff⟩:=xcv A.in1 ⟨hp,g,d,tk,os⟩ a t c u
     refine wpAny_bind (he prog w _ _ ?_)
     cases e with
     | true =>
      rw[if_pos (hiff.mp rfl)] at hR
      wp_walk
      exact⟨rfl,rfl,_,_,_,_,hrest,hvi',hwi',by omega,hR⟩
     | false =>
      rw[if_neg (fun q=>absurd (hiff.mpr q) xjJ)] at hR
      have hri:=xcZ A.in1 ⟨hp,g,d,tk,os⟩ a t c u prog w
      wp_walk using hri
      exact⟨_,rfl,by simpa using hR⟩
  case fin =>
   rintro⟨b1,b2⟩ s' ⟨hb',rfl,vs,ws,ns',ms',hz,hvi,hwi,hlen,hR⟩
   simp only at hb'
   subst hb'
   have hv:lexLt ns' ms'=decide (items.size<items2.size):=by
    cases hvi with
    | nil =>
     cases hwi with
     | nil =>
      simp only[List.length_nil] at hlen
      rw[aK]
      exact(xlP (by omega)).symm
     | cons c u hw =>
      simp only[List.length_nil,xkM] at hlen
      rw[sj]
      exact(xlR (by omega)).symm
    | cons a t hv =>
     cases hwi with
     | nil =>
      simp only[List.length_nil,xkM] at hlen
      rw[sd]
      exact(xlP (by omega)).symm
     | cons c u hw =>
      rw[List.zip_cons_cons] at hz
      cases hz
   rw[hv] at hR
   wp_walk
   exact⟨_,rfl,by simpa [Builtin.Tuple.tupleCompareSizes] using hR⟩
  case h =>
   exact⟨rfl,rfl,items.toList,items2.toList,ns,ms,rfl,hi,hj,by omega,h⟩
end
section
variable {prog:Program} {w:World} {A:Around} {E:Value→Shared→Prop} {s:Shared}
theorem lC (hl:IsTup s.heap l items)(hb:IsTup s.heap b items2)(hi:IntsAre items.toList ns)(hj:IntsAre items2.toList ms)
  (hu:A.units<cLine) (h:Q (.bool (lexLt ns ms)) s):wpAny (model prog w) A (compareOp .Lt (.ref l) (.ref b)) Q E s:=by
 obtain⟨⟨cls,dd,data,sl⟩,ho,hc,n,hd⟩:=id hl
 obtain⟨⟨cls2,dd2,data2,sl2⟩,ho2,hc2,n2,hd2⟩:=id hb
 simp only at hc hd hc2 hd2
 subst hc hd hc2 hd2
 exact richCompare_meets_room (op:=.Lt) ⟨_,ho,rfl⟩ ⟨_,ho2,rfl⟩ PySem.F.slot_tuple_lt PySem.F.entry_tuple_lt (PySem.F.args_tuple_lt_2 _ _) (rF l b items items2 n n2 dd dd2 sl sl2 ns ms hi hj)
  ⟨ho,ho2,show Value.bool (lexLt ns ms)≠Value.notImplemented∧Q (.bool (lexLt ns ms)) s from⟨(fun x=>nomatch x),h⟩⟩ hu
theorem xeS (ht:IsTup s.heap t vs.toArray)(hb:IsTup s.heap b ws.toArray)(hv:vs≠[])
  (h1:ws=[]→Q (.ref t) s) (h2:ws≠[]→Q (.ref s.heap.objs.size) { s with heap:=s.heap.push { cls:=.type "tuple", data:=.seq (vs++ws).toArray } })
  (hsz:vs.length+ws.length≤sizeLine):wpAny (model prog w) A (binaryOp .Add (.ref t) (.ref b)) Q E s:=by
 obtain⟨⟨cls,dd,data,sl⟩,ho,hc,n,hd⟩:=id ht
 obtain⟨⟨cls2,dd2,data2,sl2⟩,ho2,hc2,n2,hd2⟩:=id hb
 simp only at hc hd hc2 hd2
 subst hc hd hc2 hd2
 have e:vs.toArray++ws.toArray=(vs++ws).toArray:=by simp
 by_cases hw:ws=[]
 ·exact concat_meets ⟨_,ho,rfl⟩ ⟨_,ho2,rfl⟩ noFill_tuple_add seq_tuple_add PySem.F.slot_tuple_add PySem.F.entry_tuple_add (PySem.F.args_tuple_add_2 _ _)
   (tuple_addW1 t b vs.toArray ws.toArray n n2 dd dd2 sl sl2 (by simpa using hv) (by simp[hw])) ⟨ho,ho2,h1 hw⟩
 ·refine concat_meets ⟨_,ho,rfl⟩ ⟨_,ho2,rfl⟩ noFill_tuple_add seq_tuple_add PySem.F.slot_tuple_add PySem.F.entry_tuple_add (PySem.F.args_tuple_add_2 _ _)
   (tuple_addW2 t b vs.toArray ws.toArray n n2 dd dd2 sl sl2 (by simpa using hv) (by simpa using hw) (by rw[xln,xln];exact hsz)) ⟨ho,ho2,?_⟩
  rw[e]
  exact h2 hw
def sIx (n d:Nat):Option Int→Nat
 | none=>d
 | some v=>if v<0 then(v+(n:Int)).toNat else min v.toNat n
theorem oI (n d:Nat):sIx n d none=d:=rfl
theorem xab (n d k:Nat):sIx n d (some (k:Int))=min k n:=by
 show(if (k:Int)<0 then((k:Int)+(n:Int)).toNat else min (k:Int).toNat n)=min k n
 rw[if_neg (by omega),xkc]
theorem xgq (n d:Nat)(hd:d≤n)(o:Option Int):sIx n d o≤n:=by
 cases o with
 | none=>exact hd
 | some v =>
  show(if v<0 then(v+(n:Int)).toNat else min v.toNat n)≤n
  by_cases hv:v<0
  ·rw[if_pos hv];omega
  ·rw[if_neg hv];exact xlE _ _
theorem xaX (v:Int)(n d:Nat):(if v<0 then max (v+(n:Int)) 0 else min v (n:Int))=((sIx n d (some v):Nat):Int):=by
 show(if v<0 then max (v+(n:Int)) 0 else min v (n:Int))=(((if v<0 then(v+(n:Int)).toNat else min v.toNat n):Nat):Int)
 by_cases hv:v<0
 ·simp only[if_pos hv];omega
 ·simp only[if_neg hv];omega
theorem lz (lo hi:Option Int)(n:Nat):Builtin.Slice.sliceAdjust lo hi 1 (n:Int)=(((sIx n 0 lo:Nat):Int),((sIx n n hi:Nat):Int)):=by
 have h1:¬((1:Int)<0):=by omega
 unfold Builtin.Slice.sliceAdjust
 simp only[h1,if_false]
 refine Prod.ext ?_ ?_
 ·cases lo with
  | none=>rfl
  | some v=>exact xaX v n 0
 ·cases hi with
  | none=>rfl
  | some v=>exact xaX v n n
theorem lL (i j:Nat):Builtin.Slice.slicePlaces (i:Int) (j:Int) 1=j-i:=by
 unfold Builtin.Slice.slicePlaces
 have h1:(1:Int)>0:=by omega
 simp only[h1,if_true,Int.ediv_one]
 split<;>omega
theorem sW (p:IsPart v o)(h:Q o s):wpAny (model prog w) A (Builtin.Slice.slicePartIndex v) Q E s:=by
 cases p with
 | none=>exact slicePart_none h
 | int i t=>exact slicePart_int h
theorem qh {sl:Addr}{vl vu:Value}{lo hi:Option Int}{n:Nat}{Q:Int×Int×Nat→Shared→Prop}(hs:s.heap.IsSliceOf sl vl vu .none)(pl:IsPart vl lo)(pu:IsPart vu hi)
  (h:Q (((sIx n 0 lo:Nat):Int),1,sIx n n hi-sIx n 0 lo) s):wpAny (model prog w) A (Builtin.Slice.sliceApplied (.ref sl) (pure (n:Int))) Q E s:=by
 obtain⟨os,hos,hcs,hds⟩:=id hs
 unfold Builtin.Slice.sliceApplied Builtin.Slice.sliceFields
 refine wpAny_bind (wpAny_bind (wpAny_field hos hds (x:=vl) rfl (wpAny_bind (wpAny_field hos hds (x:=vu) rfl (wpAny_bind (wpAny_field hos hds (x:=.none) rfl (wpAny_pure ?_)))))))
 refine wpAny_bind (slicePart_none ?_)
 show wpAny _ _ (if ((1:Int) == 0)=true then _ else _) _ _ s
 rw[if_neg (by decide)]
 refine wpAny_bind (sW pl (wpAny_bind (sW pu (wpAny_bind (wpAny_pure ?_)))))
 show wpAny _ _ (match Builtin.Slice.sliceAdjust lo hi 1 (n:Int) with | (lo,hi)=>pure (lo,(1:Int),Builtin.Slice.slicePlaces lo hi 1)) _ _ s
 rw[lz lo hi n]
 show wpAny _ _ (pure (((sIx n 0 lo:Nat):Int),(1:Int),Builtin.Slice.slicePlaces ((sIx n 0 lo:Nat):Int) ((sIx n n hi:Nat):Int) 1)) _ _ s
 rw[lL]
 exact wpAny_pure h
theorem xcD (xs:Array Value)(i k:Nat):((List.range k).filterMap fun(m:Nat)=>xs[((i:Int)+(m:Int)*1).toNat]?).toArray=((xs.toList.drop i).take k).toArray:=by
 have e:(fun(m:Nat)=>xs[((i:Int)+(m:Int)*1).toNat]?)=fun m=>xs[i+m]?:=by
  funext m
  have:((i:Int)+(m:Int)*1).toNat=i+m:=by omega
  rw[this]
 rw[e]
 have:=pick_run xs i k
 rw[List.filterMap_map] at this
 have e2:((fun x=>xs[x]?) ∘ fun x=>i+x)=fun m=>xs[i+m]?:=rfl
 rw[e2] at this
 rw[this]
theorem gz {t sl:Addr}{items:Array Value}{vl vu:Value}{lo hi:Option Int}{Q:Value→Shared→Prop}(ht:IsTup s.heap t items)(hs:s.heap.IsSliceOf sl vl vu .none)(pl:IsPart vl lo)(pu:IsPart vu hi)
  (hw:¬(sIx items.size 0 lo=0∧sIx items.size items.size hi=items.size))
  (h:Q (.ref s.heap.objs.size) { s with heap:=s.heap.push { cls:=.type "tuple", data:=.seq ((items.toList.drop (sIx items.size 0 lo)).take (sIx items.size items.size hi-sIx items.size 0 lo)).toArray } })
  (hsz:items.size≤sizeLine):wpAny (model prog w) A (getItem (.ref t) (.ref sl)) Q E s:=by
 have htake:sizeOk (.seq ((items.toList.drop (sIx items.size 0 lo)).take (sIx items.size items.size hi-sIx items.size 0 lo)).toArray):=by
  show((items.toList.drop (sIx items.size 0 lo)).take (sIx items.size items.size hi-sIx items.size 0 lo)).toArray.size≤sizeLine
  rw[xln,xkT,xkN,xjE]
  omega
 have hj:sIx items.size items.size hi≤items.size:=xgq _ _ (xlw _) hi
 obtain⟨os,hos,hcs,hds⟩:=id hs
 have hTs:s.TypeIs (.ref sl) "slice" := ⟨os,hos,hcs⟩
 unfold getItem
 try with_reducible refine wpAny_holding ?_
 first | refine wpAny_bind (wpAny_pure ?_) | skip
 refine wpAny_bind (wpAny_sequenceKey ht.typeIs (by decide) ?_)
 refine wpAny_bind (wpAny_callSpecial?_slot (name:=Str.ofString "__getitem__") ht.typeIs PyProof.Rows.slot_tuple_getitem
  (wpAny_call_entry PyProof.Rows.slot_tuple_getitem ht.typeIs entry_tuple_getitem ?_ (args_tuple_getitem _ _)))
 show wpAny _ _ (Builtin.Tuple.tupleItemsOf (.ref t) >>= _) _ _ s
 refine wpAny_bind (tupleItemsOf_ ht ?_)
 refine wpAny_bind (wpAny_typeOf hTs ?_)
 rw[if_pos (by decide)]
 refine wpAny_bind (qh hs pl pu ?_)
 have hno:¬((((sIx items.size 0 lo:Nat):Int) == 0&&(1:Int) == 1&&(sIx items.size items.size hi-sIx items.size 0 lo) == items.size)=true):=by
  intro q
  rw[xjH,xjH] at q
  have q1:((sIx items.size 0 lo:Nat):Int)=0:=eq_of_beq q.1.1
  have q2:sIx items.size items.size hi-sIx items.size 0 lo=items.size:=eq_of_beq q.2
  exact hw ⟨by omega,by omega⟩
 show wpAny _ _ (if (((sIx items.size 0 lo:Nat):Int) == 0&&(1:Int) == 1&&(sIx items.size items.size hi-sIx items.size 0 lo) == items.size)=true then _ else _) _ _ s
 rw[if_neg hno,xcD]
 first
  | exact wpAny_bind (m:=Builtin.Tuple.tupleExact _) (wpAny_newObj_type (wpAny_pure ⟨_,rfl,wpAny_pure h⟩) htake)
  | exact wpAny_bind (m:=Builtin.Tuple.tupleExact _) (wpAny_newObj_type (wpAny_bind (wpAny_pure (wpAny_pure ⟨_,rfl,wpAny_pure h⟩))) htake)
  | exact wpAny_bind (wpAny_bind (m:=Builtin.Tuple.tupleExact _) (wpAny_newObj_type (wpAny_pure (wpAny_pure ⟨_,rfl,wpAny_pure h⟩)) htake))
  | exact wpAny_bind (wpAny_bind (m:=Builtin.Tuple.tupleExact _) (wpAny_newObj_type (wpAny_pure ⟨_,rfl,wpAny_pure h⟩) htake))
end
end HT
namespace L2
open PySem PySem.Spec PyProof.Rows
abbrev TO:=St→Hp→(Option Int→Hp→Prop)→Prop
def PO (X:Cx)(e:Option Expr)(t:TO):Prop :=
 ∀(pins:List (Addr×Obj)) (s:Shared) (σ:St) (H:Hp) (Q:Option Int→Hp→Prop),Inv X pins σ H s→t σ H Q →
  wpAny (model X.prog X.w) X.A (evalPart e X.env) (fun u s'=>∃o H',Inv X pins σ H' s'∧IsPart u o∧Q o H') X.xe s
def xcd:TO:=fun _ H Q=>Q none H
def xf7 (t:TE):TO:=fun σ H Q=>t σ H fun x H1=>∃i,x=.int i∧Q (some i) H1
theorem intsAre_of:∀ {us:List Value},zf (ns.map V.int) us→IntsAre us ns:=by
 induction ns with
 | nil=>intro us r;rw[xk0] at r;cases r;exact .nil
 | cons n ns ih =>
  intro us r
  rw[xkX] at r
  cases r with
  | cons r1 r2 =>
   obtain⟨t,e⟩:=r1
   subst e
   exact .cons n t (ih r2)
section
variable {X:Cx} {e:Expr} {te:TE} {lo hi:Option Expr} {tl th:TO} {pos p2:Pos}
theorem zt:PO X none xcd:=by
 intro pins s σ H Q I h
 rw[evalPart_none]
 exact wpAny_pure ⟨none,H,I,.none,h⟩
theorem zm (h:PE X e te):PO X (some e) (xf7 te):=by
 intro pins s σ H Q I hw
 rw[evalPart_some]
 refine thn (@h pins s σ H _ I hw) fun u s1 ⟨x,H1,I1,r1,q1⟩=>?_
 obtain⟨i,rfl,q⟩:=q1
 obtain⟨t,rfl⟩:=r1
 exact⟨some i,H1,I1,.int i t,q⟩
def SlR (X:Cx)(r:V→Option Int→Option Int→Hp→VK→Prop):Prop :=
 ∀(pins:List (Addr×Obj)) (s:Shared) (σ:St) (H:Hp) (x:V) (v vl vu:Value) (lo hi:Option Int) (sl:Addr) (Q:VK),Inv X pins σ H s→RelV x v→s.heap.IsSliceOf sl vl vu .none→IsPart vl lo→IsPart vu hi→r x lo hi H Q →
  ∃T id,typeLookup (.type T) "__getitem__" = pure (some (.builtin id))∧s.TypeIs v T∧wpAny (model X.prog X.w) X.A (getItem v (.ref sl)) (EP X pins σ Q) X.xe s
def tSl (r:V→Option Int→Option Int→Hp→VK→Prop)(te:TE)(tl th:TO):TE:=fun σ H Q=>te σ H fun x H1=>tl σ H1 fun l H2=>th σ H2 fun u H3=>r x l u H3 Q
theorem yS (hr:SlR X r)(he:PE X e te)(hl:PO X lo tl)(hu:PO X hi th):PE X (.Subscript e (.Slice lo hi none p2) pos) (tSl r te tl th):=by
 intro pins s σ H Q I h
 refine Subscript_ (thn (@he pins s σ H _ I h) fun v s1 ⟨x,H1,I1,r1,q1⟩=>?_)
 refine wpAny_Slice (thn (@hl pins s1 σ H1 _ I1 q1) fun vl s2 ⟨l,H2,I2,pl,q2⟩=>thn (@hu pins s2 σ H2 _ I2 q2) fun vu s3 ⟨u,H3,I3,pu,q3⟩=>?_)
 rw[evalPart_none]
 refine wpAny_pure ?_
 have I4:Inv X pins σ H3 { s3 with heap:=s3.heap.push { cls:=.type "slice", data:=.fields #[vl,vu,.none] } }:=I3.kept (t':=s3.toks) fun b ob q=>Heap.get?_push_of_some _ q
 obtain⟨T,id,hT,ht,hg⟩:=hr pins { s3 with heap:=s3.heap.push { cls:=.type "slice", data:=.fields #[vl,vu,.none] } } σ H3 x v vl vu l u s3.heap.objs.size Q I4 r1 (Heap.IsSliceOf.new ..) pl pu q3
 show wpAny (model X.prog X.w) X.A (subscriptTail e (.Slice lo hi none p2) v (.ref s3.heap.objs.size)) (EP X pins σ Q) X.xe { s3 with heap:=s3.heap.push { cls:=.type "slice", data:=.fields #[vl,vu,.none] } }
 exact tail_any (ops:=[.ref s3.heap.objs.size,v]) ht hT hg (by with_unfolding_all rfl)
def lI (xs:List V)(lo hi:Option Int):List V:=(xs.drop (HT.sIx xs.length 0 lo)).take (HT.sIx xs.length xs.length hi-HT.sIx xs.length 0 lo)
theorem dw (xs:List V)(lo hi:Option Int):(lI xs lo hi).length≤xs.length:=by
 unfold lI
 rw[xkT,xkN]
 omega
def xjz (K:PySem.W.Frag):V→Option Int→Option Int→Hp→VK→Prop:=fun x lo hi H Q=>∃a xs,x=.ref a∧SqT K H a xs ∧
 ¬(HT.sIx xs.length 0 lo=0∧HT.sIx xs.length xs.length hi=xs.length)∧∀p,H p=none→Q (.ref p) (upd H p (.tup (lI xs lo hi)))
theorem xgT:SlR X (xjz X.K):=by
 intro pins s σ H x v vl vu lo hi sl Q I rx hs pl pu h
 obtain⟨a,xs,rfl,hx,hw,q⟩:=h
 cases rx
 obtain⟨its,r,ht,hz⟩:=I.tuple hx
 have hlen:its.toArray.size=xs.length:=by rw[xln];exact r.length.symm
 refine⟨"tuple", _,PyProof.Rows.slot_tuple_getitem.lookup,ht.typeIs,?_⟩
 refine HT.gz ht hs pl pu (by rw[hlen];exact hw) ?_ (by rw[hlen];exact hz)
 rw[hlen]
 refine⟨.ref s.heap.objs.size,_,I.laid (t':=s.toks) (o:=.tup (lI xs lo hi)) (fun b ob q=>Heap.get?_push_of_some _ q) (xlw _) ?_,rfl,q _ (I.hok.fresh (xlw _))⟩
 exact⟨xly (dw xs lo hi) hz,_,(r.drop (HT.sIx xs.length 0 lo)).take (HT.sIx xs.length xs.length hi-HT.sIx xs.length 0 lo),IsTup.new _ _⟩
def xi7 (K:PySem.W.Frag):R2:=fun x y H Q=>∃a b ns ms,x=.ref a∧y=.ref b∧SqT K H a (ns.map V.int)∧SqT K H b (ms.map V.int)∧Q (.bl (HT.lexLt ns ms)) H
theorem xg5 (hu:X.A.units<cLine):OpR X (compareOp .Lt) (xi7 X.K):=by
 intro pins s σ H x y v u Q I rx ry h
 obtain⟨a,b,ns,ms,rfl,rfl,ha,hb,q⟩:=h
 cases rx
 cases ry
 obtain⟨its,r1,p1,_⟩:=I.tuple ha
 obtain⟨its2,r2,p2,_⟩:=I.tuple hb
 have i1:IntsAre its.toArray.toList ns:=intsAre_of r1
 have i2:IntsAre its2.toArray.toList ms:=intsAre_of r2
 exact HT.lC p1 p2 i1 i2 hu ⟨.bl (HT.lexLt ns ms),H,I,rfl,q⟩
def xh7 (K:PySem.W.Frag):R2:=fun x y H Q=>∃a b xs ys,x=.ref a∧y=.ref b∧SqT K H a xs∧SqT K H b ys∧xs≠[]∧xs.length+ys.length≤sizeLine ∧
 (ys=[]→Q (.ref a) H)∧(ys≠[]→∀p,H p=none→Q (.ref p) (upd H p (.tup (xs++ys))))
theorem zf.nil_iff (r:zf xs us):us=[]↔xs=[]:=by
 cases r with
 | nil=>simp
 | cons _ _=>simp
theorem xfa:OpR X (binaryOp .Add) (xh7 X.K):=by
 intro pins s σ H x y v u Q I rx ry h
 obtain⟨a,b,xs,ys,rfl,rfl,ha,hb,hx,hz,q1,q2⟩:=h
 cases rx
 cases ry
 obtain⟨its,r1,p1,_⟩:=I.tuple ha
 obtain⟨its2,r2,p2,_⟩:=I.tuple hb
 refine HT.xeS p1 p2 (fun z=>hx (r1.nil_iff.mp z)) (fun z=>⟨.ref a,H,I,rfl,q1 (r2.nil_iff.mp z)⟩) (fun z=>?_) (by rw[←r1.length,←r2.length];exact hz)
 refine⟨.ref s.heap.objs.size,_,I.laid (t':=s.toks) (o:=.tup (xs++ys)) (fun b ob q=>Heap.get?_push_of_some _ q) (xlw _) ?_,rfl,q2 (fun w=>z (r2.nil_iff.mpr w)) _ (I.hok.fresh (xlw _))⟩
 exact⟨by rw[xkL];exact hz,_,r1.append r2,IsTup.new _ _⟩
end
end L2
namespace L2
open PySem PySem.Spec PyProof.Rows
def ixN (n:Nat)(i:Int):Option Nat:=if 0≤i then(if i<n then some i.toNat else none) else if -(n:Int)≤i then some (i+n).toNat else none
def atI (xs:List α)(i:Int):Option α:=(ixN xs.length i).bind fun j=>xs[j]?
theorem xbF (h:ixN n i=some j):seqIndex? i n=some j∧j<n∧-(n:Int)≤i∧i<n:=by
 unfold ixN at h
 by_cases h0:0≤i
 ·rw[if_pos h0] at h
  by_cases h1:i<n
  ·rw[if_pos h1] at h
   have e:i.toNat=j:=xlL h
   exact⟨by rw[seqIndex_of h0 h1,e],by omega,by omega,h1⟩
  ·rw[if_neg h1] at h;cases h
 ·rw[if_neg h0] at h
  by_cases h1:-(n:Int)≤i
  ·rw[if_pos h1] at h
   have e:(i+n).toNat=j:=xlL h
   exact⟨by rw[seqIndex_neg (by omega) h1,e],by omega,h1,by omega⟩
  ·rw[if_neg h1] at h;cases h
theorem cN (h:atI xs i=some v):∃j,seqIndex? i xs.length=some j∧xs[j]? = some v∧j<xs.length∧-(xs.length:Int)≤i∧i<xs.length:=by
 unfold atI at h
 cases e:ixN xs.length i with
 | none=>rw[e] at h;cases h
 | some j =>
  rw[e] at h
  obtain⟨h1,h2,h3,h4⟩:=xbF e
  exact⟨j,h1,h,h2,h3,h4⟩
theorem xaO {α:Type}{xs:List α}{j:Nat}{v:α}(h:xs[j]? = some v):atI xs (j:Int)=some v:=by
 have hj:j<xs.length:=(xkF.mp h).1
 have e:ixN xs.length (j:Int)=some j:=by
  unfold ixN
  rw[if_pos (by omega),if_pos (by omega)];simp
 unfold atI;rw[e];exact h
theorem xdd (xs:List α)(v:α):atI (xs++[v]) (-1)=some v:=by
 have hl:(xs++[v]).length=xs.length+1:=by simp
 have e:ixN (xs++[v]).length (-1)=some xs.length:=by
  unfold ixN
  rw[hl,if_neg (by decide),if_pos (by omega)]
  congr 1
  omega
 unfold atI
 rw[e]
 show(xs++[v])[xs.length]? = some v
 simp
def xfC (b:Expr):Prop:=∀o i,subscripted b false o i=operate [o,i] (getItem o i)
def IxR (X:Cx)(r:R2):Prop :=
 ∀(value slice:Expr) (pins:List (Addr×Obj)) (s:Shared) (σ:St) (H:Hp) (x y:V) (v u:Value) (Q:VK),Inv X pins σ H s→RelV x v→RelV y u→r x y H Q →
  subscripted slice false v u=operate [v,u] (getItem v u)→wpAny (model X.prog X.w) X.A (subscriptTail value slice v u) (EP X pins σ Q) X.xe s
def MtR (X:Cx)(id:String)(r:V→List V→Hp→VK→Prop):Prop :=
 ∀(pins:List (Addr×Obj)) (s:Shared) (σ:St) (H:Hp) (x:V) (xs:List V) (v:Value) (us:List Value) (Q:VK),Inv X pins σ H s→RelV x v→zf xs us→r x xs H Q →
  wpAny (model X.prog X.w) X.A (call (.builtin id) (v::us)) (EP X pins σ Q) X.xe s
section
variable {X:Cx} {a b:Expr} {ta tb:TE} {pos:Pos}
theorem IxR.or (h:IxR X r)(h':IxR X r'):IxR X (fun x y H Q=>r x y H Q∨r' x y H Q):=by
 intro value slice pins s σ H x y v u Q I rx ry q hs
 rcases q with q | q
 ·exact h value slice pins s σ H x y v u Q I rx ry q hs
 ·exact h' value slice pins s σ H x y v u Q I rx ry q hs
theorem wH (hr:IxR X r)(ha:PE X a ta)(hb:PE X b tb)(hs:xfC b):PE X (.Subscript a b pos) (tOp r ta tb):=by
 intro pins s σ H Q I h
 exact Subscript_ (xhN ha hb I h fun v u s2 x y H2 I2 rx ry q=>hr a @b pins s2 σ H2 x y v u Q I2 rx ry q (hs _ _))
def xhT (K:PySem.W.Frag):R2:=fun x y H Q=>∃p xs i v,x=.ref p∧y=.int i∧SqL K H p xs∧atI xs i=some v∧Q v H
def xiU (K:PySem.W.Frag):R2:=fun x y H Q=>∃p xs i v,x=.ref p∧y=.int i∧SqT K H p xs∧atI xs i=some v∧Q v H
def xi1:R2:=fun x y H Q=>∃z i c,x=.str z∧y=.int i∧z.length≤sizeLine∧atI z.cps.toList i=some c∧Q (.str ⟨#[c]⟩) H
theorem xbX:IxR X (xhT X.K):=by
 intro value slice pins s σ H x y v u Q I rx ry h hs
 obtain⟨p,xs,i,z,rfl,rfl,hq,he,q⟩:=h
 cases rx
 obtain⟨t,rfl⟩:=ry
 obtain⟨its,r,pl,hz⟩:=I.list hq
 obtain⟨j,h1,h2,h3,h4,h5⟩:=cN he
 obtain⟨w,ew,rw'⟩:=r.get h2
 have hl:=r.length
 have hn:=af
 have fin:EP X pins σ Q w s:=⟨z,H,I,rw',q⟩
 by_cases h0:0≤i
 ·have hj:i.toNat=j:=by
   rw[seqIndex_of h0 h5] at h1
   exact xlL h1
  exact item_listR pl.isList h0 (by omega) (by rw[hj];simpa using ew) fin hs
 ·have hj:(i+(its.toArray.size:Int)).toNat=j:=by
   rw[seqIndex_neg (by omega) h4] at h1
   rw[xln,←hl]
   exact xlL h1
  exact subscriptTail_builtinR (x:=w) pl.isList.typeIs slot_list_getitem.lookup
   (wpAny_getItem_list_neg (Q:=fun r s'=>r=w∧EP X pins σ Q r s') pl.isList (by omega) (by rw[xln]<;>omega) (by omega) (by rw[hj];simpa using ew) ⟨rfl,fin⟩) hs
theorem xgh:IxR X (xiU X.K):=by
 intro value slice pins s σ H x y v u Q I rx ry h hs
 obtain⟨p,xs,i,z,rfl,rfl,hq,he,q⟩:=h
 cases rx
 obtain⟨t,rfl⟩:=ry
 obtain⟨its,r,pl,hz⟩:=I.tuple hq
 obtain⟨j,h1,h2,h3,h4,h5⟩:=cN he
 obtain⟨w,ew,rw'⟩:=r.get h2
 have hl:=r.length
 have hn:=af
 have fin:EP X pins σ Q w s:=⟨z,H,I,rw',q⟩
 exact subscriptTail_builtinR (x:=w) pl.typeIs slot_tuple_getitem.lookup
  (getItem_tuple (j:=j) (Q:=fun r s'=>r=w∧EP X pins σ Q r s') pl (by omega) (by omega) (by rw[xln,←hl];exact h1) (by simpa using ew) ⟨rfl,fin⟩) hs
theorem xht:IxR X xi1:=by
 intro value slice pins s σ H x y v u Q I rx ry h hs
 obtain⟨z,i,c,rfl,rfl,hz,he,q⟩:=h
 obtain⟨t,rfl⟩:=rx
 obtain⟨t',rfl⟩:=ry
 obtain⟨j,h1,h2,h3,h4,h5⟩:=cN he
 have hl:z.cps.toList.length=z.length:=by simp[Str.length]
 rw[hl] at h1 h4 h5
 have hn:=af
 exact tail_any (typeIs_str s z t) slot_str_getitem.lookup (getItem_str (c:=c) (by
  have e1:decide (i < -(2 ^ 63:Int))=false:=xlP (by omega)
  have e2:decide (i≥2 ^ 63)=false:=xlP (by omega)
  rw[e1,e2,Bool.or_false]) (by rw[h1];simpa using h2) ⟨.str ⟨#[c]⟩,H,I.tok _,⟨_,rfl⟩,q⟩) hs
def rIx (K:PySem.W.Frag):R2:=fun x y H Q=>xhT K x y H Q∨xiU K x y H Q∨xi1 x y H Q
theorem xgu:IxR X (rIx X.K):=xbX.or (xgh.or xht)
theorem lH (its:List Value)(n j:Nat)(u:Value):Obj.mapSeq (·.setIfInBounds j u) { cls:=.type "list", data:=.seq its.toArray n }={ cls:=.type "list", data:=.seq (its.set j u).toArray n }:=by
 simp[Obj.mapSeq]
theorem Inv.lst {pins:List (Addr×Obj)}{σ:St}{H:Hp}{s:Shared}{p:Addr}{xs:List V}(I:Inv X pins σ H s)(h:H p=some (.lst xs)) :
  ∃(its:List Value) (n:Nat),zf xs its∧s.heap.get? p=some { cls:=.type "list", data:=.seq its.toArray n }∧xs.length≤sizeLine:=by
 obtain⟨z,its,n,r,e⟩:=I.hok p _ h
 exact⟨its,n,r,e,z⟩
theorem Inv.lstUpd {pins:List (Addr×Obj)}{σ:St}{H:Hp}{s:Shared}{p:Addr}{xs ys:List V}{its its':List Value}{n n':Nat}{f:Obj→Obj}(I:Inv X pins σ H s)(h:H p=some (.lst xs))
  (ho:s.heap.get? p=some { cls:=.type "list", data:=.seq its.toArray n }) (hf:f { cls:=.type "list", data:=.seq its.toArray n }={ cls:=.type "list", data:=.seq its'.toArray n' }) (r:zf ys its') (hz:ys.length≤sizeLine) (t:Nat) :
  Inv X pins σ (upd H p (.lst ys)) { s with heap:=s.heap.update p f,toks:=t }:=by
 have e:(s.heap.update p f).get? p=some { cls:=.type "list", data:=.seq its'.toArray n' }:=by
  rw[Heap.get?_update_self f ho (by rw[hf]<;>rfl),hf]
 refine I.write (x:=p) (e:=p) (by rw[h];trivial) (.inl rfl) (fun b u hb q=>(Heap.get?_update_other _ _ (Ne.symm hb)).trans q) ⟨_,e⟩ ?_
 exact⟨hz,its',n',r,e⟩
def xgY:V→V→V→Hp→(Hp→Prop)→Prop:=fun o i v H Q=>∃p xs k j,o=.ref p∧i=.int k∧H p=some (.lst xs)∧ixN xs.length k=some j∧Q (upd H p (.lst (xs.set j v)))
theorem set_list:xix X xgY:=by
 intro pins s σ H o i v ov iv u Q I ro ri rv h
 obtain⟨p,xs,k,j,rfl,rfl,hp,hj,q⟩:=h
 cases ro
 obtain⟨t,rfl⟩:=ri
 obtain⟨its,n,r,ho,hz⟩:=I.lst hp
 obtain⟨h1,h2,h3,h4⟩:=xbF hj
 have hl:=r.length
 have hn:=af
 have I':Inv X pins σ (upd H p (.lst (xs.set j v))) { s with heap:=s.heap.update p (Obj.mapSeq (·.setIfInBounds j u)) } :=
  I.lstUpd hp ho (lH its n j u) (r.set rv j) (by rw[xkR];exact hz) s.toks
 by_cases h0:0≤k
 ·have hk:k.toNat=j:=by
   rw[seqIndex_of h0 h4] at h1
   exact xlL h1
  exact PySem.W.ki_setAt ho h0 (by omega) (by rw[xln,←hl];exact h4) (by rw[hk];exact⟨_,I',q⟩)
 ·have hk:(k+(its.toArray.size:Int)).toNat=j:=by
   rw[seqIndex_neg (by omega) h3] at h1
   rw[xln,←hl]
   exact xlL h1
  exact PySem.W.ki_setBack ho (by omega) (by rw[xln,←hl];exact h3) (by omega) (by rw[hk];exact⟨_,I',q⟩)
theorem tW (lo hi:Option Int)(n:Nat):(sliceBounds lo hi none n).1=((HT.sIx n 0 lo:Nat):Int)∧(sliceBounds lo hi none n).2.1=((HT.sIx n n hi:Nat):Int)∧(sliceBounds lo hi none n).2.2=1:=by
 refine⟨?_,?_,rfl⟩
 ·cases lo with
  | none=>simp[sliceBounds,HT.sIx]
  | some i =>
   simp only[sliceBounds,HT.sIx,Option.getD_none,show(1:Int)>0 by decide,if_true]
   by_cases h:i<0
   ·simp only[h,if_true]<;>omega
   ·simp only[h,if_false]<;>omega
 ·cases hi with
  | none=>simp[sliceBounds,HT.sIx]
  | some i =>
   simp only[sliceBounds,HT.sIx,Option.getD_none,show(1:Int)>0 by decide,if_true]
   by_cases h:i<0
   ·simp only[h,if_true]<;>omega
   ·simp only[h,if_false]<;>omega
theorem rE (its:List Value)(lo hi:Option Int):slicePick its.toArray lo hi none=((its.drop (HT.sIx its.length 0 lo)).take (HT.sIx its.length its.length hi-HT.sIx its.length 0 lo)).toArray:=by
 obtain⟨h1,h2,h3⟩:=tW lo hi its.toArray.size
 unfold slicePick
 rw[h1,h2,h3]
 simp only[sliceRange_one,pick_run,xln]<;>rfl
def xgx (K:PySem.W.Frag):V→Option Int→Option Int→Hp→VK→Prop:=fun x lo hi H Q=>∃a xs,x=.ref a∧SqL K H a xs∧∀p,H p=none→Q (.ref p) (upd H p (.lst (lI xs lo hi)))
theorem xao:SlR X (xgx X.K):=by
 intro pins s σ H x v vl vu lo hi sl Q I rx hs pl pu h
 obtain⟨a,xs,rfl,hx,q⟩:=h
 cases rx
 obtain⟨its,r,ht,hz⟩:=I.list hx
 have hlen:=r.length
 refine⟨"list", _,slot_list_getitem.lookup,ht.isList.typeIs,?_⟩
 refine wpAny_getItem_list_slice ht.isList hs pl pu .none (by simp) ?_ (by rw[xln]<;>omega)
 rw[rE,←hlen]
 refine⟨.ref s.heap.objs.size,_,I.laid (t':=s.toks) (o:=.lst (lI xs lo hi)) (fun b ob q=>Heap.get?_push_of_some _ q) (xlw _) ?_,rfl,q _ (I.hok.fresh (xlw _))⟩
 exact⟨xly (dw xs lo hi) hz,_,0,(r.drop (HT.sIx xs.length 0 lo)).take (HT.sIx xs.length xs.length hi-HT.sIx xs.length 0 lo),Heap.get?_push_size _ rfl⟩
theorem tG:uk X (.builtin "len") (fun xs H Q=>∃p ys,xs=[.ref p]∧(SqL X.K H p ys∨SqT X.K H p ys)∧Q (.int ys.length) H):=by
 intro pins s σ H xs us Q I r h
 obtain⟨p,ys,rfl,hq,q⟩:=h
 obtain⟨u,rfl,rx⟩:=vals1 r
 cases rx
 have hn:=af
 rcases hq with hq | hq
 ·obtain⟨its,r',pl,hz⟩:=I.list hq
  have hlen:=r'.length
  exact Calls.call_len_list pl.isList (by simp only[xln]<;>omega) ⟨.int ys.length,H,I.tok _,⟨s.toks+1,by rw[xln,hlen]⟩,q⟩
 ·obtain⟨its,r',pl,hz⟩:=I.tuple hq
  have hlen:=r'.length
  exact len_tuple pl (by simp only[xln]<;>omega) ⟨.int ys.length,H,I.tok _,⟨s.toks+1,by rw[xln,hlen]⟩,q⟩
theorem qD:uk X (.builtin "len") (fun xs H Q=>∃z,xs=[.str z]∧z.length≤sizeLine∧Q (.int z.length) H):=by
 intro pins s σ H xs us Q I r h
 obtain⟨z,rfl,hz,q⟩:=h
 obtain⟨u,rfl,t,rfl⟩:=vals1 r
 have hn:=af
 exact len_str (by omega) ⟨.int z.length,H,I.tok _,⟨_,rfl⟩,q⟩
theorem aS:uk X (.type "tuple") (fun xs H Q=>∃p ys,xs=[.ref p]∧((SqL X.K H p ys∧∀l,H l=none→Q (.ref l) (upd H l (.tup ys)))∨(SqT X.K H p ys∧Q (.ref p) H))):=by
 intro pins s σ H xs us Q I r h
 obtain⟨p,ys,rfl,h⟩:=h
 obtain⟨u,rfl,rx⟩:=vals1 r
 cases rx
 rcases h with ⟨hq,q⟩ | ⟨hq,q⟩
 ·obtain⟨its,r',pl,hz⟩:=I.list hq
  have hlen:=r'.length
  refine call_tuple_list pl.isList (fun h' kp=>?_) (by simp only[xln]<;>omega)
  have I1:Inv X pins σ H { s with heap:=h' }:=I.kept (t':=s.toks) kp
  have I2:Inv X pins σ (upd H h'.objs.size (.tup ys)) { s with heap:=h'.push { cls:=.type "tuple", data:=.seq its.toArray } } :=
   I1.laid (t':=s.toks) (fun b o e=>Heap.get?_push_of_some _ e) (xlw _) (show wj X.prog X.w _ _ _ (.tup ys) from⟨hz,its,r',IsTup.new _ _⟩)
  exact⟨.ref h'.objs.size,_,I2,rfl,q _ (I1.hok.fresh (xlw _))⟩
 ·obtain⟨its,r',pl,hz⟩:=I.tuple hq
  exact call_tuple_same pl ⟨.ref p,H,I,rfl,q⟩
def tyV (K:PySem.W.Frag)(T:String)(x:V)(H:Hp):Prop:=match x with
 | .str _=>T = "str"
 | .int _=>T = "int"
 | .ref p=>(T = "list" ∧ ∃xs,SqL K H p xs)∨(T = "tuple" ∧ ∃o,K.lookup p=some o∧o.cls=.type "tuple" ∧ o.dict=none) ∨
   (T = "dict" ∧ ((∃kvs,H p=some (.dK kvs))∨∃kvs,H p=some (.dT kvs)))∨(T = "set" ∧ ∃S n,H p=some (.set S n))
 | _=>False
theorem xgW (I:Inv X pins σ H s)(r:RelV x v)(ty:tyV X.K T x H) :
  s.TypeIs v T∧∀a,v=.ref a→∃ob,s.heap.get? a=some ob∧ob.dict=none:=by
 cases x with
 | str z =>
  obtain⟨t,rfl⟩:=r
  cases (show T = "str" from ty)
  exact⟨typeIs_str s z t,fun _ e=>nomatch e⟩
 | int i =>
  obtain⟨t,rfl⟩:=r
  cases (show T = "int" from ty)
  exact⟨typeIs_int s i t,fun _ e=>nomatch e⟩
 | ref p =>
  cases r
  rcases ty with ⟨rfl,xs,hq⟩ | ⟨rfl,o,hk,hc,hd⟩ | ⟨rfl,hk⟩ | ⟨rfl,S,n,hk⟩
  ·obtain⟨its,_,pl,_⟩:=I.list hq
   refine⟨pl.isList.typeIs,fun a e=>?_⟩
   cases e
   obtain⟨o,n,e,c,hd,_⟩:=pl
   exact⟨o,e,hd⟩
  ·refine⟨⟨o,I.kIn p o hk,hc⟩,fun a e=>?_⟩
   cases e
   exact⟨o,I.kIn _ o hk,hd⟩
  ·have z:∃o,s.heap.get? p=some o∧o.ExactDict:=by
    rcases hk with ⟨kvs,hk⟩ | ⟨kvs,hk⟩
    ·obtain⟨_,_,_,_,o,_,_,e,ex,_⟩:=I.hok p _ hk
     exact⟨o,e,ex⟩
    ·obtain⟨_,_,_,_,o,_,_,e,ex,_⟩:=I.hok p _ hk
     exact⟨o,e,ex⟩
   obtain⟨o,e,ex⟩:=z
   refine⟨⟨o,e,ex.1⟩,fun a e2=>?_⟩
   cases e2
   exact⟨o,e,ex.2.1⟩
  ·obtain⟨o,_,_,_,e,ex,_⟩:=I.hok p _ hk
   refine⟨⟨o,e,ex.1⟩,fun a e2=>?_⟩
   cases e2
   exact⟨o,e,ex.2.1⟩
 | _=>exact False.elim ty
def tBM (K:PySem.W.Frag)(T:String)(r:V→List V→Hp→VK→Prop)(to:TE)(t:TA):TE:=fun σ H Q=>to σ H fun x H1=>tyV K T x H1∧t σ H1 fun xs H2=>r x xs H2 Q
variable {o e:Expr} {es:List Expr} {to:TE} {t:TA} {name:Str} {apos cpos:Pos} {T id:String} {r:V→List V→Hp→VK→Prop}
theorem ur (pa:PlainAttrs T)(slot:Slot T name id)(hty:typeOf (.builtin id)=pure (.type "method_descriptor"))(hm:MtR X id r)(ho:PE X o to)(ha:PA X (e::es) t)
  (hbase:attributeBase o name X.env (eval o X.env)=eval o X.env:=by rfl)
  (hfew:((backTo cpos (starEach (e::es) X.env)).all (fun x=>!x.1)&&(backToKw cpos (keywordEach [] X.env)).all (fun x=>x.1.isSome)
   && decide ((e::es).length+([]:List Keyword).length+(if ([]:List Keyword).isEmpty then 0 else 1)<30))=true:=by rfl)
  (hline:(apos.endLine == cpos.line)=true:=by rfl) (hs:starEach (e::es) X.env=(false,eval e X.env)::starEach es X.env:=by rfl) (hplain:(backTo cpos (starEach es X.env)).any (·.1)=false:=by rfl) :
  PE X (.Call (.Attribute o name apos) (e::es) [] cpos) (tBM X.K T r to t):=by
 intro pins s σ H Q I h
 refine wpAny_Call_method_late hbase hfew hline rfl (thn (@ho pins s σ H _ I h) fun v s1 ⟨x,H1,I1,r1,ty,q1⟩=>?_)
 obtain⟨h1,h2⟩:=xgW I1 r1 ty
 refine⟨T,id,pa,slot,hty,h1,h2,?_⟩
 have hA:=@ha cpos pins s1 σ H1 _ I1 q1
 rw[hs] at hA ⊢
 refine Calls.callWith_builtin (by show(false || (backTo cpos (starEach es X.env)).any (·.1))=false;rw[hplain]<;>rfl) (Calls.evalArgs_plain ?_)
 exact thn hA fun us s2 ⟨vs,H2,I2,r2,q2⟩=>@hm pins s2 σ H2 x vs v us Q I2 r1 r2 q2
end
end L2
namespace L2
open PySem PySem.Spec PyProof.Rows
def MtM (X:Cx)(id:String)(r:V→List V→Hp→VK→Prop):Prop :=
 ∀(pins:List (Addr×Obj)) (s:Shared) (σ:St) (H:Hp) (x:V) (xs:List V) (v:Value) (us:List Value) (Q:VK),Inv X pins σ H s→RelV x v→zf xs us→r x xs H Q →
  wpAny (model X.prog X.w) X.A (call (.builtin id) (v::us)) (EP X pins σ Q) X.xe s
theorem zf.one:∀ {x:V} {us:List Value},zf [x] us→∃u,us=[u]∧RelV x u
 | _,_,.cons r .nil=>⟨_,rfl,r⟩
theorem zf.eraseIdx:∀ {xs:List V} {us:List Value} (i:Nat),zf xs us→zf (xs.eraseIdx i) (us.eraseIdx i)
 | _,_,_,.nil=>.nil
 | _,_,0,.cons _ t=>t
 | _,_,i+1,.cons r t=>.cons r (zf.eraseIdx i t)
theorem mU:∀(l:List α) (i:Nat),(l.eraseIdx i).length≤l.length
 | [],_=>xlw _
 | _::_,0=>xlx _
 | _::r,i+1=>Nat.succ_le_succ (mU r i)
section
variable {X:Cx} {pins:List (Addr×Obj)} {σ:St} {H:Hp} {s:Shared} {l b:Addr} {xs ys zs:List V}
theorem Inv.lset {its its':List Value}{n:Nat}{f:Array Value→Array Value}{t':Nat}(I:Inv X pins σ H s)(hH:H l=some (.lst xs))
  (e:s.heap.get? l=some { cls:=.type "list", data:=.seq its.toArray n }) (hf:f its.toArray=its'.toArray) (hv:zf ys its') (hz:ys.length≤sizeLine) :
  Inv X pins σ (upd H l (.lst ys)) { s with heap:=s.heap.update l (Obj.mapSeq f),toks:=t' }:=by
 have q:=PySem.IsL.update e f
 rw[hf] at q
 refine I.write (x:=l) (e:=l) (by rw[hH];exact trivial) (.inl rfl) (fun b' u hb hu=>(Heap.get?_update_other s.heap (Obj.mapSeq f) (Ne.symm hb)).trans hu) ⟨_,q⟩ ?_
 exact⟨hz,its',_,hv,q⟩
theorem Inv.lnew (I:Inv X pins σ H s)(hv:zf ys its)(hz:ys.length≤sizeLine) :
  Inv X pins σ (upd H s.heap.objs.size (.lst ys)) { s with heap:=s.heap.push { cls:=.type "list", data:=.seq its.toArray },toks:=t' } :=
 I.laid (fun _ _ q=>Heap.get?_push_of_some _ q) (xlw _) ⟨hz,its,0,hv,Heap.get?_push_size _ rfl⟩
theorem Inv.fresh (I:Inv X pins σ H s):H s.heap.objs.size=none:=I.hok.fresh (xlw _)
theorem Inv.lstM (I:Inv X pins σ H s)(hH:H l=some (.lst xs)):xs.length≤sizeLine∧∃(its:List Value) (n:Nat),zf xs its∧xs.length=its.length∧s.heap.get? l=some { cls:=.type "list", data:=.seq its.toArray n }:=by
 obtain⟨z,its,n,r,e⟩:=I.hok l _ hH
 exact⟨z,its,n,r,r.length,e⟩
end
section
variable {X:Cx}
def xbn:V→List V→Hp→VK→Prop:=fun x vs H Q=>∃l xs y,x=.ref l∧vs=[y]∧H l=some (.lst xs)∧xs.length<sizeLine∧Q .non (upd H l (.lst (xs++[y])))
theorem uR:MtM X "list.append" xbn:=by
 intro pins s σ H x vs v us Q I rx rv h
 obtain⟨l,xs,y,rfl,rfl,hH,hz,q⟩:=h
 cases rx
 obtain⟨u,rfl,ru⟩:=rv.one
 obtain⟨z,its,n,r,hl,e⟩:=I.lstM hH
 refine call_meets F.slot_list_append ⟨_,e,rfl⟩ F.entry_list_append (F.args_list_append_2 _ _) (PySem.list_append l its.toArray n u (by rw[xln];omega)) ⟨e,?_⟩
 refine⟨.non,_,I.lset (its':=its++[u]) hH e (by simp) (r.append (.cons ru .nil)) ?_,rfl,q⟩
 rw[xkL,xkS]
 omega
def xdz:V→List V→Hp→VK→Prop:=fun x vs H Q=>∃l xs i k y,x=.ref l∧vs=[.int i]∧H l=some (.lst xs)∧-(2 ^ 63)≤i∧i<2 ^ 63∧seqIndex? i xs.length=some k∧xs[k]? = some y∧Q y (upd H l (.lst (xs.eraseIdx k)))
theorem xdj:MtM X "list.pop" xdz:=by
 intro pins s σ H x vs v us Q I rx rv h
 obtain⟨l,xs,i,k,y,rfl,rfl,hH,h1,h2,hk,hy,q⟩:=h
 cases rx
 obtain⟨u,rfl,ru⟩:=rv.one
 obtain⟨t,rfl⟩:=ru
 obtain⟨z,its,n,r,hl,e⟩:=I.lstM hH
 obtain⟨w,hw,rw'⟩:=r.get hy
 refine call_meets F.slot_list_pop ⟨_,e,rfl⟩ F.entry_list_pop (F.args_list_pop_2 _ _)
  (MeetsSeq.list_pop_at l its.toArray n i t k w (fitsIndex_both h1 h2) (by rw[xln,←hl];exact hk) (by rw[←xjC];exact hw) (by rw[xln];omega)) ⟨e,?_⟩
 refine⟨y,_,I.lset (its':=its.eraseIdx k) hH e ?_ (r.eraseIdx k) ?_,rw',q⟩
 ·show its.toArray.eraseIdxIfInBounds k=(its.eraseIdx k).toArray
  rw[List.eraseIdxIfInBounds_toArray]
 ·have:=mU xs k
  omega
def xhB:R2:=fun x y H Q=>∃l b xs zs,x=.ref l∧y=.ref b∧H l=some (.lst xs)∧H b=some (.lst zs)∧xs.length+zs.length≤sizeLine∧∀p,H p=none→Q (.ref p) (upd H p (.lst (xs++zs)))
theorem sC:OpR X (binaryOp .Add) xhB:=by
 intro pins s σ H x y v u Q I rx ry h
 obtain⟨l,b,xs,zs,rfl,rfl,hH,hB,hz,q⟩:=h
 cases rx
 cases ry
 obtain⟨z,its,n,r,hl,e⟩:=I.lstM hH
 obtain⟨z2,its2,n2,r2,hl2,e2⟩:=I.lstM hB
 refine PySem.P.add_list e e2 ?_ (by rw[xln,xln];omega)
 have ea:its.toArray++its2.toArray=(its++its2).toArray:=by simp
 rw[ea]
 exact⟨.ref _,_,I.lnew (t':=s.toks) (r.append r2) (by rw[xkL];omega),rfl,q _ I.fresh⟩
end
section
variable {prog:Program} {w:World} {A:Around} {E:Value→Shared→Prop} {s:Shared}
end
section
variable {X:Cx}
end
end L2
namespace Att
open PySem PySem.W PySem.Calls PyProof.Rows
theorem dm:∀(ns:List Int) (vs:List Value),WellAll P h vs (ns.map WData.int)→IntsAre vs ns:=by
 intro ns
 induction ns with
 | nil =>
  intro vs w
  rw[xk0] at w
  cases w
  exact .nil
 | cons n ns ih =>
  intro vs w
  rw[xkX] at w
  cases w with
  | cons a b =>
   cases a
   exact .cons _ _ (ih _ b)
theorem xax {l:OpenLaw}{n:Nat}(hn:l.most=some n){P:Params}{h:Heap}{args:List WData}{vals:List Value}
  (hpre:l.row.toRowW.claim.pre args=true) (hwl:WellAll P h vals args) :
  ∃a vs ns,vals=[Value.ref a]∧args=[WData.list (ns.map WData.int)]∧h.get? a=some { cls:=.type "list", data:=.seq vs.toArray }∧IntsAre vs ns∧ns.length≤n:=by
 have hsh:WShape.hasAll [] args [.list .int]=true:=(pre_splitW hpre).1
 have hc:l.pre.holds [] { args:=args }=true:=(pre_splitW hpre).2
 obtain⟨d,r,rfl,h1,h2⟩:=hasAllW_cons hsh
 obtain rfl:=hasAllW_nil h2
 obtain⟨xs,rfl,h3⟩:=hasW_list h1
 obtain⟨ns,rfl⟩:=items_int h3
 have hlen:ns.length≤n:=by
  unfold OpenLaw.pre at hc
  have h4:(WTm.not (.lt (.lit (.int (n:Int))) (.len (.arg 0)))).holds [] { args:=[.list (ns.map .int)] }=true:=by
   have h4:=(holds_andW hc).1
   rw[hn] at h4
   exact h4
  have h5:=condW_of h4 (w_not (w_lt w_lit (w_len_list (w_arg rfl))))
  rw[xkP] at h5
  refine Nat.le_of_not_lt fun q=>?_
  have q':(n:Int)<((ns.length:Nat):Int):=by omega
  first
   | (rw[xlR q'] at h5;exact absurd h5 (by decide))
   | (simp at h5;omega)
 cases hwl with
 | cons w1 w2 =>
  cases w2
  cases w1 with
  | list ho hall=>exact⟨_,_,ns,rfl,rfl,ho,dm ns _ hall,hlen⟩
theorem xaL (l:OpenLaw)(args:List WData):l.row.toRowW.claim.post args (.bool true) args=true :=
 postW_of (r:=l.row.toRowW) (X:=(true == true))
  (show WShape.has [] (.bool true) .bool=true by first | rfl | decide | simp[WShape.has,WShape.arms,WShape.armsAll])
  (show(WTm.eq .res (.lit (.bool true))).value [] { args:=args,res:=some (.bool true),after:=args }=some (.bool (true == true)) from w_eq_bool (w_res rfl) w_lit) rfl
theorem fv {l:OpenLaw}{n:Nat}{q:Program}{loose:List Str}{XP:(Str→Option Value)→Heap→Prop}{YP:World→Heap→Prop}{d:DefRec}
  (hn:l.most=some n) (hdf:d.params.defaults=[])
  (call:∀(w:World) (s₀ s₁:Shared) (mg mb:Str→Option Value) (fa:Addr) (o:Obj) (pm cd doc:Value) (a:Addr) (vs:List Value) (ns:List Int),
   Ground q loose [] XP w s₀ mg mb s₁.heap→YP w s₁.heap →
   s₁.heap.get? fa=some o→o.data=.func (docDef d.name d.params d.body d.scope pm cd doc)→s₁.heap.CodeRec cd d.name→mg d.name=some (.ref fa) →
   s₁.heap.get? a=some { cls:=.type "list", data:=.seq vs.toArray }→IntsAre vs ns→ns.length≤n→s₁.gens = #[] →
   codeAny (model l.prog w) callerA (.call (.ref fa) ⟨[.ref a],[]⟩) (fun r s'=>r=.ok (.ret (.bool true))∧OldK s₁.heap s'.heap∧s'.os=s₁.os∧AllBare s'.gens) s₁) :
  WalkO q loose XP YP l.row.toRowW d [] (fun f vs=>PySem.call f vs):=by
 intro w s₀ s₁ mg mb G Y fa o pm cd doc dV kV ho hd hcd hD hmg hg args vals as hpre hlay hrd hwl hlo
 obtain rfl:dV=.none:=Dflts.none hD hdf
 obtain rfl:kV=.none:=Dflts.noKw hD
 obtain⟨a,vs,ns,rfl,rfl,hobj,hints,hlen⟩:=xax hn hpre hwl
 refine enter_call (codeAny_mono (call w s₀ s₁ mg mb fa o pm cd doc a vs ns G Y ho (fd_plain hd) hcd hmg hobj hints hlen hg) fun r s' hq=>?_)
 obtain⟨rfl,h2,h3,h4⟩:=hq
 exact⟨.inl ⟨.bool true,.bool true,[],rfl,fun _=>rfl,.bool true,xaL l _,fun _=>⟨List.Pairwise.nil,fun _ hm=>(nomatch hm)⟩⟩,h2,h3,h4⟩
section
variable {prog:Program} {w:World} {A:Around} {E:Value→Shared→Prop} {s:Shared} {K:Frag}
def ledger (h:Heap)(L d:Addr):List (Addr×Obj):=(List.range h.objs.size).filterMap fun a=>if a=L∨a=d then none else(h.get? a).map fun o=>(a,o)
end
end Att
namespace L2
open PySem PySem.Spec PyProof.Rows
theorem fG:∀ {vs:List Value} {ns:List Int},IntsAre vs ns→zf (ns.map V.int) vs
 | _,_,.nil=>.nil
 | _,_,.cons n t h=>.cons ⟨t,rfl⟩ (fG h)
def xip (H:Hp):Prop:=∀b,H b=none∨∃o xs,H b=some (.frz o (.lst xs))
theorem xdc {P:Program}{w:World}{K:PySem.W.Frag}{mg mb:Str→Option Value}{CX:CXT}{k:Nat}{fa a:Addr}{fd:FuncData}{x:Str}{sp:Sp}{s₁:Shared}{vs:List Value}{ns:List Int}
  (KX:K.In s₁.heap) (hns:s₁.heap.Ns mainGlobals mg) (hb:s₁.heap.Ns builtinsNs mb) (hbb:∀x:Str,x ≠ "__name__" → mb x=bootBuiltins x) (hlim:s₁.heap.NoLimit) (hg:s₁.gens = #[])
  (ha:s₁.heap.get? a=some { cls:=.type "list", data:=.seq vs.toArray }) (hi:IntsAre vs ns) (hl:ns.length≤sizeLine) (hr:kL k callerA)
  (F:∀base:Heap,K.In base→base.Ns mainGlobals mg→sY P w K mg base CX k fa fd [x] sp) (hbind:∀(s:Shared) (u:Value),BindsTo s fd ⟨[u],[]⟩ [(x,u)])
  (hsp:∀H:Hp,xip H→SqL K H a (ns.map V.int)→sp [.ref a] H (fun v _=>v=.bl true) fun _ _ _=>False)
  (hCX:∀H e s',CX [] H s₁ (fun _ _ _=>False) e s'→False) :
  codeAny (model P w) callerA (.call (.ref fa) ⟨[.ref a],[]⟩) (fun r s'=>r=.ok (.ret (.bool true))∧OldK s₁.heap s'.heap∧s'.os=s₁.os∧AllBare s'.gens) s₁:=by
 have rv:=fG hi
 have lenV:=hi.length
 have core:∀H:Hp,xip H→SqL K H a (ns.map V.int)→HOk P w H s₁.heap→(∀b,H b≠none→b=a)→(H a≠none→K.lookup a=none) →
   codeAny (model P w) callerA (.call (.ref fa) ⟨[.ref a],[]⟩) (fun r s'=>r=.ok (.ret (.bool true))∧OldK s₁.heap s'.heap∧s'.os=s₁.os∧AllBare s'.gens) s₁:=by
  intro H hO hS hok hA hK
  have base_of:∀ {b:Addr} {o:Obj},s₁.heap.get? b=some o→H b=none→(pj s₁.heap H).get? b=some o:=fun e n=>pR e n
  have noA:∀ {b:Addr} {o:Obj} {es:Array DictEntry} {ep:Nat},s₁.heap.get? b=some o→o.data=.dict es ep→H b=none:=fun {b o es ep} e d=>by
   cases q:H b with
   | none=>rfl
   | some u =>
    have e':b=a:=hA b (by rw[q];simp)
    subst e'
    rw[ha] at e;cases e
    have d':Data.seq vs.toArray _=Data.dict es ep:=d
    cases d'
  have nsK:∀ {b:Addr} {m:Str→Option Value},s₁.heap.Ns b m→(pj s₁.heap H).Ns b m:=fun {b m} ⟨o,es,ep,e,d,r⟩=>⟨o,es,ep,base_of e (noA e d),d,r⟩
  have hKb:K.In (pj s₁.heap H):=fun b o e=>base_of (KX b o e) (by
   cases q:H b with
   | none=>rfl
   | some u =>
    have e':b=a:=hA b (by rw[q];simp)
    subst e'
    rw[hK (by rw[q];simp)] at e;cases e)
  have hM:Mod K mg (pj s₁.heap H):=⟨hKb,nsK hns,⟨mb,nsK hb,hbb⟩,let ⟨mc,h1,h2⟩:=hlim;⟨mc,nsK h1,h2⟩⟩
  have e0:xc7 P w K mg (pj s₁.heap H) callerA [] s₁ H:=⟨rfl,hM,fun b o e=>lW e,Nat.le_of_eq (tY _ _),trivial,fun b hb=>absurd (show b∈([]:List Addr) from hb) (by simp),hok,.of_eq hg⟩
  refine codeAny_mono ((F _ hKb (nsK hns)).run callerA [] s₁ H ⟨[.ref a],[]⟩ [.ref a] [.ref a] _ _ hr e0 (hbind s₁ (.ref a)) (.cons rfl .nil) (hsp H hO hS)) fun r s' h=>?_
  cases r with
  | error e=>exact(hCX H e s' h).elim
  | ok fl =>
   cases fl with
   | next=>exact False.elim h
   | brk=>exact False.elim h
   | cont=>exact False.elim h
   | ret u =>
    obtain⟨v,H',os,bare,un,hok',r',q⟩:=h
    have q':v=.bl true:=q
    subst q'
    obtain rfl:u=Value.bool true:=r'
    refine⟨rfl,OldK.of_keep fun b o e=>?_,os,bare⟩
    cases q:H b with
    | none=>exact un.keep b o e q (by intro z;exact absurd (show b∈([]:List Addr) from z) (by simp)) (by simp)
    | some u =>
     rcases hO b with z | ⟨ob,xs,z⟩
     ·rw[q] at z;cases z
     ·have z2:=un.frzs b ob _ z
      obtain⟨e1,_⟩:=hok b _ z
      obtain⟨e2,_⟩:=hok' b _ z2
      rw[e] at e1;cases e1
      exact e2
 cases hk:K.lookup a with
 | some o =>
  have e:=KX a o hk
  rw[ha] at e
  cases e
  refine core (fun _=>none) (fun _=>.inl rfl) (.inr ⟨_,vs.toArray,_,hk,rfl,rfl,rfl,by rw[xln,lenV];exact hl,by simpa using rv⟩) (fun b u z=>by have z':(none:Option HO)=some u:=z;cases z') (fun b z=>absurd rfl z) fun z=>absurd rfl z
 | none =>
  refine core (fun b=>if b=a then some (.frz { cls:=.type "list", data:=.seq vs.toArray } (.lst (ns.map V.int))) else none) (fun b=>?_) (.inl (.inr ⟨{ cls:=.type "list", data:=.seq vs.toArray },if_pos rfl⟩)) (fun b u z=>?_) (fun b z=>?_) fun _=>hk
  ·by_cases hb:b=a
   ·exact .inr ⟨_,_,if_pos hb⟩
   ·exact .inl (if_neg hb)
  ·by_cases hb:b=a
   ·have z':=(if_pos hb).symm.trans z
    cases z'
    subst hb
    exact⟨ha,by rw[xkP];exact hl,vs,_,rv,ha⟩
   ·have z':=(if_neg hb).symm.trans z
    cases z'
  ·by_cases hb:b=a
   ·exact hb
   ·exact absurd (if_neg hb) z
end L2
namespace L2
open PySem PySem.Spec PyProof.Rows
abbrev KOf {K:PySem.W.Frag}{h:Heap}(_:K.In h):PySem.W.Frag:=K
theorem xie {l:PySem.W.OpenLaw}{n k:Nat}{q:Program}{loose:List Str}{XP:(Str→Option Value)→Heap→Prop}{YP:World→Heap→Prop}{d:DefRec}{K:Params→PySem.W.Frag}{CX:World→CXT}{sp:World→Sp}{x:Str}
  (hn:l.most=some n) (hn2:n≤sizeLine) (hdf:d.params.defaults=[]) (hr:kL k callerA)
  (hY:∀(w:World) (h:Heap),YP w h→(K w.params).In h)
  (F:∀(w:World) (mg:Str→Option Value) (fa:Addr) (h:Heap),(K w.params).In h→h.Ns mainGlobals mg→mg d.name=some (.ref fa) →
   ∃fd:FuncData,(∀(s:Shared) (u:Value),BindsTo s fd ⟨[u],[]⟩ [(x,u)]) ∧
    ∀base:Heap,(K w.params).In base→base.Ns mainGlobals mg→sY l.prog w (K w.params) mg base (CX w) k fa fd [x] (sp w))
  (hsp:∀(w:World) (H:Hp) (a:Addr) (ns:List Int),ns.length≤n→xip H→SqL (K w.params) H a (ns.map V.int)→sp w [.ref a] H (fun v _=>v=.bl true) fun _ _ _=>False)
  (hCX:∀(w:World) (H:Hp) (s:Shared) (e:Value) (s':Shared),CX w [] H s (fun _ _ _=>False) e s'→False) :
  PySem.W.WalkO q loose XP YP l.row.toRowW d [] (fun f vs=>PySem.call f vs):=by
 refine Att.fv hn hdf fun w s₀ s₁ mg mb fa o pm cd doc a vs ns G Y ho hd hcd hmg hobj hints hlen hg=>?_
 have KX:=hY w _ Y
 obtain⟨fd,hb,hF⟩:=F w mg fa _ KX G.T.g hmg
 exact xdc KX G.T.g G.T.b G.T.builtins G.T.nolimit hg hobj hints (xly hlen hn2) hr hF hb (fun H hO hS=>hsp w H a ns hlen hO hS) fun H e s'=>hCX w H s₁ e s'
end L2
namespace L2
open PySem PySem.Spec PyProof.Rows
def uj (s:Stmt):Arguments:=match s with
 | .FunctionDef _ a _ _ _ _ _ _ _ _=>a
 | _=>{ posonlyargs:=[],args:=[],vararg:=none,kwonlyargs:=[],kw_defaults:=[],kwarg:=none,defaults:=[] }
def yZ (s:Stmt):List Stmt:=match s with
 | .FunctionDef _ _ b _ _ _ _ _ _ _=>b
 | _=>[]
def xf (s:Stmt):Scope:=match s with
 | .FunctionDef _ _ _ _ _ _ sc _ _ _=>sc
 | _=>{ kind:=.function,names:=[],isGenerator:=false,isCoroutine:=false }
abbrev CX0:CXT:=fun _ _ _ _ _ _=>False
abbrev E0:XK:=fun _ _ _=>False
theorem xgt:gC CX0 X E0:=fun _ _ _ _ _ _ _ h=>h.elim
structure Fun (K:PySem.W.Frag)(x qual:Str)(st:Stmt)(f:Addr)(fd:FuncData):Prop where
 ex:∃(oc:Value) (od:Option Addr) (kV doc pm:Value) (an:Option Addr) (cdv ct:Value) (osl:Array (Option Value)),
  fd=PySem.W.fnOf x qual (uj st) (yZ st) (xf st) .none kV doc pm an cdv ct∧K.lookup f=some ⟨oc,od,.func fd,osl⟩∧PySem.W.codeIn K cdv qual=true
 kp:PySem.W.keepIn K (.ref f)=true
section
variable {P:Program} {w:World} {K:PySem.W.Frag} {mg:Str→Option Value} {base:Heap}
theorem Fun.ok {x qual:Str}{st:Stmt}{f:Addr}{fd:FuncData}{N ps:List Str}{k:Nat}{sp:Sp}(F:Fun K x qual st f fd)(S:xC N ps (xf st))(len:∀vs H Q E,sp vs H Q E→vs.length=ps.length)
  (hbody:∀(cdv:Value) (A:Around) (outer:List Env) (s:Shared) (H:Hp) (vs:List V) (Q:VK) (E:XK),kL k (A.deeper (envOfC qual (xf st) s.heap.objs.size f cdv))→sp vs H Q E →
   ∃t,PSs (gU CX0 P w K mg base N qual (xf st) f cdv A outer s H E).nox (yZ st) t∧t { nx:=fun _ H'=>Q .non H',rt:=Q } (start N vs) H):sY P w K mg base CX0 (k+1) f fd ps sp:=by
 obtain⟨oc,od,kV,doc,pm,an,cdv,ct,osl,rfl,lk,hcd⟩:=F.ex
 refine xeE lk hcd S len fun A outer s H vs Q E hr hsp=>?_
 obtain⟨t,h,q⟩:=hbody cdv A outer s H vs Q E hr hsp
 exact⟨t,h.nox,q⟩
theorem Fun.binds {x qual:Str}{st:Stmt}{f:Addr}{fd:FuncData}{ps:List Str}(F:Fun K x qual st f fd)
  (h:∀(kV doc pm:Value) (an:Option Addr) (cdv ct:Value) (us:List Value),us.length=ps.length→bindArgs (PySem.W.fnOf x qual (uj st) (yZ st) (xf st) .none kV doc pm an cdv ct) ⟨us,[]⟩=pure (ps.zip us)):Binds K fd ps []:=by
 obtain⟨oc,od,kV,doc,pm,an,cdv,ct,osl,rfl,lk,hcd⟩:=F.ex
 exact .all (h kV doc pm an cdv ct)
theorem xeo {x qual:Str}{st:Stmt}{f:Addr}{oc:Value}{od an:Option Addr}{osl:Array (Option Value)}{kV doc pm cdv ct:Value}(l:K.lookup f=some ⟨oc,od,.func (PySem.W.fnOf x qual (uj st) (yZ st) (xf st) .none kV doc pm an cdv ct),osl⟩)
  (c:PySem.W.codeIn K cdv qual=true) (k:PySem.W.keepIn K (.ref f)=true):Fun K x qual st f (PySem.W.fnOf x qual (uj st) (yZ st) (xf st) .none kV doc pm an cdv ct):=⟨⟨oc,od,kV,doc,pm,an,cdv,ct,osl,rfl,l,c⟩,k⟩
end
theorem xca (h:n≤1000):n<sizeLine:=xlA h (by decide)
section
variable {X:Cx}
theorem pv (i:Nat)(hN:X.N[i]? = some x:=by rfl)(hv:Vis X.env.scope x:=by first | exact Or.inl rfl | exact Or.inr (Or.inl rfl) | exact Or.inr (Or.inr rfl))(hd:(x == ("__debug__" : Str))=false:=by decide)
  (hcd:(x == ("__classdict__" : Str))=false:=by decide):PE X (.Name x pos) (sZ i):=xei hN hv hd hcd
end
theorem bV {A B:Prop}(h:B):if false=true then A else B:=by
 rw[if_neg xjJ]
 exact h
theorem lV {A B:Prop}(h:A):if true=true then A else B:=by
 rw[if_pos rfl]
 exact h
theorem xiS {c A B:Prop}[Decidable c](h1:c→A)(h2:¬c→B):if c then A else B:=by
 by_cases h:c
 ·rw[if_pos h]
  exact h1 h
 ·rw[if_neg h]
  exact h2 h
end L2
namespace L2
open PySem PySem.Spec PyProof.Rows
def gW (env:Env):List (Str×NameKind)→List (Str×Addr)→List (Str×Addr)
 | [],cs=>cs
 | (n,k)::r,cs=>if k == NameKind.free then(match env.cells.lookup n with | some a=>gW env r ((n,a)::cs) | none=>gW env r cs) else gW env r cs
theorem cH:∀(l:List (Str×NameKind)) (cs:List (Str×Addr)),(∀y∈l,y.2=NameKind.free→∃c,env.cells.lookup y.1=some c) →
  (forIn l cs (fun(x:Str×NameKind) (r:List (Str×Addr))=>(if (x.2 == NameKind.free)=true then(do let a ←cellOf env x.1;pure (ForInStep.yield ((x.1,a)::r))) else pure (ForInStep.yield r):Sem (ForInStep (List (Str×Addr))))))=pure (gW env l cs)
 | [],cs,_=>rfl
 | (n,k)::r,cs,h=>by
  rw[xky]
  have hr:∀y∈r,y.2=NameKind.free→∃c,env.cells.lookup y.1=some c:=fun y hy=>h y (xk6 _ hy)
  by_cases hk:k=NameKind.free
  ·subst hk
   obtain⟨c,hc⟩:=h (n,.free) xk7 rfl
   have hc':env.cells.lookup n=some c:=hc
   have e1:cellOf env n=pure c:=by unfold cellOf;rw[hc']
   have e2:gW env ((n,.free)::r) cs=gW env r ((n,c)::cs):=by
    show(if (NameKind.free == NameKind.free)=true then _ else _)=_
    rw[if_pos (show(NameKind.free == NameKind.free)=true from rfl),hc']
   rw[e2,if_pos (show((NameKind.free == NameKind.free)=true) from rfl),e1,pure_bind,pure_bind]
   exact cH r _ hr
  ·have hb:(k == NameKind.free)=false:=by simpa using hk
   have e2:gW env ((n,k)::r) cs=gW env r cs:=by
    show(if (k == NameKind.free)=true then _ else _)=_
    rw[hb];rfl
   rw[e2,if_neg (by rw[hb];exact xjJ),pure_bind]
   exact cH r _ hr
theorem rZ (h:∀y∈sc.names,y.2=NameKind.free→∃c,env.cells.lookup y.1=some c):closureFor sc env=pure (gW env sc.names []):=by
 have q:=cH (env:=env) sc.names [] h
 unfold closureFor
 show(do let r ←forIn sc.names [] (fun(x:Str×NameKind) (r:List (Str×Addr))=>_);pure r)=_
 rw[show(forIn sc.names ([]:List (Str×Addr)) (fun(x:Str×NameKind) (r:List (Str×Addr))=>match x with
   | (name,kind)=>if (kind == NameKind.free)=true then(do let a ←cellOf env name;pure (ForInStep.yield ((name,a)::r))) else pure (ForInStep.yield r)):Sem (List (Str×Addr)))=pure (gW env sc.names []) from q]
 rfl
theorem uZ:∀(l:List (Str×NameKind)) (cs:List (Str×Addr)),(gW env l cs).lookup x=some c→(∀c,cs.lookup x=some c→env.cells.lookup x=some c)→env.cells.lookup x=some c
 | [],cs,h,hc=>hc c h
 | (n,k)::r,cs,h,hc=>by
  unfold gW at h
  split at h
  ·split at h
   ·rename_i a ha
    refine uZ r _ h fun c' h'=>?_
    rw[xkU] at h'
    by_cases e:x == n
    ·rw[e] at h'
     have:x=n:=by simpa using e
     rw[this,ha];exact h'
    ·have e':(x == n)=false:=by simpa using e
     rw[e'] at h'
     exact hc c' h'
   ·exact uZ r _ h hc
  ·exact uZ r _ h hc
theorem jP (he:env.cells.lookup x=some c):∀(l:List (Str×NameKind)) (cs:List (Str×Addr)),cs.lookup x=some c→(gW env l cs).lookup x=some c
 | [],cs,h=>h
 | (n,k)::r,cs,h=>by
  unfold gW
  split
  ·split
   ·rename_i a ha
    refine jP he r _ ?_
    rw[xkU]
    by_cases e:x == n
    ·rw[e]
     have e':x=n:=by simpa using e
     rw[e',ha] at he
     exact he
    ·have e':(x == n)=false:=by simpa using e
     rw[e']
     exact h
   ·exact jP he r _ h
  ·exact jP he r _ h
theorem js (he:env.cells.lookup x=some c):∀(l:List (Str×NameKind)) (cs:List (Str×Addr)),(x,NameKind.free)∈l→(gW env l cs).lookup x=some c
 | (n,k)::r,cs,h=>by
  rcases xk5.mp h with e | e
  ·have e1:n=x:=xlN (·.1) e.symm
   have e2:k=.free:=xlN (·.2) e.symm
   subst e1 e2
   unfold gW
   rw[if_pos (show(NameKind.free == NameKind.free)=true from rfl),he]
   exact jP he r _ (by rw[xkU];simp)
  ·unfold gW
   split
   ·split
    ·exact js he r _ e
    ·exact js he r _ e
   ·exact js he r _ e
def x9 (X:Cx)(sc:Scope)(N:List Str)(C:Addr)(s:Shared)(H:Hp)(ex:List Addr):Cx :=
 { X with N:=N,s₀:=s,H₀:=H,env:=compEnvC sc (gW X.env sc.names []) C X.env,outer:=X.stack,stack:=X.stack,ex:=ex,fn:=fun _=>false,pn:=[],xe:=fun _ _=>False }
def xaJ (XN:List Str)(xs sc:Scope)(N:List Str)(tau:List (Option Nat)):Bool :=
 decide (sc.kind=.function)&&sc.names.all (fun y=>decide (y.2≠.cell))&&sc.names.all (fun y=>decide (y.2≠.local) || decide (sc.names.lookup y.1=some .local))&&decide N.Nodup&&decide (tau.length=N.length) &&
 (tau.zip N).all (fun p=>match p.1 with | none=>true | some j=>decide (XN[j]? = some p.2)&&decide (sc.names.lookup p.2=some .free)) &&
 sc.names.all (fun y=>decide (y.2≠.free) || decide (xs.names.lookup y.1=some .cell) || decide (xs.names.lookup y.1=some .free))&&decide (xs.kind=.function)
structure uU (X:Cx)(sc:Scope)(N:List Str)(tau:List (Option Nat)):Prop where
 kind:sc.kind=.function
 nocell:∀y∈sc.names,y.2≠.cell
 loc:∀y∈sc.names,y.2=.local→sc.names.lookup y.1=some .local
 nd:N.Nodup
 len:tau.length=N.length
 out:∀(i j:Nat) (x:Str),tau[i]? = some (some j)→N[i]? = some x→X.N[j]? = some x∧sc.names.lookup x=some .free
 fr:∀y∈sc.names,y.2=.free→X.env.scope.names.lookup y.1=some .cell∨X.env.scope.names.lookup y.1=some .free
 okind:X.env.scope.kind=.function
theorem zip_get:∀ {l:List α} {k:List β} {i:Nat} {a:α} {b:β},l[i]? = some a→k[i]? = some b→(a,b)∈l.zip k
 | [],_,_,_,_,h,_=>by simp at h
 | _::_,[],_,_,_,_,h=>by simp at h
 | x::l,y::k,0,a,b,h1,h2=>by simp at h1 h2;subst h1;subst h2;simp
 | x::l,y::k,i+1,a,b,h1,h2=>by
  have:=zip_get (l:=l) (k:=k) (i:=i) (by simpa using h1) (by simpa using h2)
  rw[List.zip_cons_cons]
  exact xk6 _ this
theorem xT (h:xaJ XN xs sc N tau=true)(h1:X.N=XN)(h2:X.env.scope=xs):uU X sc N tau:=by
 subst h1 h2
 unfold xaJ at h
 simp only[xjH,xki,xlS,xjL] at h
 obtain⟨⟨⟨⟨⟨⟨⟨k,c⟩,l⟩,nd⟩,len⟩,out⟩,fr⟩,ok⟩:=h
 refine⟨k,c,fun y hy e=>(l y hy).resolve_left (fun z=>z e),nd,len,fun i j x e1 e2=>?_,fun y hy e=>?_,ok⟩
 ·have:=out _ (zip_get e1 e2)
  simpa using this
 ·rcases fr y hy with (z | z) | z
  ·exact absurd e z
  ·exact .inl z
  ·exact .inr z
def g_ (tau:List (Option Nat))(σ:St):St:=tau.map fun o=>match o with | some j=>(σ[j]?).getD none | none=>none
theorem qL {sc:Scope}{env:Env}:∀ {l:List (Str×NameKind)} {x:Str} {k:NameKind},
  (l.map fun(n,k)=>if (k == NameKind.free&&env.scope.kind == .function&&env.kindOf n == some .cell) then(n,NameKind.cell) else(n,k)).lookup x=some k→((∀y∈l,y.2≠NameKind.cell)→k≠.local→(x,NameKind.free)∈l∨l.lookup x=some k∧k≠.cell)
 | [],x,k,h=>by simp at h
 | (n,k')::r,x,k,h=>by
  intro nc nl
  have ih:=@qL sc env r x k
  have h:List.lookup x ((if (k' == NameKind.free&&env.scope.kind == .function&&env.kindOf n == some .cell)=true then(n,NameKind.cell) else(n,k'))::(r.map _))=some k:=h
  by_cases hx:x=n
  ·subst hx
   by_cases hc:(k' == NameKind.free&&env.scope.kind == .function&&env.kindOf x == some .cell)=true
   ·left
    have:k'=.free:=by
     simp only[xjH] at hc
     simpa using hc.1.1
    subst this
    exact xk7
   ·rw[if_neg hc,xkU] at h
    simp at h
    subst h
    right
    exact⟨by rw[xkU];simp,nc (x,k') xk7⟩
  ·have e:(x == n)=false:=by simpa using hx
   have h':List.lookup x (r.map fun(n,k)=>if (k == NameKind.free&&env.scope.kind == .function&&env.kindOf n == some .cell) then(n,NameKind.cell) else(n,k))=some k:=by
    split at h
    ·rw[xkU,e] at h;exact h
    ·rw[xkU,e] at h;exact h
   rcases ih h' (fun y hy=>nc y (xk6 _ hy)) nl with z | ⟨z,w⟩
   ·exact .inl (xk6 _ z)
   ·exact .inr ⟨by rw[xkU,e];exact z,w⟩
section
variable {X:Cx} {sc:Scope} {N:List Str} {tau:List (Option Nat)} {pins:List (Addr×Obj)} {σ:St} {H:Hp} {s:Shared}
theorem uU.cells (k:uU X sc N tau)(ok:X.Ok):∀y∈sc.names,y.2=NameKind.free→∃c,X.env.cells.lookup y.1=some c:=fun y hy e=>ok.has y.1 (k.fr y hy e)
theorem uU.vis (k:uU X sc N tau)(h:(relabel sc X.env).names.lookup x=some .cell∨(relabel sc X.env).names.lookup x=some .free):(x,NameKind.free)∈sc.names:=by
 rcases h with h | h
 ·rcases qL (sc:=sc) (env:=X.env) (l:=sc.names) h k.nocell (by decide) with z | ⟨_,z⟩
  ·exact z
  ·exact absurd rfl z
 ·rcases qL (sc:=sc) (env:=X.env) (l:=sc.names) h k.nocell (by decide) with z | ⟨z,_⟩
  ·exact z
  ·exact PySem.mem_of_lookup z
theorem cE (k:uU X sc N tau)(I:Inv X pins σ H s)(hf:∀b∈fp,cL X pins H b)(hob:∀b∈fp,∃o,s.heap.get? b=some o) :
  (x9 X sc N (s.heap.objs.size+1) s H fp).Ok where
 mod:=I.ok.mod
 kind:=k.kind
 glob:=I.ok.glob
 blt:=I.ok.blt
 above:=xlx _
 inj:=fun x y c h1 h2=>I.ok.inj x y c (uZ _ _ h1 fun _ z=>by simp at z) (uZ _ _ h2 fun _ z=>by simp at z)
 has:=fun x h=>by
  have m:=k.vis h
  obtain⟨c,e⟩:=k.cells I.ok _ m rfl
  exact⟨c,js e _ _ m⟩
 cab:=fun x c h=>by cases h
 hd:=I.ok.hd
 frames:=I.ok.frames
 stk:=.inl rfl
 exf:=fun b hb=>⟨fun z=>by
  obtain⟨o,e⟩:=hob b hb
  have l:=Heap.lt_size e
  have z':b=s.heap.objs.size+1:=z
  rw[z'] at l
  exact xlz _ (Nat.lt_of_succ_lt l),fun x c h=>(hf b hb).2.2.2.2.1 x c (uZ _ _ h fun _ z=>by simp at z)⟩
 bs:=I.bs
 bsz:=xly I.ok.bsz I.sz
 noex:=fun b o e hb=>by
  rcases(hf b hb).2.2.2.1 with z | z
  ·exact I.ok.noex b o e z
  ·exact absurd (xlB (Heap.lt_size (I.ok.bs b o e).1) z) (xlz _)
 exfs:=fun b hb z=>by
  rcases xk5.mp (I.stkSub b z) with e | e
  ·exact(hf b hb).2.1 e
  ·exact(hf b hb).2.2.1 e
 funs:=I.stack
 frf:=I.stkFree
theorem rG {i:Nat}{v:V}(h:(g_ tau σ)[i]? = some (some v)):∃j,tau[i]? = some (some j)∧σ[j]? = some (some v):=by
 unfold g_ at h
 rw[xkG] at h
 cases e:tau[i]? with
 | none=>rw[e] at h;cases h
 | some o =>
  rw[e] at h
  cases o with
  | none=>cases h
  | some j =>
   have h':(σ[j]?).getD none=some v:=by simpa using h
   refine⟨j,rfl,?_⟩
   cases q:σ[j]? with
   | none=>rw[q] at h';cases h'
   | some o'=>rw[q] at h';exact xlN some h'
theorem pU (k:uU X sc N tau)(I:Inv X pins σ H s){fp:List Addr}(hf:∀b∈fp,cL X pins H b)(hob:∀b∈fp,∃o,s.heap.get? b=some o){h1:Heap}{t':Nat}
  (kp:∀b o,s.heap.get? b=some o→h1.get? b=some o) (hn:h1.Ns (s.heap.objs.size+1) (fun _=>none)) (hD:h1.get? s.heap.objs.size=some { cls:=.type "list", data:=.seq #[] 0 }) :
  Inv (x9 X sc N (s.heap.objs.size+1) s H fp) [(s.heap.objs.size,{ cls:=.type "list", data:=.seq #[] 0 })] (g_ tau σ) H { s with heap:=h1,toks:=t' } where
 ok:=cE k I hf hob
 os:=rfl
 bare:=I.bare
 base:=Un.kept kp
 loc:=⟨_,hn,fun i x v e1 e2 e3=>by
  obtain⟨j,t1,t2⟩:=rG e2
  obtain⟨o1,o2⟩:=k.out i j x t1 e1
  have m:(x,NameKind.free)∈sc.names:=PySem.mem_of_lookup o2
  have hk:=k.fr _ m rfl
  obtain⟨mm,hn',hl⟩:=I.loc
  obtain⟨u,r,l⟩:=hl j x v o1 t2 (hk.elim (fun z=>.inr (.inl z)) fun z=>.inr (.inr z))
  refine⟨u,r,.inr ⟨?_,?_⟩⟩
  ·rcases e3 with z | z | z
   ·exfalso
    have:∀ {l:List (Str×NameKind)},l.lookup x=some .free→(l.map fun(n,k)=>if (k == NameKind.free&&X.env.scope.kind == .function&&X.env.kindOf n == some .cell) then(n,NameKind.cell) else(n,k)).lookup x≠some .local:=by
     intro l
     induction l with
     | nil=>intro h;simp at h
     | cons y r ih =>
      obtain⟨n,k'⟩:=y
      intro h q
      have q:List.lookup x ((if (k' == NameKind.free&&X.env.scope.kind == .function&&X.env.kindOf n == some .cell)=true then(n,NameKind.cell) else(n,k'))::(r.map _))=some .local:=q
      by_cases hx:x=n
      ·subst hx
       rw[xkU] at h
       simp at h
       subst h
       split at q
       ·rw[xkU] at q;simp at q
       ·rw[xkU] at q;simp at q
      ·have e:(x == n)=false:=by simpa using hx
       rw[xkU,e] at h
       refine ih h ?_
       split at q
       ·rw[xkU,e] at q;exact q
       ·rw[xkU,e] at q;exact q
    exact this o2 z
   ·exact .inl z
   ·exact .inr z
  ·rcases l with ⟨z,_⟩ | ⟨_,c,ec,hc⟩
   ·exfalso
    have z:X.env.scope.names.lookup x=some .local:=z
    rcases hk with q | q<;>rw[z] at q<;>cases q
   ·obtain⟨o,ho,hd⟩:=hc
    exact⟨c,js ec _ _ m,o,kp c o ho,hd⟩⟩
 cell:=fun x c h=>by
  obtain⟨v,o,ho,hd⟩:=I.cell x c (uZ _ _ h fun _ z=>by simp at z)
  exact⟨v,o,kp c o ho,hd⟩
 free:=I.hok.fresh (xlx _)
 freeC:=fun x c h=>I.freeC x c (uZ _ _ h fun _ z=>by simp at z)
 pin:=fun p hp=>by
  have e:p=(s.heap.objs.size,{ cls:=.type "list", data:=.seq #[] 0 }):=by simpa [x9] using hp
  subst e
  refine⟨hD,I.hok.fresh (xlw _),xlH (xlD _),fun z=>?_,fun v=>by simp⟩
  rcases xk5.mp (I.stkSub _ z) with e | e
  ·exact absurd (e▸I.lt) (xlz _)
  ·exact I.nofs (xlw _) e
 hok:=I.hok.kept kp
 len:=by
  show(g_ tau σ).length=N.length
  unfold g_
  rw[xkP]
  exact k.len
end
end L2
namespace L2
open PySem PySem.Spec PyProof.Rows
theorem gF (I:Nat→Shared→Prop)
  (turn:∀n s,I n s→wpAny (model prog w) A (pyNext it) (fun r s₁=>match r with
   | none=>R (.ok .next) s₁
   | some v=>wpAny (model prog w) A (letOwnedTupleGo target it v) (fun _ s₀=>wpAny (model prog w) A (assign target env v) (fun _ s₂ =>
     wpAny (model prog w) A (forIn ifs true fun c r=>if r=true then do let ok ←isTrue c env (eval c env);pure (ForInStep.yield ok) else pure (ForInStep.yield r)) (fun ok s₃ =>
      if ok=true then wpAny (model prog w) A (eval elt env) (fun x s₄ =>
       wpAny (model prog w) A (call (.builtin "list.append") [acc,x]) (fun _ s₅=>∃m,m<n∧I m s₅) (notedBy (model prog w) A env fun e s'=>R (.error e) s') s₄) (notedBy (model prog w) A env fun e s'=>R (.error e) s') s₃
      else ∃m,m<n∧I m s₃) (notedBy (model prog w) A env fun e s'=>R (.error e) s') s₂) (notedBy (model prog w) A env fun e s'=>R (.error e) s') s₀) (notedBy (model prog w) A env fun e s'=>R (.error e) s') s₁) (notedBy (model prog w) A env fun e s'=>R (.error e) s') s)
  (n:Nat) (h:I n s) :
  codeAny (model prog w) A (.compLoop (.ListComp elt [⟨target,iter,ifs,0⟩] scope pos) 0 it acc env) R s:=by
 refine codeAny_loop rfl I (fun n s hI=>?_) n h
 show wpAny _ A ((compTurn (.ListComp elt [⟨target,iter,ifs,0⟩] scope pos) 0 it acc env).onRaise (fun x=>do noteFrame x env;theTreesLotGoes x)) _ _ s
 refine wpAny_noted ?_
 rw[compTurn_list]
 refine wpAny_bind (wpAny_standAt (wpAny_bind (wpAny_mono (turn n s hI) (fun r s₁ h₁=>?_) fun _ _ h'=>h')))
 cases r with
 | none=>exact wpAny_pure h₁
 | some v =>
  refine wpAny_bind (wpAny_mono h₁ (fun _ s₀ h₀=>?_) fun _ _ h'=>h')
  refine wpAny_bind (wpAny_mono h₀ (fun _ s₂ h₂=>wpAny_bind (wpAny_mono h₂ (fun ok s₃ h₃=>?_) fun _ _ h'=>h')) fun _ _ h'=>h')
  cases ok with
  | false=>exact wpAny_pure ⟨rfl,h₃⟩
  | true =>
   exact wpAny_bind (wpAny_bind (wpAny_mono h₃ (fun x s₄ h₄=>wpAny_bind (wpAny_mono h₄ (fun _ s₅ h₅=>wpAny_pure (wpAny_pure ⟨rfl,h₅⟩)) fun _ _ h'=>h')) fun _ _ h'=>h'))
def PIf (Y:Cx)(ifs:List Expr)(t:TT):Prop :=
 ∀(pins:List (Addr×Obj)) (s:Shared) (σ:St) (H:Hp) (Q:Bool→Hp→Prop),Inv Y pins σ H s→t σ H Q →
  wpAny (model Y.prog Y.w) Y.A (forIn ifs true fun c r=>if r=true then do let ok ←isTrue c Y.env (eval c Y.env);pure (ForInStep.yield ok) else pure (ForInStep.yield r)) (TP Y pins σ Q) Y.xe s
def xap:TT:=fun _ H Q=>Q true H
theorem yM:PIf Y [] xap:=fun pins s σ H Q I h=>wpAny_tests_nil ⟨H,I,h⟩
theorem qG (h:PT Y c t):PIf Y [c] t:=fun pins s σ H Q I q=>wpAny_tests_one (@h pins s σ H Q I q)
def Agree (tau:List (Option Nat))(σ σ2:St):Prop:=∀i j:Nat,tau[i]? = some (some j)→σ2[i]? = σ[i]?
def GA (tau:List (Option Nat))(g:TG):Prop:=∀x σ H Q,g x σ H Q→g x σ H (fun σ2 H2=>Q σ2 H2∧Agree tau σ σ2)
def GAs (tau:List (Option Nat))(t:TGs):Prop:=∀xs σ H Q,t xs σ H Q→t xs σ H (fun σ2 H2=>Q σ2 H2∧Agree tau σ σ2)
theorem yB (h:tau[i]? = some none):GA tau (gN i):=fun x σ H Q q=>⟨q,fun k j e=>by
 rw[xkH]
 rintro rfl
 rw[h] at e;cases e⟩
theorem j5:GAs tau xhP:=fun xs σ H Q q=>⟨q.1,q.2,fun _ _ _=>rfl⟩
theorem vJ {K:PySem.W.Frag}{n:Nat}{t:TGs}{tau:List (Option Nat)}(h:GAs tau t):GA tau (xhz K n t):=fun x σ H Q q=>by
 obtain⟨a,xs,e,sq,l,r⟩:=q
 exact⟨a,xs,e,sq,l,h _ _ _ _ r⟩
theorem zd (h:tau[i]? = some none)(hu:GAs tau u):GAs tau (xeO (gN i) u):=fun xs σ H Q q=>by
 obtain⟨v,r,e,q⟩:=q
 refine⟨v,r,e,?_⟩
 have q':u r (σ.set i (some v)) H Q:=q
 show u r (σ.set i (some v)) H _
 have:=hu _ _ _ _ q'
 have e2:(fun σ2 H2=>Q σ2 H2∧Agree tau (σ.set i (some v)) σ2)=(fun σ2 H2=>Q σ2 H2∧Agree tau σ σ2):=by
  funext σ2 H2
  have:Agree tau (σ.set i (some v)) σ2↔Agree tau σ σ2:=by
   have key:∀(k j:Nat),tau[k]? = some (some j)→(σ.set i (some v))[k]? = σ[k]?:=fun k j e=>by
    rw[xkH]
    rintro rfl
    rw[h] at e;cases e
   constructor
   ·intro z k j e;rw[z k j e,key k j e]
   ·intro z k j e;rw[z k j e,key k j e]
  exact propext (and_congr_right fun _=>this)
 rw[←e2]
 exact this
def oY (wi:TI)(tau:List (Option Nat))(g:TG)(tc:TT)(te:TE):TE:=fun σ H Q=>wi σ H fun J H1 =>
 ∃W:Nat→Nat→List V→Hp→Prop,(∃m,W 0 m [] H1)∧∀i m ys H,W i m ys H →
  (J.stop i H∧∀p,H p=none→Q (.ref p) (upd H p (.lst ys))) ∨
  (J.go i H∧ys.length<sizeLine∧∀x H',J.yld i H x H'→g x (g_ tau σ) H' fun σ2 H2=>tc σ2 H2 fun b H3=>if b=true then te σ2 H3 fun y H4=>∃m',m' < m∧W (i+1) m' (ys++[y]) H4 else ∃m',m' < m∧W (i+1) m' ys H3)
section
variable {X:Cx} {sc:Scope} {N:List Str} {tau:List (Option Nat)} {pins:List (Addr×Obj)} {σ:St} {H:Hp} {s:Shared}
theorem fe (k:uU X sc N tau)(I:Inv X pins σ H s)(hf:∀b∈fp,cL X pins H b)
  (J:Inv (x9 X sc N (s.heap.objs.size+1) s H fp) [(s.heap.objs.size,{ cls:=.type "list", data:=.seq its.toArray n })] σ' H' s') (rv:zf ys its) (hz:ys.length≤sizeLine) :
  Inv X pins σ (upd H' s.heap.objs.size (.lst ys)) s'∧H' s.heap.objs.size=none∧(upd H' s.heap.objs.size (.lst ys)) (s.heap.objs.size+1)=none:=by
 obtain⟨pD,nD,_,_,_⟩:=J.pin (s.heap.objs.size,{ cls:=.type "list", data:=.seq its.toArray n }) (by simp[x9])
 have nC:H' (s.heap.objs.size+1)=none:=J.free
 have B:Un (frs X.stack) fp H H' s.heap s'.heap:=J.base
 have ltD:∀b o,s.heap.get? b=some o→b≠s.heap.objs.size:=fun b o e=>xlH (Heap.lt_size e)
 refine⟨I.call' (ch:=fp) J.os ⟨B.keep,B.slot,fun b o e n hx=>?_,B.there,fun b xs e=>?_,fun b o u e=>?_,fun b ps e=>?_⟩ (fun b u e=>?_) J.bare (fun b hb=>?_),nD,?_⟩
 ·rw[xW (ltD b o e)];exact B.free b o e n hx
 ·have q:=B.tups b xs e
  rw[xW (xF q nD)];exact q
 ·have q:=B.frzs b o u e
  rw[xW (xF q nD)];exact q
 ·obtain⟨more,q⟩:=B.tbls b ps e
  exact⟨more,by rw[xW (xF q nD)];exact q⟩
 ·by_cases hb:b=s.heap.objs.size
  ·subst hb
   rw[xZ] at e
   cases e
   exact⟨hz,its,n,rv,pD⟩
  ·rw[xW hb] at e
   exact(J.hok b u e).stay (fun c v _ q=>q) (fun c q=>by rw[xW (xF q nD)];exact q) (fun c xs q=>by rw[xW (xF q nD)];exact q) fun c o u q=>by rw[xW (xF q nD)];exact q
 ·obtain⟨_,f1,_,f3,f4,f5⟩:=hf b hb
  exact⟨f3,f1,f4,f5⟩
 ·rw[xW (xlG (xlD _))];exact nC
theorem jI (I0:Inv X pins σ H s)(I:Inv X pins σ' H' s')(hC:H' (s.heap.objs.size+1)=none)(hs:Heap.SameBut (s.heap.objs.size+1) s'.heap h') :
  Inv X pins σ' H' { s' with heap:=h' }:=by
 have lt:∀b o,s.heap.get? b=some o→b≠s.heap.objs.size+1:=fun b o e=>xlH (xlC (Heap.lt_size e))
 refine I.turned (t':=s'.toks) (it:=s.heap.objs.size+1) (fun b o hb e=>(hs.2 b hb).trans e) hC ?_ (.inr (xly I0.sz (xlx _))) (fun x c e=>?_) (fun p hp=>?_)
 ·exact xlG (xlC I0.lt)
 ·obtain⟨v,o,ho,_⟩:=I0.cell x c e
  exact lt c o ho
 ·exact lt _ _ (I0.pin p hp).1
theorem sE (k:uU X sc N tau)(hc:X.calm=true)(I:Inv X pins σ H s)
  (T:Turn X.prog X.w X.K tg J fp it tn) (st0:tn 0 s.heap) (hf:∀b∈fp,cL X pins H b) (hga:GA tau g)
  (hg:∀C s H ex,PG (x9 X sc N C s H ex) tg g) (ht:∀C s H ex,PIf (x9 X sc N C s H ex) ifs tc) (he:∀C s H ex,PE (x9 X sc N C s H ex) elt te)
  {W:Nat→Nat→List V→Hp→Prop} {Z:List V→Hp→Prop} (w0:∃m,W 0 m [] H) (turn:∀i m ys H,W i m ys H →
   (J.stop i H∧Z ys H) ∨
   (J.go i H∧ys.length<sizeLine∧∀x H',J.yld i H x H'→g x (g_ tau σ) H' fun σ2 H2=>tc σ2 H2 fun b H3=>if b=true then te σ2 H3 fun y H4=>∃m',m' < m∧W (i+1) m' (ys++[y]) H4 else ∃m',m' < m∧W (i+1) m' ys H3))
  {E:Value→Shared→Prop} {RR:Value→Addr→Result→Shared→Prop}
  (fin:∀ σ' H' s' ys its n,Inv (x9 X sc N (s.heap.objs.size+1) s H fp) [(s.heap.objs.size,{ cls:=.type "list", data:=.seq its.toArray n })] σ' H' s'→zf ys its→ys.length≤sizeLine→Z ys H'→RR (.ref s.heap.objs.size) (s.heap.objs.size+1) (.ok .next) s') :
  wpAny (model X.prog X.w) X.A (newList []) (fun acc s₃=>wpAny (model X.prog X.w) X.A (newFunctionEnv sc X.env.globals (gW X.env sc.names []) [] X.env.qual none .none (some X.env)) (fun cenv s₄ =>
   codeAny (model X.prog X.w) X.A (.compStart (.ListComp elt [⟨tg,iter,ifs,0⟩] sc pos) 0 (.ref it) acc { cenv with scope:=relabel sc X.env }) (RR acc cenv.locals) s₄) E s₃) E s:=by
 have hob:∀b∈fp,∃o,s.heap.get? b=some o:=fun b hb=>let ⟨o,e,_⟩:=T.obj _ _ st0 b hb;⟨o,e⟩
 refine wpAny_newObj_type (wpAny_newFunctionEnv k.nocell (by intro y hy;simp at hy) (fun h₁ hns₁ hsb₁=>?_) k.kind)
 dsimp only at hns₁ hsb₁ ⊢
 generalize hH2:s.heap.push { cls:=.type "list", dict:=none,data:=.seq ([]:List Value).toArray }=H2 at hns₁ hsb₁ ⊢
 have hC:H2.objs.size=s.heap.objs.size+1:=by rw[←hH2,Heap.size_push]
 have old:∀b o,s.heap.get? b=some o→h₁.get? b=some o:=fun b o e=>hsb₁.extBut b o (by rw[hC];exact xlH (xlC (Heap.lt_size e))) (Heap.get?_push_of_some _ (hH2▸Heap.get?_push_of_some _ e))
 have hacc:h₁.get? s.heap.objs.size=some { cls:=.type "list", data:=.seq #[] 0 }:=hsb₁.extBut _ _ (by rw[hC];exact xlH (xlD _)) (Heap.get?_push_of_some _ (hH2▸Heap.get?_push_size _ rfl))
 rw[hC] at hns₁ ⊢
 have I1:Inv (x9 X sc N (s.heap.objs.size+1) s H fp) [(s.heap.objs.size,{ cls:=.type "list", data:=.seq #[] 0 })] (g_ tau σ) H { s with heap:=h₁,toks:=s.toks+([]:List (Str×Value)).length } :=
  pU k I hf hob old hns₁ hacc
 have st1:tn 0 h₁:=T.keep _ _ _ st0 fun b _ o e=>old b o e
 have ltD:∀b∈fp,b≠s.heap.objs.size:=fun b hb=>by
  obtain⟨o,e⟩:=hob b hb
  exact xlH (Heap.lt_size e)
 have ltC:∀b∈fp,b≠s.heap.objs.size+1:=fun b hb=>by
  obtain⟨o,e⟩:=hob b hb
  exact xlH (xlC (Heap.lt_size e))
 have stat:∀ {H':Hp} {its:List Value} {n:Nat},(∀b∈fp,H' b=none)→∀b∈fp,cL (x9 X sc N (s.heap.objs.size+1) s H fp) [(s.heap.objs.size,{ cls:=.type "list", data:=.seq its.toArray n })] H' b:=fun {H' its n} hn b hb=>by
  have cx:=cE (N:=N) k I hf hob
  refine⟨hn b hb,ltC b hb,cx.exfs b hb,.inl hb,(cx.exf b hb).2,fun p hp=>?_⟩
  have e:p=(s.heap.objs.size,{ cls:=.type "list", data:=.seq its.toArray n }):=by simpa [x9] using hp
  subst e
  exact Ne.symm (ltD b hb)
 obtain⟨m0,w0⟩:=w0
 have loop:codeAny (model X.prog X.w) X.A (.compLoop (.ListComp elt [⟨tg,iter,ifs,0⟩] sc pos) 0 (.ref it) (.ref s.heap.objs.size) (compEnvC sc (gW X.env sc.names []) (s.heap.objs.size+1) X.env)) (RR (.ref s.heap.objs.size) (s.heap.objs.size+1)) { s with heap:=h₁,toks:=s.toks+([]:List (Str×Value)).length }:=by
  refine gF (fun m s'=>∃i ys H' its n,Inv (x9 X sc N (s.heap.objs.size+1) s H fp) [(s.heap.objs.size,{ cls:=.type "list", data:=.seq its.toArray n })] (g_ tau σ) H' s'∧zf ys its∧ys.length≤sizeLine∧tn i s'.heap∧(∀b∈fp,H' b=none)∧W i m ys H') ?_ m0
   ⟨0,[],H,[],0,I1,.nil,xlJ _,st1,fun b hb=>(hf b hb).1,w0⟩
  rintro m s3 ⟨i,ys,H3,its,n,I3,rv,hz,st3,fr3,w3⟩
  rcases turn i m ys H3 w3 with ⟨stop,z⟩ | ⟨go,hlt,step⟩
  ·refine wpAny_mono (T.done (x9 X sc N (s.heap.objs.size+1) s H fp) rfl rfl rfl hc i _ s3 _ H3 (fun _ _=>False) I3 (stat fr3) st3 stop) (fun r s4 ⟨hr,I4⟩=>?_) fun _ _ f=>f.elim
   subst hr
   exact fin _ _ _ _ _ _ I4 rv hz z
  ·refine wpAny_mono (T.item (x9 X sc N (s.heap.objs.size+1) s H fp) rfl rfl rfl hc i _ s3 _ H3 (fun _ _=>False) I3 (stat fr3) st3 go) (fun r s4 ⟨u,hr,h4⟩=>?_) fun _ _ f=>f.elim
   subst hr
   refine wpAny_mono h4 (fun _ s5 ⟨x,H5,I5,r5,y5,st5,fr5⟩=>?_) fun _ _ f=>f.elim
   have I5':=I5.pinned (stat fr5) (T.obj _ _ st5)
   refine wpAny_mono (hg _ _ _ _ _ s5 _ H5 x u _ I5' r5 (hga _ _ _ _ (step x H5 y5))) (fun _ s6 ⟨σ6,H6,I6,q6,ag⟩=>?_) fun _ _ f=>f.elim
   refine wpAny_mono (ht _ _ _ _ _ s6 σ6 H6 _ I6 q6) (fun b s7 ⟨H7,I7,q7⟩=>?_) fun _ _ f=>f.elim
   have back:∀ {H8:Hp} {s8:Shared},Inv (x9 X sc N (s.heap.objs.size+1) s H fp) ([(s.heap.objs.size,{ cls:=.type "list", data:=.seq its.toArray n })]++sN fp s5.heap) σ6 H8 s8 →
     Inv (x9 X sc N (s.heap.objs.size+1) s H fp) [(s.heap.objs.size,{ cls:=.type "list", data:=.seq its.toArray n })] (g_ tau σ) H8 s8∧tn (i+1) s8.heap∧∀b∈fp,H8 b=none:=fun {H8 s8} I8=>by
    refine⟨I8.unpinned.weak (I1.len.trans I8.len.symm) fun j v e=>?_,T.keep _ _ _ st5 fun b hb o e=>(I8.pin (b,o) (xk4 _ (xk4 _ (ux hb e)))).1,fun b hb=>?_⟩
    ·obtain⟨j',t1,_⟩:=rG e
     rw[ag j j' t1];exact e
    ·obtain⟨o,e,d⟩:=T.obj _ _ st5 b hb
     exact(I8.pin (b,o) (xk4 _ (xk4 _ (ux hb e)))).2.1
   cases b with
   | false =>
    obtain⟨m',hm,w7⟩:=q7
    obtain⟨I8,st8,fr8⟩:=back I7
    rw[if_neg xjJ]
    exact⟨m',hm,i+1,ys,H7,its,n,I8,rv,hz,st8,fr8,w7⟩
   | true =>
    rw[if_pos rfl]
    refine wpAny_mono (he _ _ _ _ s7 σ6 H7 _ I7 q7) (fun y s8 ⟨yv,H8,I8,r8,m',hm,w8⟩=>?_) fun _ _ f=>f.elim
    obtain⟨I9,st9,fr9⟩:=back I8
    obtain⟨pD,nD,dL,dF,dC⟩:=I9.pin (s.heap.objs.size,{ cls:=.type "list", data:=.seq its.toArray n }) (by simp[x9])
    refine call_meets F.slot_list_append ⟨_,pD,rfl⟩ F.entry_list_append (F.args_list_append_2 _ _) (PySem.list_append s.heap.objs.size its.toArray n y (by rw[xln,←rv.length];exact hz)) ⟨pD,?_⟩
    have q:=PySem.IsL.update pD (fun x=>x.push y)
    obtain⟨n',q'⟩:∃n',(s8.heap.update s.heap.objs.size (Obj.mapSeq fun x=>x.push y)).get? s.heap.objs.size=some { cls:=.type "list", data:=.seq (its++[y]).toArray n' }:=⟨_,by
     rw[show(its++[y]).toArray=its.toArray.push y by simp];exact q⟩
    have kp:∀b o,b≠s.heap.objs.size→s8.heap.get? b=some o→(s8.heap.update s.heap.objs.size (Obj.mapSeq fun x=>x.push y)).get? b=some o:=fun b o hb e=>(Heap.get?_update_other s8.heap _ (Ne.symm hb)).trans e
    have I10:Inv (x9 X sc N (s.heap.objs.size+1) s H fp) [] (g_ tau σ) H8 s8:=I9.pins_of fun p hp=>absurd hp (by simp)
    have I11:Inv (x9 X sc N (s.heap.objs.size+1) s H fp) [] (g_ tau σ) H8 { s8 with heap:=s8.heap.update s.heap.objs.size (Obj.mapSeq fun x=>x.push y),toks:=s8.toks } :=
     I10.turned (it:=s.heap.objs.size) (t':=s8.toks) kp nD dL (.inr (xlw _)) (fun x c e z=>by
      obtain⟨v,o,ho,hd⟩:=I10.cell x c e
      rw[z,pD] at ho
      cases ho
      cases hd) (fun p hp=>absurd hp (by simp[x9]))
    refine⟨m',hm,i+1,ys++[yv],H8,its++[y],n',I11.pins_of fun p hp=>?_,rv.append (.cons r8 .nil),?_,T.keep _ _ _ st9 fun b hb o e=>kp b o (ltD b hb) e,fr9,w8⟩
    ·have e:p=(s.heap.objs.size,{ cls:=.type "list", data:=.seq (its++[y]).toArray n' }):=by simpa using hp
     subst e
     exact⟨q',nD,dL,dF,fun v=>by simp⟩
    ·rw[xkL,xkS];exact hlt
 exact codeAny_compStart_list loop (T.self _ 0 _ _ _ st1 loop)
theorem yF (k:uU X sc N tau)(hc:X.calm=true)(hga:GA tau g)(hi:PI X tg iter wi)
  (hg:∀C s H ex,PG (x9 X sc N C s H ex) tg g) (ht:∀C s H ex,PIf (x9 X sc N C s H ex) ifs tc) (he:∀C s H ex,PE (x9 X sc N C s H ex) elt te)
  (hs:∀x,foldedSetIterable iter X.env x=pure x:=by intro _;rfl):PE X (.ListComp elt [⟨tg,iter,ifs,0⟩] sc pos) (oY wi tau g tc te):=by
 intro pins s σ H Q I h
 rw[eval_ListComp]
 refine wpAny_comprehension_free (use:=none) rfl hs (rZ (k.cells I.ok)) k.kind k.loc ?_
 refine thn (@hi pins s σ H _ I h) fun v s1 h1=>thn h1 fun itv s2 h2=>?_
 obtain⟨it,fp,tn,J,H2,e,I2,T,st2,f2,W,w0,turn⟩:=h2
 subst e
 refine sE (RR:=fun acc C=>compPost (model X.prog X.w) X.A X.xe none (EP X pins σ Q) acc C) (W:=W) (Z:=fun ys H'=>∀p,H' p=none→Q (.ref p) (upd H' p (.lst ys))) k hc I2 T st2 f2 hga hg ht he w0 turn ?_
 intro σ' H' s' ys its n J' rv hz z
 obtain⟨I',hD,hC⟩:=fe k I2 f2 J' rv hz
 obtain⟨m,hn,_⟩:=J'.loc
 exact⟨m,hn,fun h' hs'=>⟨.ref _,_,jI I2 I' hC hs',rfl,z _ hD⟩⟩
theorem vE (hN:X.N.Nodup)(hi':X.N[i]? = some x)(hx:Loc X.env.scope x)(k:uU X sc N tau)(hc:X.calm=true)(hga:GA tau g)(hi:PI X tg iter wi)
  (hg:∀C s H ex,PG (x9 X sc N C s H ex) tg g) (ht:∀C s H ex,PIf (x9 X sc N C s H ex) ifs tc) (he:∀C s H ex,PE (x9 X sc N C s H ex) elt te)
  (hsw:swapsWith (.ListComp elt [⟨tg,iter,ifs,0⟩] sc pos) (some (.Name x py)) spos.line X.env=pure true:=by rfl)
  (hs:∀x,foldedSetIterable iter X.env x=pure x:=by intro _;rfl) (hf:X.fn x=true∨X.env.scope.names.lookup x=some .local:=by first | exact .inl rfl | exact .inr rfl | assumption) :
  PS X (.Assign [.Name x py] (.ListComp elt [⟨tg,iter,ifs,0⟩] sc pos) spos) (xcj (oY wi tau g tc te) (gN i)):=by
 intro pins s σ H D I h
 rw[exec_Assign_Name_used _ _ _ _ hsw]
 refine wpAny_bind (wpAny_standAt (wpAny_bind ?_))
 show wpAny _ X.A (do let _ ←comprehension (.ListComp elt [⟨tg,iter,ifs,0⟩] sc pos) sc X.env _ (newList []) false (eval iter X.env) (some (assign (.Name x py) X.env))) _ _ s
 refine wpAny_bind (wpAny_mono (wpAny_comprehension_free (use:=some (assign (.Name x py) X.env)) (Q:=fun _ s'=>SP X pins D .next s') rfl hs (rZ (k.cells I.ok)) k.kind k.loc ?_) (fun _ s' q=>wpAny_pure (wpAny_pure q)) fun _ _ e=>e)
 refine thn (@hi pins s σ H _ I h) fun v s1 h1=>thn h1 fun itv s2 h2=>?_
 obtain⟨it,fp,tn,J,H2,e,I2,T,st2,f2,W,w0,turn⟩:=h2
 subst e
 refine sE (RR:=fun acc C=>compPost (model X.prog X.w) X.A X.xe (some (assign (.Name x py) X.env)) (fun _ s'=>SP X pins D .next s') acc C) (W:=W) (Z:=fun ys H'=>∀p,H' p=none→D.nx (σ.set i (some (.ref p))) (upd H' p (.lst ys))) k hc I2 T st2 f2 hga hg ht he w0 turn ?_
 intro σ' H' s' ys its n J' rv hz z
 obtain⟨I',hD,hC⟩:=fe k I2 f2 J' rv hz
 obtain⟨m,hn,_⟩:=J'.loc
 have hn:s'.heap.Ns (s2.heap.objs.size+1) m:=hn
 refine wpAny_assign_Name (fP (v:=.ref s2.heap.objs.size) I' hN hi' hx rfl (fun s'' I'' ⟨a,sb,ha⟩=>?_) hf)
 refine⟨m,hn.sameBut sb ?_,fun h' hs'=>⟨_,_,jI I2 I'' hC hs',z _ hD⟩⟩
 rcases ha with ha | ha
 ·rw[ha];exact xlG (xlC I2.lt)
 ·obtain⟨v,o,ho,_⟩:=I2.cell x a ha
  exact xlG (xlC (Heap.lt_size ho))
end
end L2
namespace L2
open PySem PySem.Spec PyProof.Rows
structure Own (P:Program)(w:World)(K:PySem.W.Frag)(mg:Str→Option Value)(base:Heap)(k:Nat)(x:Str)(ps:List Str)(sp:Sp):Prop where
 ex:∃(f:Addr) (fd:FuncData),sY P w K mg base CX0 k f fd ps sp∧Binds K fd ps []∧PySem.W.keepIn K (.ref f)=true∧mg x=some (.ref f)
theorem Own.mono {P:Program}{w:World}{K:PySem.W.Frag}{mg:Str→Option Value}{base:Heap}{j k:Nat}{x:Str}{ps:List Str}{sp:Sp}(h:Own P w K mg base j x ps sp)(hjk:j≤k):Own P w K mg base k x ps sp:=by
 obtain⟨f,fd,F,b,kp,m⟩:=h.ex
 exact⟨f,fd,F.mono hjk,b,kp,m⟩
theorem Own.imp {P:Program}{w:World}{K:PySem.W.Frag}{mg:Str→Option Value}{base:Heap}{k:Nat}{x:Str}{ps:List Str}{sp sp':Sp}(h:Own P w K mg base k x ps sp)(q:∀vs H Q E,sp' vs H Q E→sp vs H Q E):Own P w K mg base k x ps sp':=by
 obtain⟨f,fd,F,b,kp,m⟩:=h.ex
 exact⟨f,fd,F.imp q,b,kp,m⟩
def xgd (sp:Sp)(t:TA):TE:=fun σ H Q=>t σ H fun vs H1=>sp vs H1 Q E0
theorem xq (h:Own X.prog X.w X.K X.mg X.base j x ps sp)(hr:kL k X.A)(ha:PA X (e::es) t)(hjk:j≤k:=by decide)(hg:Gl X x:=by rfl)
  (hdb:(x == ("__debug__" : Str))=false:=by decide) (he:starEach (e::es) X.env=(false,eval e X.env)::starEach es X.env:=by rfl) (hpl:(backTo pos (starEach es X.env)).any (·.1)=false:=by rfl) :
  PE X (.Call (.Name x p) (e::es) [] pos) (xgd sp t):=by
 obtain⟨f,fd,F,b,kp,m⟩:=(h.mono hjk).ex
 intro pins s σ H Q I q
 refine xaS (E:=E0) F hr hg m kp b .nil xgt ha hdb he hpl s σ H Q I ?_
 have e:(fun(vs:List V) (H1:Hp)=>sp (vs++[]) H1 Q E0)=fun vs H1=>sp vs H1 Q E0:=by
  funext vs H1;rw[xkn]
 show t σ H fun vs H1=>sp (vs++[]) H1 Q E0
 rw[e];exact q
theorem dY {P:Program}{w:World}{K:PySem.W.Frag}{mg:Str→Option Value}{base:Heap}{k:Nat}{x qual:Str}{st:Stmt}{f:Addr}{fd:FuncData}{N ps:List Str}{sp:Sp}(F:Fun K x qual st f fd)(S:xC N ps (xf st))(mgx:mg x=some (.ref f))(b:Binds K fd ps [])
  (len:∀vs H Q E,sp vs H Q E→vs.length=ps.length)
  (body:∀(cdv:Value) (A:Around) (outer:List Env) (s:Shared) (H:Hp) (vs:List V) (Q:VK) (E:XK),kL k (A.deeper (envOfC qual (xf st) s.heap.objs.size f cdv))→sp vs H Q E →
   ∃t,PSs (gU CX0 P w K mg base N qual (xf st) f cdv A outer s H E).nox (yZ st) t∧t { nx:=fun _ H'=>Q .non H',rt:=Q } (start N vs) H):Own P w K mg base (k+1) x ps sp :=
 ⟨f,fd,F.ok S len body,b,F.kp,mgx⟩
section
variable {X:Cx}
def xhe (i j:Int):Prop:=0<j∧j.natAbs.log2<9000
theorem pC:OpR X (binaryOp .FloorDiv) (rI xhe fun i j=>.int (i / j)):=opI fun i j _ _ _ _ _ hc q=>by
 refine floordiv_int (by have:=hc.1;omega) ?_ (.inl (PyProof.noPylong_of_log2 hc.2))
 rw[Int.fdiv_eq_ediv_of_nonneg i (by have:=hc.1;omega)]
 exact q
theorem dq (h0:0<j)(h:j<2 ^ 128):xhe i j:=by
 refine⟨h0,?_⟩
 have:j.natAbs<2 ^ 128:=by omega
 have:=Nat.log2_lt (n:=j.natAbs) (k:=128) (by omega)
 have h':j.natAbs.log2<128:=this.mpr (by omega)
 omega
def mJ (n c:String):Bool:=n == c || (n == "bool" && c == "int")
def rm:List String:=["NoneType", "bool", "int", "str", "list", "tuple", "dict"]
def vj:List String:=["bool", "int", "str", "list", "tuple", "dict"]
theorem tR {K:PySem.W.Frag}{n c:String}(hn:n∈rm)(hc:c∈vj):PySem.W.kitOne K (.type n) (.type c)=some (mJ n c):=by
 simp only[rm,vj,xk5,xlk,xlW] at hn hc
 rcases hn with rfl | rfl | rfl | rfl | rfl | rfl | rfl<;>rcases hc with rfl | rfl | rfl | rfl | rfl | rfl<;>kernel_rfl
def tyN (H:Hp):V→Option String
 | .non=>some "NoneType"
 | .bl _=>some "bool"
 | .int _=>some "int"
 | .str _=>some "str"
 | .ref a=>match H a with
  | some (.lst _)=>some "list"
  | some (.frz _ (.lst _))=>some "list"
  | some (.tup _)=>some "tuple"
  | some (.dK _)=>some "dict"
  | _=>none
 | _=>none
theorem xes {K:PySem.W.Frag}{H:Hp}{x:V}{n:String}(h:tyN H x=some n):lF K H x (.type n)∧n∈rm:=by
 cases x with
 | non=>cases h;exact⟨.non,by decide⟩
 | bl b=>cases h;exact⟨.bl b,by decide⟩
 | int i=>cases h;exact⟨.int i,by decide⟩
 | str y=>cases h;exact⟨.str y,by decide⟩
 | ref a =>
  have h:(match H a with
   | some (.lst _)=>some "list"
   | some (.frz _ (.lst _))=>some "list"
   | some (.tup _)=>some "tuple"
   | some (.dK _)=>some "dict"
   | _=>none)=some n:=h
  split at h
  ·rename_i xs e;cases h;exact⟨.lst e,by decide⟩
  ·rename_i o xs e;cases h;exact⟨.frz e,by decide⟩
  ·rename_i xs e;cases h;exact⟨.tup e,by decide⟩
  ·rename_i xs e;cases h;exact⟨.dK e,by decide⟩
  ·cases h
 | _=>cases h
def xiK (xs:List V)(H:Hp)(Q:VK):Prop:=∃x c n,xs=[x,.ty c]∧tyN H x=some n∧c∈vj∧Q (.bl (mJ n c)) H
theorem ze:uk X (.builtin "isinstance") xiK:=by
 intro pins s σ H xs us Q I r h
 obtain⟨x,c,n,rfl,ty,hc,q⟩:=h
 obtain⟨u,w',rfl,rx,ry⟩:=vals2 r
 cases ry
 obtain⟨t1,t2⟩:=xes (K:=X.K) ty
 exact xcb I rx t1 (tR t2 hc) fun tk=>⟨.bl _,H,I.tok tk,rfl,q⟩
def xhi (xs:List V)(H:Hp)(Q:VK):Prop:=∃(x:V) (p:Addr) (cs:List String) (n:String),xs=[x,.ref p]∧H p=some (.tup (cs.map V.ty))∧tyN H x=some n∧(∀c∈cs,c∈vj)∧Q (.bl (cs.any (mJ n))) H
theorem xbE:∀ {cs:List String} {us:List Value},zf (cs.map V.ty) us→us=cs.map Value.type
 | [],_,.nil=>rfl
 | c::cs,_,.cons r t=>by
  cases r
  rw[xbE t];rfl
theorem ph {K:PySem.W.Frag}(hn:n∈rm):∀ {cs:List String},(∀c∈cs,c∈vj)→PySem.W.kitAny K (.type n) (cs.map Value.type)=some (cs.any (mJ n))
 | [],_=>rfl
 | c::cs,h=>by
  have e:=tR (K:=K) hn (h c xk7)
  show(match PySem.W.kitOne K (.type n) (.type c) with | some true=>some true | some false=>PySem.W.kitAny K (.type n) (cs.map Value.type) | none=>none)=_
  rw[e,List.any_cons]
  cases mJ n c with
  | true=>rfl
  | false=>exact(ph hn fun d hd=>h d (xk6 _ hd)).trans (by simp)
theorem xaU:uk X (.builtin "isinstance") xhi:=by
 intro pins s σ H xs us Q I r h
 obtain⟨x,p,cs,n,rfl,hp,ty,hc,q⟩:=h
 obtain⟨u,w',rfl,rx,ry⟩:=vals2 r
 cases ry
 obtain⟨t1,t2⟩:=xes (K:=X.K) ty
 obtain⟨_,its,rv,⟨cl,dd,dt,sl⟩,h1,h2,nn,h3⟩:=(show wj X.prog X.w H s.heap p (.tup _) from I.hok p _ hp)
 have e:=xbE rv
 subst e
 simp only at h2 h3
 subst h2 h3
 have fin:∀tk,EP X pins σ Q (.bool (cs.any (mJ n))) { s with toks:=tk }:=fun tk=>⟨.bl _,H,I.tok tk,rfl,q⟩
 have ka:=ph (K:=X.K) t2 hc
 cases t1 with
 | non=>cases (show u=Value.none from rx);exact PySem.W.kia_tup PySem.W.kitx_none I.kIn True.intro h1 ka (fun z=>nomatch z) fin
 | bl y=>cases (show u=Value.bool y from rx);exact PySem.W.kia_tup PySem.W.kitx_bool I.kIn True.intro h1 ka (fun z=>nomatch z) fin
 | int i=>obtain⟨t,q⟩:=(show ∃t,u=Value.int i t from rx);cases q;exact PySem.W.kia_tup PySem.W.kitx_int I.kIn True.intro h1 ka (fun z=>nomatch z) fin
 | str y=>obtain⟨t,q⟩:=(show ∃t,u=Value.str y t from rx);cases q;exact PySem.W.kia_tup PySem.W.kitx_str I.kIn True.intro h1 ka (fun z=>nomatch z) fin
 | flt y=>obtain⟨t,q⟩:=(show ∃t,u=Value.float y t from rx);cases q;exact PySem.W.kia_tup PySem.W.kitx_float I.kIn True.intro h1 ka (fun z=>nomatch z) fin
 | @lst a xs ea =>
  cases (show u=Value.ref a from rx)
  obtain⟨_,_,n,_,hh⟩:=(show wj X.prog X.w H s.heap a (.lst xs) from I.hok a _ ea)
  exact PySem.W.kia_tup PySem.W.kitx_list I.kIn ⟨_,hh,rfl⟩ h1 ka (fun z=>nomatch z) fin
 | @frz a ob xs ea =>
  cases (show u=Value.ref a from rx)
  obtain⟨_,_,_,n,_,hh⟩:=(show wj X.prog X.w H s.heap a (.frz ob (.lst xs)) from I.hok a _ ea)
  exact PySem.W.kia_tup PySem.W.kitx_list I.kIn ⟨_,hh,rfl⟩ h1 ka (fun z=>nomatch z) fin
 | @tup a xs ea =>
  cases (show u=Value.ref a from rx)
  obtain⟨_,_,_,p⟩:=(show wj X.prog X.w H s.heap a (.tup xs) from I.hok a _ ea)
  obtain⟨o,hh,h2,_⟩:=p
  exact PySem.W.kia_tup PySem.W.kitx_tuple I.kIn ⟨o,hh,h2⟩ h1 ka (fun z=>nomatch z) fin
 | @dK a kvs ea =>
  cases (show u=Value.ref a from rx)
  obtain⟨_,_,vs,_,p⟩:=(show wj X.prog X.w H s.heap a (.dK kvs) from I.hok a _ ea)
  obtain⟨o,es,ep,hh,h2,_⟩:=p
  exact PySem.W.kia_tup PySem.W.kitx_dict I.kIn ⟨o,hh,h2.1⟩ h1 ka (fun z=>nomatch z) fin
 | @dT a kvs ea =>
  cases (show u=Value.ref a from rx)
  obtain⟨_,_,xs,_,o,es,ep,hh,h2,_⟩:=(show wj X.prog X.w H s.heap a (.dT kvs) from I.hok a _ ea)
  exact PySem.W.kia_tup PySem.W.kitx_dict I.kIn ⟨o,hh,h2.1⟩ h1 ka (fun z=>nomatch z) fin
theorem j_:∀ {bs:List Bool} {us:List Value},zf (bs.map V.bl) us→us=bs.map Value.bool
 | [],_,.nil=>rfl
 | c::cs,_,.cons r t=>by
  cases r
  rw[j_ t];rfl
def xfD (K:PySem.W.Frag)(xs:List V)(H:Hp)(Q:VK):Prop:=∃(p:Addr) (ns:List Int),xs=[.ref p]∧SqL K H p (ns.map V.int)∧ns≠[]∧∀M,M∈ns→(∀a∈ns,a≤M)→Q (.int M) H
theorem xan (hc:X.calm=true):uk X (.builtin "max") (xfD X.K):=by
 intro pins s σ H xs us Q I r h
 obtain⟨p,ns,rfl,hl,hne,q⟩:=h
 obtain⟨u,rfl,ru⟩:=vals1 r
 cases ru
 obtain⟨its,rv,pl,hz⟩:=I.list hl
 obtain⟨m,F⟩:=I.fr
 have hi:=intsAre_of rv
 obtain⟨xs',e⟩:=hi.allInts.items
 have hns:ns=xs'.toList.map (·.1):=by rw[←hi.numsOf,←nums_intItems,←e]
 have hsz:0<xs'.size:=by
  have h3:0<ns.length:=xkQ.mpr hne
  rw[hns,xkP,xjE] at h3;exact h3
 have hl':=pl.isList
 rw[e] at hl'
 refine max_intList (I.ok.hd hc) hl' hsz fun v h' tk hv hk=>?_
 obtain⟨t,rfl⟩:=intItems_at hv
 obtain⟨h1,h2⟩:=argBest_gt (numAt xs') (xs'.size-1)
 refine⟨.int _,H,I.kept hk,⟨t,rfl⟩,q _ ?_ fun a ha=>?_⟩
 ·rw[hns,numAt_eq];exact getD_mem (by rw[xkP,xjE];omega)
 ·rw[hns] at ha
  obtain⟨j,hj,rfl⟩:=mem_getD ha
  rw[xkP,xjE] at hj
  rw[←numAt_eq];exact h2 j (by omega)
def xfL (K:PySem.W.Frag)(xs:List V)(H:Hp)(Q:VK):Prop:=∃(p:Addr) (bs:List Bool),xs=[.ref p]∧SqL K H p (bs.map V.bl)∧Q (.bl (bs.all id)) H
theorem rj {bs:List Bool}:(List.range bs.length).all (fun i=>(bs[i]?).getD false)=bs.all id:=by
 rw[xjI]
 simp only[xki,xlf,id]
 constructor
 ·intro h b hb
  obtain⟨i,hi,rfl⟩:=xk_.mp hb
  have:=h i hi
  rw[xkD hi] at this
  exact this
 ·intro h i hi
  rw[xkD hi]
  exact h _ (xkJ hi)
theorem xbr (hc:X.calm=true):uk X (.builtin "all") (xfL X.K):=by
 intro pins s σ H xs us Q I r h
 obtain⟨p,bs,rfl,hl,q⟩:=h
 obtain⟨u,rfl,ru⟩:=vals1 r
 cases ru
 obtain⟨its,rv,pl,hz⟩:=I.list hl
 have e:=j_ rv
 subst e
 have hl':=pl.isList
 refine call_all_walk (wpAny_pyIter_list hl' ?_)
 have hlt:p<s.heap.objs.size:=by obtain⟨o,ho,_⟩:=id hl';exact Heap.lt_size ho
 have hne:p≠s.heap.objs.size:=xlH hlt
 refine⟨_,_,_,_,_,_,fun i=>(bs[i]?).getD false,rfl,Walks.list (A:=X.A.in1) (I.ok.hd hc) _ p hne (bs.map Value.bool).toArray,⟨⟨_,Heap.get?_push_size _ rfl,rfl,rfl⟩,hl'.at fun o e=>Heap.get?_push_of_some _ e⟩,?_,fun h' tk hk=>?_⟩
 ·intro i v s' Q' E' hP hq
  have hP':(bs.map Value.bool)[i]? = some v:=by simpa using hP
  rw[xkG] at hP'
  cases eb:bs[i]? with
  | none=>rw[eb] at hP';cases hP'
  | some b =>
   rw[eb] at hP'
   cases hP'
   simp only[eb,xlK] at hq
   exact wpAny_truthy_bool hq
 ·have hk':=old_kept (l:=p) hk
  refine⟨.bl (bs.all id),H,I.kept hk',?_,q⟩
  show Value.bool _=Value.bool _
  have:(bs.map Value.bool).toArray.size=bs.length:=by simp
  rw[this,rj]
end
end L2
namespace L2
open PySem PySem.Spec PyProof.Rows
structure Blt (mg:Str→Option Value)(ns:List Str):Prop where
 all:∀x∈ns,mg x=none
theorem Blt.get (B:Blt mg ns)(x:Str)(h:x∈ns:=by decide +kernel):mg x=none:=B.all x h
theorem wk:bootBuiltins "len" = some (.builtin "len"):=by decide +kernel
theorem xbR:bootBuiltins "max" = some (.builtin "max"):=by decide +kernel
theorem xf6:bootBuiltins "min" = some (.builtin "min"):=by decide +kernel
theorem vM:bootBuiltins "abs" = some (.builtin "abs"):=by decide +kernel
theorem tH:bootBuiltins "all" = some (.builtin "all"):=by decide +kernel
theorem xu:bootBuiltins "isinstance" = some (.builtin "isinstance"):=by decide +kernel
theorem zV:bootBuiltins "tuple" = some (.type "tuple"):=by decide +kernel
theorem n9:bootBuiltins "list" = some (.type "list"):=by decide +kernel
theorem tQ:bootBuiltins "int" = some (.type "int"):=by decide +kernel
theorem ba:bootBuiltins "bool" = some (.type "bool"):=by decide +kernel
theorem dn:bootBuiltins "str" = some (.type "str"):=by decide +kernel
theorem xhj:bootBuiltins "zip" = some (.type "zip"):=by decide +kernel
def xhL (n:Int)(b:Bool):Prop:=0≤n∧(b=false→n<2147483647)
def nZ (p:Addr)(H:Hp):Prop:=∃(n:Int) (b:Bool),H p=some (.lst [.int n,.bl b])∧xhL n b
structure SB (p:Addr)(H H':Hp):Prop where
 keep:∀(b:Addr) (o:HO),b≠p→H b=some o→H' b=some o
 st:nZ p H'
def xek (K:PySem.W.Frag):Sp:=fun vs H Q _=>∃(a:Addr) (ns:List Int) (k:Int),vs=[.ref a,.int k]∧SqL K H a (ns.map V.int)∧ns.length≤63∧0≤k∧∀n:Int,Q (.int n) H
def cg (K:PySem.W.Frag):Sp:=fun vs H Q _=>∃(a:Addr) (ns:List Int) (k:Int),vs=[.ref a,.int k]∧SqL K H a (ns.map V.int)∧ns.length≤63∧0≤k ∧
 ∀(p:Addr) (n:Int) (b:Bool),H p=none→xhL n b→Q (.ref p) (upd H p (.lst [.int n,.bl b]))
def xdF:Sp:=fun vs H Q _=>∃(p:Addr) (many:Int),vs=[.ref p,.int many]∧nZ p H∧0<many∧many<2 ^ 128∧∀(r:Int) (H':Hp),0≤r→r<many→SB p H H'→Q (.int r) H'
theorem xcO {ns:List Int}{k:Int}(h0:0≤k)(h:k<(ns.length:Int)):∃v:Int,atI (ns.map V.int) k=some (.int v):=by
 have hk:k.toNat<ns.length:=by omega
 have ek:k=((k.toNat:Nat):Int):=by omega
 have q:atI (ns.map V.int) ((k.toNat:Nat):Int)=some (.int ns[k.toNat]):=xaO (by rw[xkG,xkD hk]<;>rfl)
 rw[←ek] at q
 exact⟨_,q⟩
end L2
namespace L2
open PySem PySem.Spec PyProof.Rows
section
variable {X:Cx}
theorem va (K:PySem.W.Frag)(e:X.K=K:=by rfl):IxR X (xhT K):=e▸xbX
theorem fj (K:PySem.W.Frag)(e:X.K=K:=by rfl):SlR X (xgx K):=e▸xao
theorem o9 (K:PySem.W.Frag)(hc:X.calm=true)(e:X.K=K:=by rfl):uk X (.builtin "max") (xfD K):=e▸xan hc
theorem vF (K:PySem.W.Frag)(hc:X.calm=true)(e:X.K=K:=by rfl):uk X (.builtin "all") (xfL K):=e▸xbr hc
def xeQ (K:PySem.W.Frag)(xs:List V)(H:Hp)(Q:VK):Prop:=∃p ys,xs=[.ref p]∧(SqL K H p ys∨SqT K H p ys)∧Q (.int ys.length) H
theorem yD (K:PySem.W.Frag)(e:X.K=K:=by rfl):uk X (.builtin "len") (xeQ K):=e▸tG
def xhl (K:PySem.W.Frag)(xs:List V)(H:Hp)(Q:VK):Prop:=∃p ys,xs=[.ref p]∧((SqL K H p ys∧∀l,H l=none→Q (.ref l) (upd H l (.tup ys)))∨(SqT K H p ys∧Q (.ref p) H))
theorem zY (K:PySem.W.Frag)(e:X.K=K:=by rfl):uk X (.type "tuple") (xhl K):=e▸aS
theorem zz (K:PySem.W.Frag)(hc:X.calm=true)(h:PGs X es t)
  (hn:(assignEach es X.env).length=n:=by rfl) (hst:(assignEach es X.env).findIdx? (·.1)=none:=by rfl) (e:X.K=K:=by rfl):PG X (.Tuple es k pos) (xhz K n t):=by
 subst e
 exact xgz hc h hn hst
end
theorem ar:∀ {l:List α} {k:List β} {i:Nat} {b:β},Paired F l k→k[i]? = some b→∃a,l[i]? = some a∧F a b
 | _,_,_,_,.nil,h=>by simp at h
 | _,_,0,_,.cons r _,h=>by simp at h;subst h;exact⟨_,rfl,r⟩
 | _,_,i+1,b,.cons _ t,h=>by
  obtain⟨a,e,f⟩:=ar (i:=i) t (by simpa using h)
  exact⟨a,by simpa using e,f⟩
theorem lb (h:Paired F l k):l.length=k.length:=Paired.length h
theorem n_ (h:Paired F l k)(r:F a b):Paired F (l++[a]) (k++[b]):=Paired.snoc h r
theorem sD:∀ {l l':List α} {k k':List β},Paired F l k→Paired F l' k'→Paired F (l++l') (k++k')
 | _,_,_,_,.nil,s=>s
 | _,_,_,_,.cons r t,s=>.cons r (sD t s)
theorem kU:∀(n:Nat) {l:List α} {k:List β},Paired F l k→Paired F (l.drop n) (k.drop n)
 | 0,_,_,h=>h
 | _+1,_,_,.nil=>.nil
 | n+1,_,_,.cons _ t=>kU n t
theorem kY:∀(n:Nat) {l:List α} {k:List β},Paired F l k→Paired F (l.take n) (k.take n)
 | 0,_,_,_=>.nil
 | _+1,_,_,.nil=>.nil
 | n+1,_,_,.cons r t=>.cons r (kY n t)
theorem take_succ {α:Type}{l:List α}{i:Nat}{a:α}(h:l[i]? = some a):l.take (i+1)=l.take i++[a]:=by
 rw[xls,h];rfl
theorem sz (h:n≤1000):n≤sizeLine:=xlv (xca h)
end L2
namespace L2
open PySem PySem.Spec PyProof.Rows
open Builtin.SmallTypes (nextOf)
structure Drw (it a:Addr)(vs:List Value)(tn:Nat→Heap→Prop)(src:Heap→Prop):Prop where
 mv:∀i h h',tn i h→(∀o,h.get? it=some o→h'.get? it=some o)→tn i h'
 smv:∀h h',src h→(∀o,h.get? a=some o→h'.get? a=some o)→src h'
 ob:∀i h,tn i h→∃o,h.get? it=some o∧∀v,o.data≠.cell v
 item:∀(prog:Program) (w:World) (A:Around) (E:Value→Shared→Prop) (i:Nat) (x:Value) (s:Shared) (Q:Value→Shared→Prop),tn i s.heap→src s.heap→vs[i]? = some x →
  (∀h',tn (i+1) h'→Heap.SameBut it s.heap h'→Q x { s with heap:=h' })→wpAny (model prog w) A (nextOf (.ref it)) Q E s
 fin:∀(prog:Program) (w:World) (A:Around) (E:Value→Shared→Prop) (i:Nat) (s:Shared) (Q:Value→Shared→Prop),A.handled=none→tn i s.heap→src s.heap→vs[i]? = none →
  (∀h' e,Heap.ExtBut it s.heap h'→(∃o,h'.get? e=some o∧o.cls=.type "StopIteration")→E (.ref e) { s with heap:=h' })→wpAny (model prog w) A (nextOf (.ref it)) Q E s
theorem xcE (it a:Addr)(vs:List Value):Drw it a vs (fun i h=>h.IsListIter it a i) (fun h=>h.IsList a vs.toArray) where
 mv:=fun i h h' t k=>t.at k
 smv:=fun h h' t k=>t.at k
 ob:=fun i h t=>let ⟨o,e,_,d⟩:=t;⟨o,e,fun v z=>by rw[d] at z;cases z⟩
 item:=fun prog w A E i x s Q t l e h=>wpAny_nextOf_list_item t l (by simpa using e) h
 fin:=fun prog w A E i s Q hh t l e h=>wpAny_nextOf_list_end hh t l (by simpa using e) h
section
variable {prog:Program} {w:World} {A:Around} {E:Value→Shared→Prop} {s:Shared}
theorem tL {it a:Addr}{i:Nat}{vs:List Value}{x:Value}{Q:Value→Shared→Prop}(T:s.heap.IsTupleIter it a i)(S:s.heap.IsTuple a vs.toArray)(e:vs[i]? = some x)
  (h:∀h',h'.IsTupleIter it a (i+1)→Heap.SameBut it s.heap h'→Q x { s with heap:=h' }):wpAny (model prog w) A (nextOf (.ref it)) Q E s:=by
 obtain⟨ob,hob,hcl,hdt⟩:=id T
 obtain⟨os,hos,_,nn,hsq⟩:=id S
 have e':vs.toArray[i]? = some x:=by simpa using e
 unfold nextOf
 refine wpAny_bind (wpAny_callSpecial?_slot (name:=Str.ofString "__next__") T.typeIs F.slot_tuple_iterator_next (wpAny_call_entry F.slot_tuple_iterator_next T.typeIs F.entry_tuple_iterator_next (wpAny_bind (m:=field (.ref it) 0) (wpAny_field hob hdt (x:=.ref a) rfl ?_)) (F.args_tuple_iterator_next_1 _)))
 refine wpAny_bind (m:=field (.ref it) 1) (wpAny_field hob hdt (x:=.int i 0) rfl (wpAny_bind (m:=seqItems? (.ref a)) (wpAny_seqItems hos hsq ?_)))
 simp only[xkc,e']
 refine wpAny_bind (wpAny_setField hob hdt (by simp) (wpAny_pure ⟨x,rfl,wpAny_pure (h _ ⟨_,Heap.get?_update_self _ hob (Obj.isFreed_of_fields (Obj.data_mapFields hdt _)),(Obj.cls_mapFields ..).trans hcl,?_⟩ (Heap.SameBut.update ..))⟩))
 rw[Obj.data_mapFields hdt]
 simp[rawInt]
theorem bM {it a:Addr}{i:Nat}{vs:List Value}{Q:Value→Shared→Prop}(hn:A.handled=none)(T:s.heap.IsTupleIter it a i)(S:s.heap.IsTuple a vs.toArray)(e:vs[i]? = none)
  (h:∀h' x,Heap.ExtBut it s.heap h'→(∃o,h'.get? x=some o∧o.cls=.type "StopIteration")→E (.ref x) { s with heap:=h' }):wpAny (model prog w) A (nextOf (.ref it)) Q E s:=by
 obtain⟨ob,hob,hcl,hdt⟩:=id T
 obtain⟨os,hos,_,nn,hsq⟩:=id S
 have e':vs.toArray[i]? = none:=by simpa using e
 unfold nextOf
 refine wpAny_bind (wpAny_callSpecial?_slot (name:=Str.ofString "__next__") T.typeIs F.slot_tuple_iterator_next (wpAny_call_entry F.slot_tuple_iterator_next T.typeIs F.entry_tuple_iterator_next (wpAny_bind (m:=field (.ref it) 0) (wpAny_field hob hdt (x:=.ref a) rfl ?_)) (F.args_tuple_iterator_next_1 _)))
 refine wpAny_bind (m:=field (.ref it) 1) (wpAny_field hob hdt (x:=.int i 0) rfl (wpAny_bind (m:=seqItems? (.ref a)) (wpAny_seqItems hos hsq ?_)))
 simp only[xkc,e']
 refine wpAny_bind (wpAny_rule (wpAny_bind (wpAny_setField hob hdt (by simp) (wpAny_bind ?_))))
 simp only[newExc,newTuple]
 refine wpAny_bind (wpAny_newObj_type (wpAny_bind (m:=firstArgMember _ _) (wpAny_of_eq (a:=Value.none) (by first | rfl | (simp only[firstArgMember];rfl)) (wpAny_newObj_type ?_ (by size_fits)))) (by size_fits))
 simp only[raiseNew]
 refine wpAny_bind (wpAny_handled ?_)
 first | rw[show A.in1.handled=none from hn] | rw[hn]
 exact wpAny_bind (wpAny_pure (wpAny_throw (h _ _ (((Heap.SameBut.update ..).extBut.push _).push _) ⟨_,Heap.get?_push_size _ rfl,rfl⟩)))
end
theorem xeZ (it a:Addr)(vs:List Value):Drw it a vs (fun i h=>h.IsTupleIter it a i) (fun h=>h.IsTuple a vs.toArray) where
 mv:=fun i h h' t k=>t.at k
 smv:=fun h h' t k=>let ⟨o,e,r⟩:=t;⟨o,k o e,r⟩
 ob:=fun i h t=>let ⟨o,e,_,d⟩:=t;⟨o,e,fun v z=>by rw[d] at z;cases z⟩
 item:=fun prog w A E i x s Q t l e h=>tL t l e h
 fin:=fun prog w A E i s Q hh t l e h=>bM hh t l e h
structure ZA (z ti to i1 i2 a1 a2:Addr):Prop where
 a:ti≠z∧to≠z∧i1≠z∧i2≠z∧ti≠to∧ti≠i1∧ti≠i2∧to≠i1∧to≠i2∧i1≠i2
 b:a1≠z∧a1≠to∧a1≠i1∧a1≠i2∧a2≠z∧a2≠to∧a2≠i1∧a2≠i2
section
variable {prog:Program} {w:World} {A:Around} {E:Value→Shared→Prop} {s:Shared} {z ti to i1 i2 a1 a2:Addr} {vs us:List Value} {t1 t2:Nat→Heap→Prop} {s1 s2:Heap→Prop}
theorem xbB {k:Nat}{x y p q:Value}{Q:Value→Shared→Prop}(D:ZA z ti to i1 i2 a1 a2)(W1:Drw i1 a1 vs t1 s1)(W2:Drw i2 a2 us t2 s2)(Z:IsZip s.heap z ti to .none)(TI:IsPair s.heap ti (.ref i1) (.ref i2))(TO:IsPair s.heap to p q)
  (b1:t1 k s.heap) (b2:t2 k s.heap) (c1:s1 s.heap) (c2:s2 s.heap) (ex:vs[k]? = some x) (ey:us[k]? = some y)
  (h:∀h',IsZip h' z ti to (rawInt s.heap.objs.size)→IsPair h' to x y→t1 (k+1) h'→t2 (k+1) h'→IsPair h' s.heap.objs.size x y →
   (∀c o,c≠z→c≠to→c≠i1→c≠i2→s.heap.get? c=some o→h'.get? c=some o)→Q (.ref s.heap.objs.size) { s with heap:=h' }) :
  wpAny (model prog w) A (Builtin.«zip.__next__» ⟨[.ref z],[]⟩) (fun fin s'=>∃v,fin=.done (.ret v)∧Q v s') E s:=by
 obtain⟨⟨d1,d2,d3,d4,d5,d6,d7,d8,d9,d10⟩,e1,e2,e3,e4,e5,e6,e7,e8⟩:=D
 refine wpAny_bind (m:=field (.ref z) 2) (wpAny_field Z rfl (x:=.bool false) rfl (wpAny_bind (m:=field (.ref z) 3) (wpAny_field Z rfl (x:=.ref ti) rfl (wpAny_bind (wpAny_seqItems TI rfl ?_)))))
 refine wpAny_bind (m:=Builtin.SmallTypes.ownedTupleIsFree (.ref z)) ?_
 unfold Builtin.SmallTypes.ownedTupleIsFree
 refine wpAny_bind (wpAny_field Z rfl (x:=.none) rfl (wpAny_pure ?_))
 simp only[if_true]
 refine wpAny_bind (wpAny_rule (wpAny_bind (wpAny_field Z rfl (x:=.ref to) rfl (wpAny_bind (wpAny_setField_rec Z (by simp) fun g1 Z1 S1=>wpAny_bind ?_)))))
 replace Z1:IsZip g1 z ti to .ellipsis:=Z1
 simp only[List.zipIdx_cons,List.zipIdx_nil,xky,List.forIn_nil]
 refine wpAny_bind (wpAny_bind (wpAny_onRaise (wpAny_bind (m:=nextOf (.ref i1)) ?_)))
 refine W1.item _ _ _ _ k x _ _ (W1.mv _ _ _ b1 fun o=>S1.extBut _ o d3) (W1.smv _ _ c1 fun o=>S1.extBut _ o e1) ex fun g2 b12 S2=>wpAny_pure ?_
 have TO2:IsPair g2 to p q:=S2.extBut _ _ d8 (S1.extBut _ _ d2 TO)
 refine wpAny_bind (wpAny_seqItems TO2 rfl (wpAny_bind (wpAny_updateSeq_pair TO2 fun g3 TO3 S3=>wpAny_bind (wpAny_letGo (wpAny_pure ?_)))))
 replace TO3:IsPair g3 to x q:=TO3
 refine wpAny_bind (wpAny_bind (wpAny_onRaise (wpAny_bind (m:=nextOf (.ref i2)) ?_)))
 have k3:∀c o,c≠z→c≠to→c≠i1→s.heap.get? c=some o→g3.get? c=some o:=fun c o n1 n2 n3 g=>S3.extBut _ _ n2 (S2.extBut _ _ n3 (S1.extBut _ _ n1 g))
 refine W2.item _ _ _ _ k y _ _ (W2.mv _ _ _ b2 fun o=>k3 _ o d4 (Ne.symm d9) (Ne.symm d10)) (W2.smv _ _ c2 fun o=>k3 _ o e5 e6 e7) ey fun g4 b24 S4=>wpAny_pure ?_
 have TO4:IsPair g4 to x q:=S4.extBut _ _ d9 TO3
 refine wpAny_bind (wpAny_seqItems TO4 rfl (wpAny_bind (wpAny_updateSeq_pair TO4 fun g5 TO5 S5=>wpAny_bind (wpAny_letGo (wpAny_pure (wpAny_pure ?_))))))
 replace TO5:IsPair g5 to x y:=TO5
 refine wpAny_bind (wpAny_seqItems TO5 rfl (wpAny_bind (wpAny_newTuple (wpAny_bind (m:=Builtin.SmallTypes.ownedTupleHandOut (.ref z) (.ref g5.objs.size)) ?_))))
 have sz5:g5.objs.size=s.heap.objs.size:=by rw[S5.1,S4.1,S3.1,S2.1,S1.1]
 have k5:∀c o,c≠to→c≠i2→g3.get? c=some o→g5.get? c=some o:=fun c o n1 n2 g=>S5.extBut _ _ n1 (S4.extBut _ _ n2 g)
 have Z5:IsZip g5 z ti to .ellipsis:=k5 _ _ (Ne.symm d2) (Ne.symm d4) (S3.extBut _ _ (Ne.symm d2) (S2.extBut _ _ (Ne.symm d3) Z1))
 have b15:t1 (k+1) g5:=W1.mv _ _ _ b12 fun o g=>k5 _ o (Ne.symm d8) d10 (S3.extBut _ o (Ne.symm d8) g)
 have b25:t2 (k+1) g5:=W2.mv _ _ _ b24 fun o g=>S5.extBut _ o (Ne.symm d9) g
 have zlt:z<g5.objs.size:=Heap.lt_size Z5
 unfold Builtin.SmallTypes.ownedTupleHandOut
 refine wpAny_bind (wpAny_setField_rec (show IsZip (g5.push { cls:=.type "tuple", data:=.seq #[x,y] }) z ti to .ellipsis from Heap.get?_push_of_some _ Z5) (by simp) fun g7 Z7 S7=>wpAny_setField_rec (show IsZip g7 z ti to (rawInt g5.objs.size) from Z7) (by simp) fun g8 Z8 S8=>?_)
 replace Z8:IsZip g8 z ti to (rawInt g5.objs.size):=Z8
 have up8:∀c o,c≠z→g5.get? c=some o→g8.get? c=some o:=fun c o n g=>S8.extBut _ _ n (S7.extBut _ _ n (Heap.get?_push_of_some _ g))
 have T8:IsPair g8 g5.objs.size x y:=S8.extBut _ _ (xlG zlt) (S7.extBut _ _ (xlG zlt) (Heap.get?_push_size _ rfl))
 refine wpAny_pure ⟨_,rfl,?_⟩
 show Q (.ref g5.objs.size) _
 rw[sz5] at Z8 T8 ⊢
 exact h g8 Z8 (up8 _ _ d2 TO5) (W1.mv _ _ _ b15 fun o g=>up8 _ o d3 g) (W2.mv _ _ _ b25 fun o g=>up8 _ o d4 g) T8 fun c o n1 n2 n3 n4 g=>up8 c o n1 (k5 c o n2 n4 (k3 c o n1 n2 n3 g))
theorem xcX (hn:A.handled=none)(D:ZA z ti to i1 i2 a1 a2)(W1:Drw i1 a1 vs t1 s1)(W2:Drw i2 a2 us t2 s2)(Z:IsZip s.heap z ti to .none)(TI:IsPair s.heap ti (.ref i1) (.ref i2))(TO:IsPair s.heap to p q)
  (b1:t1 k s.heap) (b2:t2 k s.heap) (c1:s1 s.heap) (c2:s2 s.heap) (end':vs[k]? = none∨us[k]? = none)
  (h:∀h' e,(∀c o,c≠z→c≠to→c≠i1→c≠i2→s.heap.get? c=some o→h'.get? c=some o)→(∃o,h'.get? e=some o∧o.cls=.type "StopIteration")→E (.ref e) { s with heap:=h' }) :
  wpAny (model prog w) A (Builtin.«zip.__next__» ⟨[.ref z],[]⟩) Q E s:=by
 obtain⟨⟨d1,d2,d3,d4,d5,d6,d7,d8,d9,d10⟩,e1,e2,e3,e4,e5,e6,e7,e8⟩:=D
 refine wpAny_bind (m:=field (.ref z) 2) (wpAny_field Z rfl (x:=.bool false) rfl (wpAny_bind (m:=field (.ref z) 3) (wpAny_field Z rfl (x:=.ref ti) rfl (wpAny_bind (wpAny_seqItems TI rfl ?_)))))
 refine wpAny_bind (m:=Builtin.SmallTypes.ownedTupleIsFree (.ref z)) ?_
 unfold Builtin.SmallTypes.ownedTupleIsFree
 refine wpAny_bind (wpAny_field Z rfl (x:=.none) rfl (wpAny_pure ?_))
 simp only[if_true]
 refine wpAny_bind (wpAny_rule (wpAny_bind (wpAny_field Z rfl (x:=.ref to) rfl (wpAny_bind (wpAny_setField_rec Z (by simp) fun g1 Z1 S1=>wpAny_bind ?_)))))
 replace Z1:IsZip g1 z ti to .ellipsis:=Z1
 simp only[List.zipIdx_cons,List.zipIdx_nil,xky,List.forIn_nil]
 refine wpAny_bind (wpAny_bind (wpAny_onRaise (wpAny_bind (m:=nextOf (.ref i1)) ?_)))
 have b1':=W1.mv _ _ _ b1 fun o=>S1.extBut _ o d3
 have c1':=W1.smv _ _ c1 fun o=>S1.extBut _ o e1
 cases ex:vs[k]? with
 | none =>
  refine W1.fin _ _ _ _ k _ _ hn b1' c1' ex fun g2 e S2 he=>?_
  obtain⟨oe,hoe,hce⟩:=he
  have Z2:IsZip g2 z ti to .ellipsis:=S2 _ _ (Ne.symm d3) Z1
  have ne:e≠z:=fun y=>by subst y;rw[Z2] at hoe;cases hoe;simp at hce
  exact wpAny_setField_rec Z2 (by simp) fun g3 _ S3=>h g3 e (fun c o n1 _ n3 _ g=>S3.extBut _ _ n1 (S2 _ _ n3 (S1.extBut _ _ n1 g))) ⟨oe,S3.extBut _ _ ne hoe,hce⟩
 | some x =>
  have ey:us[k]? = none:=end'.resolve_left (by rw[ex];exact fun z=>nomatch z)
  refine W1.item _ _ _ _ k x _ _ b1' c1' ex fun g2 b12 S2=>wpAny_pure ?_
  have TO2:IsPair g2 to p q:=S2.extBut _ _ d8 (S1.extBut _ _ d2 TO)
  refine wpAny_bind (wpAny_seqItems TO2 rfl (wpAny_bind (wpAny_updateSeq_pair TO2 fun g3 TO3 S3=>wpAny_bind (wpAny_letGo (wpAny_pure ?_)))))
  refine wpAny_bind (wpAny_bind (wpAny_onRaise (wpAny_bind (m:=nextOf (.ref i2)) ?_)))
  have k3:∀c o,c≠z→c≠to→c≠i1→s.heap.get? c=some o→g3.get? c=some o:=fun c o n1 n2 n3 g=>S3.extBut _ _ n2 (S2.extBut _ _ n3 (S1.extBut _ _ n1 g))
  refine W2.fin _ _ _ _ k _ _ hn (W2.mv _ _ _ b2 fun o=>k3 _ o d4 (Ne.symm d9) (Ne.symm d10)) (W2.smv _ _ c2 fun o=>k3 _ o e5 e6 e7) ey fun g4 e S4 he=>?_
  obtain⟨oe,hoe,hce⟩:=he
  have Z4:IsZip g4 z ti to .ellipsis:=S4 _ _ (Ne.symm d4) (S3.extBut _ _ (Ne.symm d2) (S2.extBut _ _ (Ne.symm d3) Z1))
  have ne:e≠z:=fun y=>by subst y;rw[Z4] at hoe;cases hoe;simp at hce
  exact wpAny_setField_rec Z4 (by simp) fun g5 _ S5=>h g5 e (fun c o n1 n2 n3 n4 g=>S5.extBut _ _ n1 (S4 _ _ n4 (k3 c o n1 n2 n3 g))) ⟨oe,S5.extBut _ _ ne hoe,hce⟩
end
end L2
namespace L2
open PySem PySem.Spec PyProof.Rows
section
variable {prog:Program} {w:World} {A:Around} {E:Value→Shared→Prop} {s:Shared}
end
theorem xgP (h1:a1<n)(h2:a2<n):ZA (n+4) (n+2) (n+3) n (n+1) a1 a2:=by
 have up:∀(x k:Nat),x<n→x≠n+k:=fun x k h=>xlH (xlB h (xlt n k))
 have ad:∀j k:Nat,j≠k→n+j≠n+k:=fun j k h e=>h (Nat.add_left_cancel e)
 have a0:∀k:Nat,0≠k→n≠n+k:=fun k h e=>h (Nat.add_left_cancel (n:=n) (by simpa using e))
 exact⟨⟨ad _ _ (by decide),ad _ _ (by decide),a0 _ (by decide),ad _ _ (by decide),ad _ _ (by decide),fun e=>a0 2 (by decide) e.symm,ad _ _ (by decide),fun e=>a0 3 (by decide) e.symm,ad _ _ (by decide),a0 _ (by decide)⟩,
  up _ _ h1,up _ _ h1,xlH h1,up _ _ h1,up _ _ h2,up _ _ h2,xlH h2,up _ _ h2⟩
def Sq2 (K:PySem.W.Frag)(b:Bool)(H:Hp)(a:Addr)(xs:List V):Prop:=if b=true then SqT K H a xs else SqL K H a xs
def lS (b:Bool)(a:Addr)(vs:List Value)(h:Heap):Prop:=if b=true then h.IsTuple a vs.toArray else h.IsList a vs.toArray
def Tn2 (b:Bool)(it a:Addr)(i:Nat)(h:Heap):Prop:=if b=true then h.IsTupleIter it a i else h.IsListIter it a i
theorem rS (b:Bool)(it a:Addr)(vs:List Value):Drw it a vs (Tn2 b it a) (lS b a vs):=by
 cases b with
 | true=>exact xeZ it a vs
 | false=>exact xcE it a vs
theorem Inv.sq2 (I:Inv X pins σ H s)(h:Sq2 X.K b H a xs):∃vs:List Value,zf xs vs∧lS b a vs s.heap:=by
 cases b with
 | true=>obtain⟨vs,r,p,_⟩:=I.tuple (show SqT X.K H a xs from h);exact⟨vs,r,p⟩
 | false=>obtain⟨vs,r,p,_⟩:=I.list (show SqL X.K H a xs from h);exact⟨vs,r,p.isList⟩
section
variable {P:Program} {w:World} {K:PySem.W.Frag} {z ti to i1 i2 a1 a2:Addr} {b:Bool} {xs ys:List V}
end
section
variable {X:Cx}
end
end L2
namespace L2
open PySem PySem.Spec PyProof.Rows
theorem Inv.room (I:Inv X pins σ H s):sysModules<s.heap.objs.size:=by
 have h:mainGlobals<s.heap.objs.size:=(I.mod.glob.keeps I.bk).lt
 exact Nat.lt_trans (by decide) h
theorem xa4 (h:Heap)(hb:sysModules<h.objs.size):wj P w H (h.push { cls:=.type "dict", data:=.dict #[] }) h.objs.size (.dK []) :=
 ⟨xlJ _,beq_eq_false_iff_ne.mpr (Ne.symm (xlH hb)),[],.nil,Heap.DictOf.new h⟩
def xhp:TE:=fun _ H Q=>∀p,H p=none→Q (.ref p) (upd H p (.dK []))
theorem xff:PE X (.Dict [] [] pos) xhp:=fun pins s σ H Q I h =>
 wpAny_Dict_empty ⟨.ref s.heap.objs.size,_,I.laid (a:=s.heap.objs.size) (o:=.dK []) (t':=s.toks) (fun _ _ q=>Heap.get?_push_of_some _ q) (xlw _) (xa4 s.heap I.room),rfl,h _ (I.hok.fresh (xlw _))⟩
end L2
namespace L2
open PySem PySem.Spec PyProof.Rows
inductive Tr where
 | non | bl (b:Bool) | int (i:Int) | str (x:Str) | emp | tup (xs:List Tr) | lst (xs:List Tr)
mutual
def Rep (F:Addr→Prop)(H:Hp):Tr→V→Prop
 | .non,v=>v=.non
 | .bl b,v=>v=.bl b
 | .int i,v=>v=.int i
 | .str x,v=>v=.str x
 | .emp,v=>∃a,v=.ref a∧¬F a∧H a=some (.dK [])
 | .tup ts,v=>∃a ws,v=.ref a∧¬F a∧H a=some (.tup ws)∧zM F H ts ws
 | .lst ts,v=>∃a ws,v=.ref a∧¬F a∧H a=some (.lst ws)∧zM F H ts ws
def zM (F:Addr→Prop)(H:Hp):List Tr→List V→Prop
 | [],ws=>ws=[]
 | t::ts,ws=>∃w r,ws=w::r∧Rep F H t w∧zM F H ts r
end
theorem zI:∀ {ts:List Tr} {ws:List V},zM F H ts ws↔Paired (Rep F H) ts ws
 | [],ws=>by
  constructor
  ·intro h;cases (show ws=[] from h);exact .nil
  ·intro h;cases h;rfl
 | t::ts,ws=>by
  constructor
  ·rintro⟨w,r,rfl,h1,h2⟩;exact .cons h1 (zI.mp h2)
  ·intro h
   cases h with
   | cons h1 h2=>exact⟨_,_,rfl,h1,zI.mpr h2⟩
theorem zM.len (h:zM F H ts ws):ts.length=ws.length:=lb (zI.mp h)
theorem zM.app (h:zM F H ts ws)(h':zM F H ts' ws'):zM F H (ts++ts') (ws++ws'):=zI.mpr (sD (zI.mp h) (zI.mp h'))
theorem zM.get {F:Addr→Prop}{H:Hp}{ts:List Tr}{ws:List V}{i:Nat}{w:V}(h:zM F H ts ws)(e:ws[i]? = some w):∃t,ts[i]? = some t∧Rep F H t w:=ar (zI.mp h) e
theorem zM.getT {F:Addr→Prop}{H:Hp}:∀ {ts:List Tr} {ws:List V} {i:Nat} {t:Tr},zM F H ts ws→ts[i]? = some t→∃w,ws[i]? = some w∧Rep F H t w:=fun {ts ws i t} h e=>by
 have hl:=h.len
 have hi:i<ws.length:=by have:=(xkF.mp e).1;omega
 obtain⟨t',e',r⟩:=h.get (xkD hi)
 rw[e] at e';cases e'
 exact⟨_,xkD hi,r⟩
mutual
theorem yz (m:∀a o,H a=some o→¬F a→H' a=some o∧¬F' a):∀(t:Tr) (v:V),Rep F H t v→Rep F' H' t v
 | .non,v,h=>h
 | .bl b,v,h=>h
 | .int i,v,h=>h
 | .str x,v,h=>h
 | .emp,v,h=>by
  obtain⟨a,e,n,k⟩:=h
  exact⟨a,e,(m a _ k n).2,(m a _ k n).1⟩
 | .tup ts,v,h=>by
  obtain⟨a,ws,e,n,k,r⟩:=h
  exact⟨a,ws,e,(m a _ k n).2,(m a _ k n).1,yj m ts ws r⟩
 | .lst ts,v,h=>by
  obtain⟨a,ws,e,n,k,r⟩:=h
  exact⟨a,ws,e,(m a _ k n).2,(m a _ k n).1,yj m ts ws r⟩
theorem yj (m:∀a o,H a=some o→¬F a→H' a=some o∧¬F' a):∀(ts:List Tr) (ws:List V),zM F H ts ws→zM F' H' ts ws
 | [],ws,h=>h
 | t::ts,ws,h=>by
  obtain⟨w,r,e,h1,h2⟩:=h
  exact⟨w,r,e,yz m t w h1,yj m ts r h2⟩
end
def bS:Tr→Option V
 | .non=>some .non | .bl b=>some (.bl b) | .int i=>some (.int i) | .str x=>some (.str x) | _=>none
theorem vd (h:bS t=some v):Rep F H t v:=by
 cases t with
 | non=>cases h;rfl
 | bl b=>cases h;rfl
 | int i=>cases h;rfl
 | str x=>cases h;rfl
 | _=>cases h
inductive TV where
 | un | fz (t:Tr) | ow (ts:List Tr) | st | sc (ns:List Int) | ob (a:Addr)
abbrev TSt:=List TV
def nth:TSt→Nat→TV
 | [],_=>.un
 | x::_,0=>x
 | _::r,n+1=>nth r n
theorem jN:∀ {τ:TSt} {i:Nat} (h:i<τ.length),nth τ i=τ[i]
 | [],_,h=>absurd h (by simp)
 | _::_,0,_=>rfl
 | _::r,i+1,h=>jN (τ:=r) (by simpa using h)
theorem uf:∀ {τ:TSt} {i:Nat} (h:τ.length≤i),nth τ i=.un
 | [],_,_=>rfl
 | _::_,0,h=>absurd h (by simp)
 | _::r,i+1,h=>uf (τ:=r) (by simpa using h)
theorem zB:∀ {τ:TSt} {i:Nat} {x:TV} (h:i<τ.length),nth (τ.set i x) i=x
 | [],_,_,h=>absurd h (by simp)
 | _::_,0,_,_=>rfl
 | _::r,i+1,x,h=>zB (τ:=r) (by simpa using h)
theorem yJ:∀ {τ:TSt} {i j:Nat} {x:TV} (h:j≠i),nth (τ.set i x) j=nth τ j
 | [],_,_,_,_=>rfl
 | _::_,0,0,_,h=>absurd rfl h
 | _::_,0,_+1,_,_=>rfl
 | _::_,_+1,0,_,_=>rfl
 | _::r,i+1,j+1,x,h=>yJ (τ:=r) (fun e=>h (by rw[e]))
structure FB where
 F0:Addr→Prop
 S0:Addr→Prop
 H0:Hp
 G0:List (Tr×V)
abbrev Phi:=Nat→Option Addr
def Av (B:FB)(φ:Phi)(a:Addr):Prop:=B.F0 a∨∃i,φ i=some a
def SA (B:FB)(φ:Phi)(τ:TSt)(a:Addr):Prop:=B.S0 a∨∃i,φ i=some a∧nth τ i=.st
def Wk (B:FB)(φ:Phi)(τ:TSt)(a:Addr):Prop:=B.F0 a∨SA B φ τ a
def AvB:Bool→FB→Phi→TSt→Addr→Prop
 | true,B,φ,_=>Av B φ
 | false,B,φ,τ=>Wk B φ τ
def tabOf (K:PySem.W.Frag)(x:Str):Option Addr:=match PySem.W.nsIn K mainGlobals x with
 | some (some (.ref f))=>(match K.lookup f with
  | some ⟨_,_,.func fd,_⟩=>(match fd.code with
   | .ref c=>(match K.lookup c with
    | some ⟨_,_,.fields vs,_⟩=>(match vs.toList.getD 11 Value.none with
     | Value.ref P=>(match K.lookup P with
      | none=>some P
      | some _=>none)
     | _=>none)
    | _=>none)
   | _=>none)
  | _=>none)
 | _=>none
def xfR (K:PySem.W.Frag):Option (Addr×Str):=match K.lookup 4 with
 | none=>none
 | some _=>match tabOf K "law" with
  | some P=>some (P, "law.<locals>.<lambda>")
  | none=>match tabOf K "_law_sides_right" with
   | some P=>some (P, "_law_sides_right.<locals>.<lambda>")
   | none=>none
def xfU (K:PySem.W.Frag)(H:Hp):Prop:=∀P q,xfR K=some (P,q)→H P=some (.tb q)
def xcL (K:PySem.W.Frag)(H:Hp)(a:Addr)(ns:List Int):Prop:=((∃o,H a=some (.frz o (.lst (ns.map V.int))))∨∀H',SqL K H' a (ns.map V.int))∧xfU K H
def Ent (K:PySem.W.Frag)(B:FB)(φ:Phi)(H:Hp)(i:Nat)(o:Option (Option V)):TV→Prop
 | .un=>True
 | .fz t=>∃v,o=some (some v)∧Rep (Av B φ) H t v
 | .ow ts=>∃a ws,o=some (some (.ref a))∧φ i=some a∧B.H0 a=none∧H a=some (.lst ws)∧zM (Av B φ) H ts ws
 | .st=>∃p,o=some (some (.ref p))∧φ i=some p∧(B.S0 p∨B.H0 p=none)
 | .sc ns=>∃a,o=some (some (.ref a))∧ns.length≤63∧xcL K H a ns
 | .ob a=>o=some (some (.ref a))
structure RS (K:PySem.W.Frag)(B:FB)(φ:Phi)(σ:St)(τ:TSt)(H:Hp):Prop where
 f0:∀a,B.F0 a→B.H0 a≠none
 s0:∀a,B.S0 a→B.F0 a
 ext:∀a o,B.H0 a=some o→¬B.S0 a→H a=some o
 sst:∀a,SA B φ τ a→nZ a H
 inj:∀i j a ts,nth τ i=.ow ts→φ i=some a→φ j=some a→i=j
 ow:∀i a,φ i=some a→H a≠none
 len:σ.length=τ.length
 ent:∀i,Ent K B φ H i (σ[i]?) (nth τ i)
 gh:∀p∈B.G0,Rep (Av B φ) H p.1 p.2
structure HX (B:FB)(φ:Phi)(τ:TSt)(H H':Hp):Prop where
 keep:∀a o,H a=some o→¬SA B φ τ a→H' a=some o
 st:∀a,SA B φ τ a→nZ a H'
section
variable {K:PySem.W.Frag} {B:FB} {φ:Phi} {σ:St} {τ:TSt} {H H' H'':Hp}
theorem nZ.ne_none (h:nZ p H):H p≠none:=by
 obtain⟨n,b,e,_⟩:=h
 rw[e];exact fun z=>nomatch z
theorem RS.sAv (R:RS K B φ σ τ H)(h:SA B φ τ a):Av B φ a:=by
 rcases h with h | ⟨i,h,_⟩
 ·exact .inl (R.s0 a h)
 ·exact .inr ⟨i,h⟩
theorem RS.wAv (R:RS K B φ σ τ H)(h:Wk B φ τ a):Av B φ a:=by
 rcases h with h | h
 ·exact .inl h
 ·exact R.sAv h
theorem RS.sB (R:RS K B φ σ τ H)(h:SA B φ τ a):AvB b B φ τ a:=by
 cases b with
 | true=>exact R.sAv h
 | false=>exact .inr h
theorem RS.dom (R:RS K B φ σ τ H)(h:Av B φ a):H a≠none:=by
 rcases h with h | ⟨i,h⟩
 ·by_cases s:B.S0 a
  ·exact(R.sst a (.inl s)).ne_none
  ·cases e:B.H0 a with
   | none=>exact absurd e (R.f0 a h)
   | some o=>rw[R.ext a o e s];exact fun z=>nomatch z
 ·exact R.ow i a h
theorem RS.domB (R:RS K B φ σ τ H)(h:AvB b B φ τ a):H a≠none:=by
 cases b with
 | true=>exact R.dom h
 | false=>exact R.dom (R.wAv h)
theorem HX.refl (R:RS K B φ σ τ H):HX B φ τ H H:=⟨fun _ _ h _=>h,R.sst⟩
theorem HX.trans (h:HX B φ τ H H')(h':HX B φ τ H' H''):HX B φ τ H H'':=⟨fun a o e n=>h'.keep a o (h.keep a o e n) n,h'.st⟩
theorem HX.none (h:HX B φ τ H H')(e:H' a=none):H a=none:=by
 cases q:H a with
 | none=>rfl
 | some o =>
  by_cases s:SA B φ τ a
  ·exact absurd e (h.st a s).ne_none
  ·rw[h.keep a o q s] at e;cases e
theorem HX.new (R:RS K B φ σ τ H)(hp:H p=Option.none)(o:HO):HX B φ τ H (upd H p o) :=
 ⟨fun a u e _=>by rw[xW (xF e hp)];exact e,fun a s=>by
  obtain⟨n,b,e,z⟩:=R.sst a s
  exact⟨n,b,by rw[xW (xF e hp)];exact e,z⟩⟩
theorem HX.rep (h:HX B φ τ H H')(hF:∀a,SA B φ τ a→F a)(r:Rep F H t v):Rep F H' t v:=yz (fun a o e n=>⟨h.keep a o e (fun s=>n (hF a s)),n⟩) t v r
theorem HX.repL (h:HX B φ τ H H')(hF:∀a,SA B φ τ a→F a)(r:zM F H t v):zM F H' t v:=yj (fun a o e n=>⟨h.keep a o e (fun s=>n (hF a s)),n⟩) t v r
theorem aG (R:RS K B φ σ τ H)(e:H a=some (.frz o u)):¬SA B φ τ a:=fun s=>by
 obtain⟨n,b,q,_⟩:=R.sst a s
 rw[e] at q;cases q
theorem xft (R:RS K B φ σ τ H)(e:H a=some (.tb q)):¬SA B φ τ a:=fun s=>by
 obtain⟨n,b,y,_⟩:=R.sst a s
 rw[e] at y;cases y
theorem xfU.hx (t:xfU K H)(R:RS K B φ σ τ H)(h:HX B φ τ H H'):xfU K H':=fun P q e=>h.keep P _ (t P q e) (xft R (t P q e))
theorem RS.hx (R:RS K B φ σ τ H)(h:HX B φ τ H H'):RS K B φ σ τ H' where
 f0:=R.f0
 s0:=R.s0
 ext:=fun a o e n=>by
  by_cases s:SA B φ τ a
  ·have q:=R.ext a o e n
   rcases s with s | ⟨i,s,hi⟩
   ·exact absurd s n
   ·have en:=R.ent i
    rw[hi] at en
    obtain⟨p,_,e2,e3⟩:=en
    rw[s] at e2;cases e2
    rcases e3 with z | z
    ·exact absurd z n
    ·rw[z] at e;cases e
  ·exact h.keep a o (R.ext a o e n) s
 sst:=h.st
 inj:=R.inj
 ow:=fun i a e z=>R.ow i a e (h.none z)
 len:=R.len
 ent:=fun i=>by
  have en:=R.ent i
  revert en
  cases hi:nth τ i with
  | un=>exact fun _=>trivial
  | fz t=>exact fun⟨v,e,r⟩=>⟨v,e,h.rep (fun a s=>R.sAv s) r⟩
  | ow ts =>
   intro ⟨a,ws,e1,e2,e3,e4,r⟩
   refine⟨a,ws,e1,e2,e3,?_,h.repL (fun a s=>R.sAv s) r⟩
   by_cases s:SA B φ τ a
   ·rcases s with s | ⟨j,s,hj⟩
    ·exact absurd e3 (R.f0 a (R.s0 a s))
    ·have:=R.inj i j a ts hi e2 s
     subst this
     rw[hi] at hj;cases hj
   ·exact h.keep a _ e4 s
  | st=>exact fun z=>z
  | ob a=>exact fun z=>z
  | sc ns =>
   intro ⟨a,e,l,q,tb⟩
   refine⟨a,e,l,?_,tb.hx R h⟩
   rcases q with ⟨o,q⟩ | q
   ·exact .inl ⟨o,h.keep a _ q (aG R q)⟩
   ·exact .inr q
 gh:=fun p hp=>h.rep (fun a s=>R.sAv s) (R.gh p hp)
end
end L2
namespace L2
open PySem PySem.Spec PyProof.Rows
abbrev DE:=TSt→(Tr→Prop)→Prop
abbrev DT:=TSt→(Bool→Prop)→Prop
abbrev DA:=TSt→(List Tr→Prop)→Prop
structure xb0 where
 nx:TSt→Prop
 rt:Tr→Prop
 bk:TSt→Prop:=fun _=>False
 ct:TSt→Prop:=fun _=>False
abbrev DS:=xb0→TSt→Prop
abbrev DG:=Tr→TSt→(TSt→Prop)→Prop
abbrev DGs:=List Tr→TSt→(TSt→Prop)→Prop
def OkE (K:PySem.W.Frag)(b:Bool)(te:TE)(d:DE):Prop:=∀(B:FB) (φ:Phi) (σ:St) (τ:TSt) (H:Hp) (Q:VK) (KK:Tr→Prop),RS K B φ σ τ H→d τ KK →
 (∀t v H',HX B φ τ H H'→KK t→Rep (AvB b B φ τ) H' t v→Q v H')→te σ H Q
def OkF (K:PySem.W.Frag)(te:TE)(d:DE):Prop:=∀(B:FB) (φ:Phi) (σ:St) (τ:TSt) (H:Hp) (Q:VK) (KK:Tr→Prop),RS K B φ σ τ H→d τ KK →
 (∀ts a ws H',HX B φ τ H H'→KK (.lst ts)→H a=none→H' a=some (.lst ws)→zM (fun c=>Av B φ c∨c=a) H' ts ws→Q (.ref a) H')→te σ H Q
def OkT (K:PySem.W.Frag)(t:TT)(d:DT):Prop:=∀(B:FB) (φ:Phi) (σ:St) (τ:TSt) (H:Hp) (Q:Bool→Hp→Prop) (KK:Bool→Prop),RS K B φ σ τ H→d τ KK →
 (∀b H',HX B φ τ H H'→KK b→Q b H')→t σ H Q
def OkA (K:PySem.W.Frag)(b:Bool)(n:Nat)(ta:TA)(d:DA):Prop:=∀(B:FB) (φ:Phi) (σ:St) (τ:TSt) (H:Hp) (Q:List V→Hp→Prop) (KK:List Tr→Prop),RS K B φ σ τ H→d τ KK →
 (∀ts vs H',HX B φ τ H H'→KK ts→ts.length=n→zM (AvB b B φ τ) H' ts vs→Q vs H')→ta σ H Q
def HXA (B:FB)(φ:Phi)(H H':Hp):Prop:=∀a o,H a=some o→¬Av B φ a→H' a=some o
def OkG (K:PySem.W.Frag)(g:TG)(d:DG):Prop:=∀(B:FB) (φ:Phi) (σ:St) (τ:TSt) (H:Hp) (t:Tr) (v:V) (Q:St→Hp→Prop) (KK:TSt→Prop),RS K B φ σ τ H→Rep (Av B φ) H t v→d t τ KK →
 (∀ φ' σ' τ' H',RS K B φ' σ' τ' H'→(∀a,Av B φ' a→Av B φ a)→HXA B φ H H'→KK τ'→Q σ' H')→g v σ H Q
def FrL (F:Addr→Prop)(H H':Hp)(t:Tr)(v:V):Prop:=∃a ts ws,v=.ref a∧t=.lst ts∧H a=none∧H' a=some (.lst ws)∧zM (fun c=>F c∨c=a) H' ts ws
structure pE (B:FB)(H:Hp):Prop where
 ext:∀a o,B.H0 a=some o→¬B.S0 a→H a=some o
 st:∀a,B.S0 a→nZ a H
structure EOk (K:PySem.W.Frag)(B:FB)(fr:Bool)(E:Ends)(G:xb0):Prop where
 nx:∀ φ σ τ H,RS K B φ σ τ H→G.nx τ→E.nx σ H
 bk:∀ φ σ τ H,RS K B φ σ τ H→G.bk τ→E.bk σ H
 ct:∀ φ σ τ H,RS K B φ σ τ H→G.ct τ→E.ct σ H
 rt:∀t v H,Rep B.F0 H t v→pE B H→G.rt t→(fr=true→FrL B.F0 B.H0 H t v)→E.rt v H
def OkS (K:PySem.W.Frag)(fr:Bool)(T:TS)(D:DS):Prop:=∀(B:FB) (φ:Phi) (σ:St) (τ:TSt) (H:Hp) (E:Ends) (G:xb0),RS K B φ σ τ H→D G τ→EOk K B fr E G→T E σ H
section
variable {K:PySem.W.Frag} {B:FB} {φ:Phi} {σ:St} {τ:TSt} {H H' H'':Hp}
theorem RS.extB (R:RS K B φ σ τ H):pE B H:=⟨R.ext,fun a s=>R.sst a (.inl s)⟩
theorem xi9 (R:RS K B φ σ τ H)(h:Rep (AvB b B φ τ) H' t v):Rep (Wk B φ τ) H' t v:=by
 cases b with
 | true=>exact yz (fun a o e n=>⟨e,fun w=>n (R.wAv w)⟩) t v h
 | false=>exact h
theorem xhY (R:RS K B φ σ τ H)(h:zM (AvB b B φ τ) H' t v):zM (Wk B φ τ) H' t v:=by
 cases b with
 | true=>exact yj (fun a o e n=>⟨e,fun w=>n (R.wAv w)⟩) t v h
 | false=>exact h
theorem OkF.e (h:OkF K te d):OkE K true te d:=fun B φ σ τ H Q KK R hd q=>h B φ σ τ H Q KK R hd fun ts a ws H' x k e e' r=>q _ _ H' x k ⟨a,ws,rfl,fun z=>R.dom z e,e',yj (fun c o e n=>⟨e,fun z=>n (.inl z)⟩) _ _ r⟩
def nX (i:Nat):DE:=fun τ KK=>match nth τ i with | .fz t=>KK t | _=>False
def xf8 (i:Nat):DE:=fun τ KK=>match nth τ i with | .fz t=>KK t | .ow ts=>KK (.lst ts) | _=>False
def dC (t:Tr):DE:=fun _ KK=>KK t
theorem xa:OkE K true (sZ i) (nX i):=fun B φ σ τ H Q KK R hd q=>by
 have en:=R.ent i
 unfold nX at hd
 revert en hd
 cases nth τ i with
 | fz t=>exact fun k ⟨v,e,r⟩=>⟨v,e,q t v H (HX.refl R) k r⟩
 | _=>exact fun z _=>z.elim
theorem oF (R:RS K B φ σ τ H)(hi:nth τ i=.ow ts)(e2:φ i=some a)(e3:B.H0 a=none):¬Wk B φ τ a:=fun z=>by
 rcases z with z | z | ⟨j,z,hj⟩
 ·exact R.f0 a z e3
 ·exact R.f0 a (R.s0 a z) e3
 ·have:=R.inj i j a ts hi e2 z
  subst this
  rw[hi] at hj;cases hj
theorem kg:OkE K false (sZ i) (xf8 i):=fun B φ σ τ H Q KK R hd q=>by
 have en:=R.ent i
 unfold xf8 at hd
 revert en hd
 cases hi:nth τ i with
 | fz t=>exact fun k ⟨v,e,r⟩=>⟨v,e,q t v H (HX.refl R) k (xi9 (b:=true) R r)⟩
 | ow ts =>
  intro k ⟨a,ws,e1,e2,e3,e4,r⟩
  exact⟨_,e1,q _ _ H (HX.refl R) k ⟨a,ws,rfl,oF R hi e2 e3,e4,xhY (b:=true) R r⟩⟩
 | _=>exact fun z _=>z.elim
theorem vp (h:bS t=some v:=by rfl):OkE K true (tC v) (dC t):=fun B φ σ τ H Q KK R hd q=>q t v H (HX.refl R) hd (vd h)
def d2 (f:Tr→Tr→(Tr→Prop)→Prop)(da db:DE):DE:=fun τ KK=>da τ fun x=>db τ fun y=>f x y KK
def OpS (r:R2)(f:Tr→Tr→(Tr→Prop)→Prop):Prop:=∀(F G:Addr→Prop) (H:Hp) (x y:V) (t u:Tr) (KK:Tr→Prop) (Q:VK),Rep F H t x→Rep G H u y→f t u KK→(∀w v,bS w=some v→KK w→Q v H)→r x y H Q
theorem xh (hr:OpS r f)(ha:OkE K b ta da)(hb:OkE K c tb db):OkE K true (tOp r ta tb) (d2 f da db):=fun B φ σ τ H Q KK R hd q =>
 ha B φ σ τ H _ _ R hd fun t v H1 x1 k1 r1=>hb B φ σ τ H1 _ _ (R.hx x1) k1 fun u w H2 x2 k2 r2 =>
  hr _ _ H2 v w t u KK Q (x2.rep (fun a s=>R.sB s) r1) r2 k2 fun z v' e k=>q z v' H2 (x1.trans x2) k (vd e)
def fI (C:Int→Int→Prop)(g:Int→Int→Tr)(x y:Tr)(KK:Tr→Prop):Prop:=match x,y with | .int i,.int j=>C i j∧KK (g i j) | _,_=>False
def fI0 (g:Int→Int→Tr)(x y:Tr)(KK:Tr→Prop):Prop:=match x,y with | .int i,.int j=>KK (g i j) | _,_=>False
theorem xfN (h:∀i j,bS (g' i j)=some (g i j)):OpS (rI C g) (fI C g'):=by
 intro F G H x y t u KK Q r1 r2 hf q
 unfold fI at hf
 split at hf
 ·rename_i i j
  cases (show x=.int i from r1);cases (show y=.int j from r2)
  exact⟨i,j,rfl,rfl,hf.1,q _ _ (h i j) hf.2⟩
 ·exact hf.elim
theorem oi (h:∀i j,bS (g' i j)=some (g i j)):OpS (rI0 g) (fI0 g'):=by
 intro F G H x y t u KK Q r1 r2 hf q
 unfold fI0 at hf
 split at hf
 ·rename_i i j
  cases (show x=.int i from r1);cases (show y=.int j from r2)
  exact⟨i,j,rfl,rfl,q _ _ (h i j) hf⟩
 ·exact hf.elim
abbrev xjp:=fI0 fun i j=>.int (i+j)
abbrev xjo:=fI0 fun i j=>.int (i-j)
abbrev fLe:=fI0 fun i j=>.bl (decide (i≤j))
abbrev fGt:=fI0 fun i j=>.bl (decide (j<i))
theorem uu:OpS (rI0 fun i j=>.int (i+j)) xjp:=oi fun _ _=>rfl
theorem zQ:OpS (rI0 fun i j=>.int (i-j)) xjo:=oi fun _ _=>rfl
theorem jo:OpS (rI0 fun i j=>.bl (decide (i≤j))) fLe:=oi fun _ _=>rfl
theorem cD:OpS (rI0 fun i j=>.bl (decide (j<i))) fGt:=oi fun _ _=>rfl
def Bd (i:Int):Prop:=i.natAbs<2 ^ 2000
theorem cj (h1:-(10 ^ 100)≤i)(h2:i≤10 ^ 100):Bd i:=by
 have:i.natAbs≤10 ^ 100:=by omega
 exact xlA this (by decide +kernel)
theorem log2_lt_of (h:n<2 ^ k)(hk:0<k):n.log2<k:=by
 by_cases h0:n=0
 ·subst h0;simpa using hk
 ·exact(Nat.log2_lt h0).mpr h
theorem Bd.bits (h:Bd i):Builtin.Int.intBits i≤2000:=by
 unfold Builtin.Int.intBits
 split
 ·exact xlJ _
 ·have:=log2_lt_of h (by decide)
  omega
def CM (i j:Int):Prop:=Bd i∧Bd j
theorem CM.ok (h:CM i j):IntMulOk i j:=PyProof.Rows.mulOk_of_bits h.1.bits h.2.bits (by decide)
section
variable {X:Cx}
theorem xP:OpR X (binaryOp .Mult) (rI CM fun i j=>.int (i*j)):=opI fun _ _ _ _ _ _ _ hc q=>mul_int q hc.ok
def CDv (_i j:Int):Prop:=j≠0∧Bd j
theorem jq:OpR X (binaryOp .FloorDiv) (rI CDv fun i j=>.int (i.fdiv j)):=opI fun i j _ _ _ _ _ hc q =>
 floordiv_int hc.1 q (.inl (PyProof.noPylong_of_log2 (Nat.lt_trans (log2_lt_of hc.2 (by decide)) (by decide))))
end
abbrev xjj:=fI CM fun i j=>.int (i*j)
abbrev xjq:=fI CDv fun i j=>.int (i.fdiv j)
abbrev xjc:=fI (fun _ j=>j≠0) fun i j=>.int (i.fmod j)
theorem x_:OpS (rI CM fun i j=>.int (i*j)) xjj:=xfN fun _ _=>rfl
theorem dz:OpS (rI CDv fun i j=>.int (i.fdiv j)) xjq:=xfN fun _ _=>rfl
theorem xd2:OpS (rI (fun _ j=>j≠0) fun i j=>.int (i.fmod j)) xjc:=xfN fun _ _=>rfl
def d1 (f:Tr→(Tr→Prop)→Prop)(da:DE):DE:=fun τ KK=>da τ fun x=>f x KK
def xiT (x:Tr)(KK:Tr→Prop):Prop:=match x with | .int i=>KK (.int (-i)) | _=>False
theorem wo (ha:OkE K b ta da):OkE K true (tUn (rU fun i=>.int (-i)) ta) (d1 xiT da):=fun B φ σ τ H Q KK R hd q =>
 ha B φ σ τ H _ _ R hd fun t v H1 x1 k1 r1=>by
  cases t with
  | int i=>cases (show v=.int i from r1);exact⟨i,rfl,q _ _ H1 x1 k1 rfl⟩
  | _=>exact k1.elim
def xe2:Tr→Bool
 | .non=>true
 | _=>false
theorem mZ (r:Rep F H t v):decide (v=.non)=xe2 t:=by
 cases t with
 | non=>cases (show v=.non from r);rfl
 | bl b=>cases (show v=.bl b from r);rfl
 | int b=>cases (show v=.int b from r);rfl
 | str b=>cases (show v=.str b from r);rfl
 | emp=>obtain⟨a,e,_⟩:=r;subst e;rfl
 | tup ts=>obtain⟨a,ws,e,_⟩:=r;subst e;rfl
 | lst ts=>obtain⟨a,ws,e,_⟩:=r;subst e;rfl
theorem oW (ha:OkE K b ta da):OkE K true (xiy ta) (d1 (fun x KK=>KK (.bl (xe2 x))) da):=fun B φ σ τ H Q KK R hd q =>
 ha B φ σ τ H _ _ R hd fun t v H1 x1 k1 r1=>by
  show Q (.bl (decide (v=.non))) H1
  rw[mZ r1];exact q _ _ H1 x1 k1 rfl
theorem xeB (ha:OkE K b ta da):OkE K true (xgX ta) (d1 (fun x KK=>KK (.bl (!xe2 x))) da):=fun B φ σ τ H Q KK R hd q =>
 ha B φ σ τ H _ _ R hd fun t v H1 x1 k1 r1=>by
  show Q (.bl (!decide (v=.non))) H1
  rw[mZ r1];exact q _ _ H1 x1 k1 rfl
def fB (x:Tr)(KK:Bool→Prop):Prop:=match x with | .bl b=>KK b | _=>False
def xhD (d:DE):DT:=fun τ KK=>d τ fun x=>fB x KK
theorem yG (ha:OkE K b ta da):OkT K (tB ta) (xhD da):=fun B φ σ τ H Q KK R hd q =>
 ha B φ σ τ H _ _ R hd fun t v H1 x1 k1 r1=>by
  cases t with
  | bl i=>cases (show v=.bl i from r1);exact⟨i,rfl,q _ H1 x1 k1⟩
  | _=>exact k1.elim
theorem xr (ha:OkE K b ta da):OkT K (xfh ta) (xhD da):=yG ha
def xiN (a b:DT):DT:=fun τ KK=>a τ fun c=>if c=true then b τ KK else KK false
def dOr (a b:DT):DT:=fun τ KK=>a τ fun c=>if c=true then KK true else b τ KK
def xje (a:DT):DT:=fun τ KK=>a τ fun c=>KK (!c)
theorem k7 (ha:OkT K ta da)(hb:OkT K tb db):OkT K (xiA ta tb) (xiN da db):=fun B φ σ τ H Q KK R hd q =>
 ha B φ σ τ H _ _ R hd fun c H1 x1 k1=>by
  cases c with
  | true=>exact lV (hb B φ σ τ H1 _ _ (R.hx x1) k1 fun d H2 x2 k2=>q d H2 (x1.trans x2) k2)
  | false=>exact bV (q false H1 x1 k1)
theorem uT (ha:OkT K ta da)(hb:OkT K tb db):OkT K (tOr ta tb) (dOr da db):=fun B φ σ τ H Q KK R hd q =>
 ha B φ σ τ H _ _ R hd fun c H1 x1 k1=>by
  cases c with
  | false=>exact bV (hb B φ σ τ H1 _ _ (R.hx x1) k1 fun d H2 x2 k2=>q d H2 (x1.trans x2) k2)
  | true=>exact lV (q true H1 x1 k1)
theorem y8 (ha:OkT K ta da):OkT K (xiC ta) (xje da):=fun B φ σ τ H Q KK R hd q =>
 ha B φ σ τ H _ _ R hd fun c H1 x1 k1=>q (!c) H1 x1 k1
def xhO (a b:DE):DE:=fun τ KK=>a τ fun x=>fB x fun c=>if c=true then b τ KK else KK (.bl false)
def xjt (a b:DE):DE:=fun τ KK=>a τ fun x=>fB x fun c=>if c=true then KK (.bl true) else b τ KK
def xh4 (a:DE):DE:=fun τ KK=>a τ fun x=>fB x fun c=>KK (.bl (!c))
theorem rP (ha:OkE K b ta da)(hb:OkE K c tb db):OkE K c (xgQ ta tb) (xhO da db):=fun B φ σ τ H Q KK R hd q =>
 ha B φ σ τ H _ _ R hd fun t v H1 x1 k1 r1=>by
  cases t with
  | bl i =>
   cases (show v=.bl i from r1)
   refine⟨i,rfl,?_⟩
   cases i with
   | true=>exact lV (hb B φ σ τ H1 _ _ (R.hx x1) k1 fun d w H2 x2 k2 r2=>q d w H2 (x1.trans x2) k2 r2)
   | false=>exact bV (q _ _ H1 x1 k1 (vd rfl))
  | _=>exact k1.elim
theorem xd9 (ha:OkE K b ta da)(hb:OkE K c tb db):OkE K c (xi2 ta tb) (xjt da db):=fun B φ σ τ H Q KK R hd q =>
 ha B φ σ τ H _ _ R hd fun t v H1 x1 k1 r1=>by
  cases t with
  | bl i =>
   cases (show v=.bl i from r1)
   refine⟨i,rfl,?_⟩
   cases i with
   | false=>exact bV (hb B φ σ τ H1 _ _ (R.hx x1) k1 fun d w H2 x2 k2 r2=>q d w H2 (x1.trans x2) k2 r2)
   | true=>exact lV (q _ _ H1 x1 k1 (vd rfl))
  | _=>exact k1.elim
theorem xey (ha:OkE K b ta da):OkE K true (xgL ta) (xh4 da):=fun B φ σ τ H Q KK R hd q =>
 ha B φ σ τ H _ _ R hd fun t v H1 x1 k1 r1=>by
  cases t with
  | bl i=>cases (show v=.bl i from r1);exact⟨i,rfl,q _ _ H1 x1 k1 rfl⟩
  | _=>exact k1.elim
def xjr (c:DT)(a b:DE):DE:=fun τ KK=>c τ fun k=>if k=true then a τ KK else b τ KK
theorem nr (hc:OkT K tc dc)(ha:OkE K c ta da)(hb:OkE K c tb db):OkE K c (tIf tc ta tb) (xjr dc da db):=fun B φ σ τ H Q KK R hd q =>
 hc B φ σ τ H _ _ R hd fun k H1 x1 k1=>by
  cases k with
  | true=>exact lV (ha B φ σ τ H1 _ _ (R.hx x1) k1 fun d w H2 x2 k2 r2=>q d w H2 (x1.trans x2) k2 r2)
  | false=>exact bV (hb B φ σ τ H1 _ _ (R.hx x1) k1 fun d w H2 x2 k2 r2=>q d w H2 (x1.trans x2) k2 r2)
def xfZ (f f':Tr→Tr→(Tr→Prop)→Prop)(da db dc:DE):DE:=fun τ KK=>da τ fun x=>db τ fun y=>f x y fun z=>fB z fun k=>if k=true then dc τ fun w=>f' y w KK else KK (.bl false)
theorem g9 (hr:OpS r f)(hr':OpS r' f')(ha:OkE K b1 ta da)(hb:OkE K b2 tb db)(hc:OkE K b3 tc dc) :
  OkE K true (xdS r r' ta tb tc) (xfZ f f' da db dc):=fun B φ σ τ H Q KK R hd q =>
 ha B φ σ τ H _ _ R hd fun t v H1 x1 k1 r1=>hb B φ σ τ H1 _ _ (R.hx x1) k1 fun u w H2 x2 k2 r2 =>
  hr _ _ H2 v w t u _ _ (x2.rep (fun a s=>R.sB s) r1) r2 k2 fun z v' e k=>by
   cases z with
   | bl i =>
    cases e
    refine⟨i,rfl,?_⟩
    cases i with
    | true=>exact lV (hc B φ σ τ H2 _ _ (R.hx (x1.trans x2)) k fun w3 v3 H3 x3 k3 r3=>hr' _ _ H3 w v3 u w3 KK Q (x3.rep (fun a s=>R.sB s) r2) r3 k3 fun z' v'' e' k'=>q z' v'' H3 ((x1.trans x2).trans x3) k' (vd e'))
    | false=>exact bV (q _ _ H2 (x1.trans x2) k (vd rfl))
   | _=>exact k.elim
def xdR:DA:=fun _ KK=>KK []
def rp (a:DE)(r:DA):DA:=fun τ KK=>a τ fun x=>r τ fun xs=>KK (x::xs)
theorem uP:OkA K b 0 bW xdR:=fun B φ σ τ H Q KK R hd q=>q [] [] H (HX.refl R) hd rfl rfl
theorem xI (he:OkE K b te de)(ha:OkA K b n ta da):OkA K b (n+1) (uo te ta) (rp de da):=fun B φ σ τ H Q KK R hd q =>
 he B φ σ τ H _ _ R hd fun t v H1 x1 k1 r1=>ha B φ σ τ H1 _ _ (R.hx x1) k1 fun ts vs H2 x2 k2 l2 r2=>q (t::ts) (v::vs) H2 (x1.trans x2) k2 (by rw[xkM,l2]) ⟨v,vs,rfl,x2.rep (fun a s=>R.sB s) r1,r2⟩
def xjg (a:DA):DE:=fun τ KK=>a τ fun xs=>KK (.tup xs)
def xf3 (a:DA):DE:=fun τ KK=>a τ fun xs=>KK (.lst xs)
theorem dU (hp:H p=none)(r:Rep F H t v):Rep F (upd H p o) t v:=yz (fun a u e n=>⟨by rw[xW (xF e hp)];exact e,n⟩) t v r
theorem u_ (hp:H p=none)(r:zM F H t v):zM F (upd H p o) t v:=yj (fun a u e n=>⟨by rw[xW (xF e hp)];exact e,n⟩) t v r
theorem jG (hp:H p=none)(r:zM F H t v):zM (fun c=>F c∨c=p) (upd H p o) t v:=yj (fun a u e n=>⟨by rw[xW (xF e hp)];exact e,fun z=>z.elim n (xF e hp)⟩) t v r
theorem yu (ha:OkA K b n ta da)(hn:n≤sizeLine:=by decide):OkE K b (xio ta) (xjg da):=fun B φ σ τ H Q KK R hd q =>
 ha B φ σ τ H _ _ R hd fun ts vs H1 x1 k1 l1 r1=>⟨by rw[←r1.len,l1];exact hn,fun p hp =>
  q _ _ _ (x1.trans (HX.new (R.hx x1) hp _)) k1 ⟨p,vs,rfl,fun z=>(R.hx x1).domB z hp,xZ,u_ hp r1⟩⟩
theorem hV (ha:OkA K true n ta da)(hn:n≤sizeLine:=by decide):OkF K (xhX ta) (xf3 da):=fun B φ σ τ H Q KK R hd q =>
 ha B φ σ τ H _ _ R hd fun ts vs H1 x1 k1 l1 r1=>⟨by rw[←r1.len,l1];exact hn,fun p hp =>
  q ts p vs _ (x1.trans (HX.new (R.hx x1) hp _)) k1 (x1.none hp) xZ (jG hp r1)⟩
theorem wa (ha:OkA K b n ta da)(hn:n≤sizeLine:=by decide):OkE K b (xhX ta) (xf3 da):=fun B φ σ τ H Q KK R hd q =>
 ha B φ σ τ H _ _ R hd fun ts vs H1 x1 k1 l1 r1=>⟨by rw[←r1.len,l1];exact hn,fun p hp =>
  q _ _ _ (x1.trans (HX.new (R.hx x1) hp _)) k1 ⟨p,vs,rfl,fun z=>(R.hx x1).domB z hp,xZ,u_ hp r1⟩⟩
end
end L2
namespace L2
open PySem PySem.Spec PyProof.Rows
def getT:List α→Nat→Option α
 | [],_=>none
 | x::_,0=>some x
 | _::r,n+1=>getT r n
theorem rH:∀(l:List α) (n:Nat),getT l n=l[n]?
 | [],_=>by simp[getT]
 | _::_,0=>by simp[getT]
 | _::r,n+1=>by simp[getT,rH r n]
def atT (ts:List α):Int→Option α
 | .ofNat n=>getT ts n
 | .negSucc n=>if n<ts.length then getT ts (ts.length-1-n) else none
theorem xer (ts:List α)(i:Int):atT ts i=atI ts i:=by
 unfold atI ixN
 cases i with
 | ofNat n =>
  show getT ts n=_
  rw[rH]
  have h0:(0:Int)≤Int.ofNat n:=xkb n
  rw[if_pos h0]
  by_cases h:(Int.ofNat n)<(ts.length:Int)
  ·rw[if_pos h];rfl
  ·rw[if_neg h]
   have:ts.length≤n:=by
    have h':¬((n:Int)<(ts.length:Int)):=h
    omega
   rw[xkE this];rfl
 | negSucc n =>
  show(if n<ts.length then getT ts (ts.length-1-n) else none)=_
  have h0:¬(0:Int)≤Int.negSucc n:=by omega
  rw[if_neg h0]
  by_cases h:n<ts.length
  ·rw[if_pos h,rH,if_pos (by omega)]
   show ts[ts.length-1-n]? = ts[(Int.negSucc n+(ts.length:Int)).toNat]?
   congr 1
   omega
  ·rw[if_neg h,if_neg (by omega)];rfl
section
variable {K:PySem.W.Frag} {B:FB} {φ:Phi} {σ:St} {τ:TSt} {H H' H'':Hp}
theorem zM.at (r:zM F H ts ws)(h:atT ts i=some t):∃w,atI ws i=some w∧Rep F H t w:=by
 rw[xer] at h
 unfold atI at h ⊢
 rw[←r.len]
 cases e:ixN ts.length i with
 | none=>rw[e] at h;cases h
 | some j =>
  rw[e] at h
  exact r.getT h
def lU (o:Option Tr)(KK:Tr→Prop):Prop:=match o with | some t=>KK t | none=>False
def fIx (x y:Tr)(KK:Tr→Prop):Prop:=match x,y with | .tup ts,.int i=>lU (atT ts i) KK | .lst ts,.int i=>lU (atT ts i) KK | _,_=>False
theorem kK (ha:OkE K b ta da)(hb:OkE K c tb db):OkE K b (tOp (rIx K) ta tb) (d2 fIx da db):=fun B φ σ τ H Q KK R hd q =>
 ha B φ σ τ H _ _ R hd fun t v H1 x1 k1 r1=>hb B φ σ τ H1 _ _ (R.hx x1) k1 fun u w H2 x2 k2 r2=>by
  have r1':=x2.rep (fun a s=>R.sB s) r1
  unfold fIx at k2
  split at k2
  ·rename_i ts i
   obtain⟨a,ws,e,n,ha',rl⟩:=r1'
   cases (show w=.int i from r2)
   subst e
   cases e:atT ts i with
   | none=>rw[e] at k2;exact k2.elim
   | some z =>
    rw[e] at k2
    obtain⟨y,e1,e2⟩:=rl.at e
    exact .inr (.inl ⟨a,ws,i,y,rfl,rfl,SqT.of ha',e1,q z y H2 (x1.trans x2) k2 e2⟩)
  ·rename_i ts i
   obtain⟨a,ws,e,n,ha',rl⟩:=r1'
   cases (show w=.int i from r2)
   subst e
   cases e:atT ts i with
   | none=>rw[e] at k2;exact k2.elim
   | some z =>
    rw[e] at k2
    obtain⟨y,e1,e2⟩:=rl.at e
    exact .inl ⟨a,ws,i,y,rfl,rfl,SqL.of ha',e1,q z y H2 (x1.trans x2) k2 e2⟩
  ·exact k2.elim
def xjl (ts:List Tr)(y:Tr)(KK:Tr→Prop):Prop:=match y with | .int k=>lU (atT ts k) KK | _=>False
def xiz (i:Nat)(db:DE):DE:=fun τ KK=>match nth τ i with | .ow ts=>db τ fun y=>xjl ts y KK | _=>False
theorem v8 (R:RS K B φ σ τ H)(x:HX B φ τ H H')(hi:nth τ i=.ow ts)(e1:σ[i]? = some (some (.ref a))):∃ws,H' a=some (.lst ws)∧zM (Av B φ) H' ts ws∧φ i=some a∧B.H0 a=none:=by
 have en2:=(R.hx x).ent i
 rw[hi] at en2
 obtain⟨a',ws',e1',e2,e3,e4',r'⟩:=en2
 rw[e1] at e1';cases e1'
 exact⟨ws',e4',r',e2,e3⟩
theorem cS (hb:OkE K c tb db):OkE K true (tOp (rIx K) (sZ i) tb) (xiz i db):=fun B φ σ τ H Q KK R hd q=>by
 have en:=R.ent i
 unfold xiz at hd
 revert en hd
 cases hi:nth τ i with
 | ow ts =>
  intro hd ⟨a,ws,e1,e2,e3,e4,r⟩
  refine⟨_,e1,hb B φ σ τ H _ _ R hd fun u w H2 x2 k2 r2=>?_⟩
  obtain⟨ws',e4',r',_⟩:=v8 R x2 hi e1
  cases u with
  | int k =>
   cases (show w=.int k from r2)
   have k2:lU (atT ts k) KK:=k2
   cases e:atT ts k with
   | none=>rw[e] at k2;exact k2.elim
   | some z =>
    rw[e] at k2
    obtain⟨y,f1,f2⟩:=r'.at e
    exact .inl ⟨a,ws',k,y,rfl,rfl,SqL.of e4',f1,q z y H2 x2 k2 f2⟩
  | _=>exact k2.elim
 | _=>exact fun z _=>z.elim
abbrev DO:=TSt→(Option Int→Prop)→Prop
def OkO (K:PySem.W.Frag)(t:TO)(d:DO):Prop:=∀(B:FB) (φ:Phi) (σ:St) (τ:TSt) (H:Hp) (Q:Option Int→Hp→Prop) (KK:Option Int→Prop),RS K B φ σ τ H→d τ KK→(∀o H',HX B φ τ H H'→KK o→Q o H')→t σ H Q
def bN:DO:=fun _ KK=>KK none
def xfA (d:DE):DO:=fun τ KK=>d τ fun x=>match x with | .int i=>KK (some i) | _=>False
theorem yU:OkO K xcd bN:=fun B φ σ τ H Q KK R hd q=>q none H (HX.refl R) hd
theorem yT (h:OkE K b te d):OkO K (xf7 te) (xfA d):=fun B φ σ τ H Q KK R hd q =>
 h B φ σ τ H _ _ R hd fun t v H1 x1 k1 r1=>by
  cases t with
  | int i=>cases (show v=.int i from r1);exact⟨i,rfl,q _ H1 x1 k1⟩
  | _=>exact k1.elim
def fV (xs:List α)(lo hi:Option Int):List α:=(xs.drop (HT.sIx xs.length 0 lo)).take (HT.sIx xs.length xs.length hi-HT.sIx xs.length 0 lo)
theorem zM.cut (r:zM F H ts ws)(lo hi:Option Int):zM F H (fV ts lo hi) (lI ws lo hi):=by
 unfold fV lI
 rw[←r.len]
 exact zI.mpr (kY _ (kU _ (zI.mp r)))
def dSl (d:DE)(dl dh:DO):DE:=fun τ KK=>d τ fun x=>dl τ fun lo=>dh τ fun hi=>match x with | .tup ts=>KK (.tup (fV ts lo hi)) | .lst ts=>KK (.lst (fV ts lo hi)) | _=>False
def xji (d:DE)(dl dh:DO):DE:=fun τ KK=>d τ fun x=>dl τ fun lo=>dh τ fun hi=>match x with | .lst ts=>KK (.lst (fV ts lo hi)) | _=>False
theorem xem {b:Bool}{te:TE}{tl th:TO}{d:DE}{dl dh:DO}(h:OkE K b te d)(hl:OkO K tl dl)(hh:OkO K th dh):OkE K b (tSl (xgx K) te tl th) (xji d dl dh):=fun B φ σ τ H Q KK R hd q =>
 h B φ σ τ H _ _ R hd fun t v H1 x1 k1 r1=>hl B φ σ τ H1 _ _ (R.hx x1) k1 fun lo H2 x2 k2=>hh B φ σ τ H2 _ _ (R.hx (x1.trans x2)) k2 fun hi H3 x3 k3=>by
  have r3:=(x2.trans x3).rep (fun a s=>R.sB s) r1
  have x:=(x1.trans x2).trans x3
  cases t with
  | lst ts =>
   obtain⟨a,ws,e,n,ha,rl⟩:=r3
   exact⟨a,ws,e,SqL.of ha,fun p hp=>q _ _ _ (x.trans (HX.new (R.hx x) hp _)) k3 ⟨p,_,rfl,fun z=>(R.hx x).domB z hp,xZ,u_ hp (rl.cut lo hi)⟩⟩
  | _=>exact k3.elim
def xi_ (i:Nat)(dl dh:DO):DE:=fun τ KK=>match nth τ i with | .ow ts=>dl τ fun lo=>dh τ fun hi=>KK (.lst (fV ts lo hi)) | _=>False
theorem xaF {i:Nat}{tl th:TO}{dl dh:DO}(hl:OkO K tl dl)(hh:OkO K th dh):OkF K (tSl (xgx K) (sZ i) tl th) (xi_ i dl dh):=fun B φ σ τ H Q KK R hd q=>by
 have en:=R.ent i
 unfold xi_ at hd
 revert en hd
 cases hi:nth τ i with
 | ow ts =>
  intro hd ⟨a,ws,e1,e2,e3,e4,r⟩
  refine⟨_,e1,hl B φ σ τ H _ _ R hd fun lo H2 x2 k2=>hh B φ σ τ H2 _ _ (R.hx x2) k2 fun hi' H3 x3 k3=>?_⟩
  have x:=x2.trans x3
  obtain⟨ws',e4',r',_⟩:=v8 R x hi e1
  exact⟨a,ws',rfl,SqL.of e4',fun p hp=>q _ _ _ _ (x.trans (HX.new (R.hx x) hp _)) k3 (x.none hp) xZ (jG hp (r'.cut lo hi'))⟩
 | _=>exact fun z _=>z.elim
def xh5 (x y:Tr)(KK:Tr→Prop):Prop:=match x,y with | .lst ts,.lst us=>ts.length+us.length≤sizeLine∧KK (.lst (ts++us)) | _,_=>False
theorem bJ (ha:OkE K true ta da)(hb:OkE K true tb db):OkF K (tOp xhB ta tb) (d2 xh5 da db):=fun B φ σ τ H Q KK R hd q =>
 ha B φ σ τ H _ _ R hd fun t v H1 x1 k1 r1=>hb B φ σ τ H1 _ _ (R.hx x1) k1 fun u w H2 x2 k2 r2=>by
  have r1':=x2.rep (F:=Av B φ) (fun a s=>R.sAv s) r1
  have x:=x1.trans x2
  unfold xh5 at k2
  split at k2
  ·rename_i ts us
   obtain⟨a,ws,e,n,ha',rl⟩:=r1'
   obtain⟨a2,ws2,e2,n2,ha2,rl2⟩:=r2
   exact⟨a,a2,ws,ws2,e,e2,ha',ha2,by rw[←rl.len,←rl2.len];exact k2.1,fun p hp=>q _ _ _ _ (x.trans (HX.new (R.hx x) hp _)) k2.2 (x.none hp) xZ (jG hp (rl.app rl2))⟩
  ·exact k2.elim
def dCB (f:List Tr→(Tr→Prop)→Prop)(da:DA):DE:=fun τ KK=>da τ fun xs=>f xs KK
def CbS (r:List V→Hp→VK→Prop)(f:List Tr→(Tr→Prop)→Prop):Prop:=∀(F:Addr→Prop) (H:Hp) (vs:List V) (ts:List Tr) (KK:Tr→Prop) (Q:VK),zM F H ts vs→f ts KK→(∀w v,bS w=some v→KK w→Q v H)→r vs H Q
theorem yb (hr:CbS r f)(ha:OkA K b n ta da):OkE K true (tCB r ta) (dCB f da):=fun B φ σ τ H Q KK R hd q =>
 ha B φ σ τ H _ _ R hd fun ts vs H1 x1 k1 l1 r1=>hr _ H1 vs ts KK Q r1 k1 fun w v e k=>q w v H1 x1 k (vd e)
theorem vo (h:zM F H [t] vs):∃v,vs=[v]∧Rep F H t v:=by
 obtain⟨w,r,e,h1,h2⟩:=h
 cases (show r=[] from h2)
 exact⟨w,e,h1⟩
theorem xcM (h:zM F H [t,u] vs):∃v w,vs=[v,w]∧Rep F H t v∧Rep F H u w:=by
 obtain⟨w,r,e,h1,h2⟩:=h
 obtain⟨w',e',h3⟩:=vo h2
 subst e'
 exact⟨w,w',e,h1,h3⟩
def xiL (xs:List Tr)(KK:Tr→Prop):Prop:=match xs with | [.tup ts]=>KK (.int ts.length) | [.lst ts]=>KK (.int ts.length) | _=>False
theorem vc:CbS (xeQ K) xiL:=by
 intro F H vs ts KK Q r hf q
 unfold xiL at hf
 split at hf
 ·rename_i ts
  obtain⟨v,rfl,a,ws,e,n,ha,rl⟩:=vo r
  exact⟨a,ws,by rw[e],.inr (SqT.of ha),by rw[←rl.len];exact q _ _ rfl hf⟩
 ·rename_i ts
  obtain⟨v,rfl,a,ws,e,n,ha,rl⟩:=vo r
  exact⟨a,ws,by rw[e],.inl (SqL.of ha),by rw[←rl.len];exact q _ _ rfl hf⟩
 ·exact hf.elim
def xiV (xs:List Tr)(KK:Tr→Prop):Prop:=match xs with | [.int i]=>KK (.int (if i<0 then -i else i)) | _=>False
theorem vD:CbS (fun xs H Q=>∃i,xs=[.int i]∧Q (.int (if i<0 then -i else i)) H) xiV:=by
 intro F H vs ts KK Q r hf q
 unfold xiV at hf
 split at hf
 ·rename_i i
  obtain⟨v,rfl,e⟩:=vo r
  cases (show v=.int i from e)
  exact⟨i,rfl,q _ _ rfl hf⟩
 ·exact hf.elim
def xhr (xs:List Tr)(KK:Tr→Prop):Prop:=match xs with | [.int i,.int j]=>KK (.int (if j>i then j else i)) | _=>False
theorem xbi:CbS (fun xs H Q=>∃i j,xs=[.int i,.int j]∧Q (.int (if j>i then j else i)) H) xhr:=by
 intro F H vs ts KK Q r hf q
 unfold xhr at hf
 split at hf
 ·rename_i i j
  obtain⟨v,w,rfl,e,e'⟩:=xcM r
  cases (show v=.int i from e);cases (show w=.int j from e')
  exact⟨i,j,rfl,q _ _ rfl hf⟩
 ·exact hf.elim
def xhy (xs:List Tr)(KK:Tr→Prop):Prop:=match xs with | [.int i,.int j]=>KK (.int (if j<i then j else i)) | _=>False
theorem xfw:CbS (fun xs H Q=>∃i j,xs=[.int i,.int j]∧Q (.int (if j<i then j else i)) H) xhy:=by
 intro F H vs ts KK Q r hf q
 unfold xhy at hf
 split at hf
 ·rename_i i j
  obtain⟨v,w,rfl,e,e'⟩:=xcM r
  cases (show v=.int i from e);cases (show w=.int j from e')
  exact⟨i,j,rfl,q _ _ rfl hf⟩
 ·exact hf.elim
theorem jK:∀ {ns:List Int} {ws:List V},zM F H (ns.map Tr.int) ws→ws=ns.map V.int
 | [],_,h=>h
 | n::ns,_,⟨w,r,e,h1,h2⟩=>by
  cases (show w=.int n from h1)
  rw[e,jK h2];rfl
theorem rq:∀ {ns:List Bool} {ws:List V},zM F H (ns.map Tr.bl) ws→ws=ns.map V.bl
 | [],_,h=>h
 | n::ns,_,⟨w,r,e,h1,h2⟩=>by
  cases (show w=.bl n from h1)
  rw[e,rq h2];rfl
def xib (xs:List Tr)(KK:Tr→Prop):Prop:=∃ns:List Int,xs=[.lst (ns.map Tr.int)]∧ns≠[]∧∀M,M∈ns→(∀a∈ns,a≤M)→KK (.int M)
theorem xeC:CbS (xfD K) xib:=by
 intro F H vs ts KK Q r hf q
 obtain⟨ns,rfl,h0,h1⟩:=hf
 obtain⟨v,rfl,a,ws,e,n,ha,rl⟩:=vo r
 rw[jK rl] at ha
 exact⟨a,ns,by rw[e],SqL.of ha,h0,fun M h2 h3=>q _ _ rfl (h1 M h2 h3)⟩
def xit (xs:List Tr)(KK:Tr→Prop):Prop:=∃bs:List Bool,xs=[.lst (bs.map Tr.bl)]∧KK (.bl (bs.all id))
theorem fM:CbS (xfL K) xit:=by
 intro F H vs ts KK Q r hf q
 obtain⟨ns,rfl,h1⟩:=hf
 obtain⟨v,rfl,a,ws,e,n,ha,rl⟩:=vo r
 rw[rq rl] at ha
 exact⟨a,ns,by rw[e],SqL.of ha,q _ _ rfl h1⟩
def tyT:Tr→String
 | .non => "NoneType" | .bl _ => "bool" | .int _ => "int" | .str _ => "str" | .emp => "dict" | .tup _ => "tuple" | .lst _ => "list"
theorem xeq (r:Rep F H t v):tyN H v=some (tyT t):=by
 cases t with
 | non=>cases (show v=.non from r);rfl
 | bl b=>cases (show v=.bl b from r);rfl
 | int b=>cases (show v=.int b from r);rfl
 | str b=>cases (show v=.str b from r);rfl
 | emp=>obtain⟨a,e,_,h⟩:=r;subst e;simp only[tyN,h,tyT]
 | tup ts=>obtain⟨a,ws,e,_,h,_⟩:=r;subst e;simp only[tyN,h,tyT]
 | lst ts=>obtain⟨a,ws,e,_,h,_⟩:=r;subst e;simp only[tyN,h,tyT]
def xfY (c:String)(t:Tr):Bool:=match c,t with
 | "int", .int _=>true | "int", .bl _=>true | "bool", .bl _=>true | "str", .str _=>true | "tuple", .tup _=>true | "list", .lst _=>true | "dict", .emp=>true | _,_=>false
theorem bq (h:c∈vj)(t:Tr):mJ (tyT t) c=xfY c t:=by
 simp only[vj,xk5,xlk,xlW] at h
 rcases h with rfl | rfl | rfl | rfl | rfl | rfl<;>cases t<;>rfl
def xjy (c:String)(d:DE):DE:=fun τ KK=>d τ fun x=>KK (.bl (xfY c x))
theorem ve (h:OkE K b te d)(hc:c∈vj:=by decide):OkE K true (tCB xiK (uo te (uo (tC (.ty c)) bW))) (xjy c d):=fun B φ σ τ H Q KK R hd q =>
 h B φ σ τ H _ _ R hd fun t v H1 x1 k1 r1=>⟨v,c,tyT t,rfl,xeq r1,hc,by rw[bq hc];exact q _ _ H1 x1 k1 rfl⟩
def xiq (c c':String)(d:DE):DE:=fun τ KK=>d τ fun x=>KK (.bl (xfY c x || xfY c' x))
theorem xeJ (h:OkE K b te d)(hc:c∈vj:=by decide)(hc':c'∈vj:=by decide) :
  OkE K true (tCB xhi (uo te (uo (xio (uo (tC (.ty c)) (uo (tC (.ty c')) bW))) bW))) (xiq c c' d):=fun B φ σ τ H Q KK R hd q =>
 h B φ σ τ H _ _ R hd fun t v H1 x1 k1 r1=>⟨by show 2≤sizeLine;decide,fun p hp=>⟨v,p,[c,c'],tyT t,rfl,xZ,xeq (dU hp r1),by simp[hc,hc'],by
  have e:[c,c'].any (mJ (tyT t))=(xfY c t || xfY c' t):=by simp[bq hc,bq hc']
  rw[e];exact q _ _ _ (x1.trans (HX.new (R.hx x1) hp _)) k1 rfl⟩⟩
def xd1 (xs:List Tr)(KK:Tr→Prop):Prop:=match xs with | [.tup ts]=>KK (.tup ts) | [.lst ts]=>KK (.tup ts) | _=>False
theorem kG (ha:OkA K b n ta da):OkE K b (tCB (xhl K) ta) (dCB xd1 da):=fun B φ σ τ H Q KK R hd q =>
 ha B φ σ τ H _ _ R hd fun ts vs H1 x1 k1 l1 r1=>by
  unfold xd1 at k1
  split at k1
  ·rename_i ts
   obtain⟨v,rfl,r⟩:=vo r1
   obtain⟨a,ws,e,n,ha,rl⟩:=id r
   exact⟨a,ws,by rw[e],.inr ⟨SqT.of ha,by rw[←e];exact q _ _ H1 x1 k1 r⟩⟩
  ·rename_i ts
   obtain⟨v,rfl,a,ws,e,n,ha,rl⟩:=vo r1
   exact⟨a,ws,by rw[e],.inl ⟨SqL.of ha,fun p hp=>q _ _ _ (x1.trans (HX.new (R.hx x1) hp _)) k1 ⟨p,_,rfl,fun z=>(R.hx x1).domB z hp,xZ,u_ hp rl⟩⟩⟩
  ·exact k1.elim
def xeg (i:Nat):DE:=fun τ KK=>match nth τ i with | .sc ns=>ns.length≤63→KK (.int ns.length) | _=>False
theorem xdv:OkE K true (tCB (xeQ K) (uo (sZ i) bW)) (xeg i):=fun B φ σ τ H Q KK R hd q=>by
 have en:=R.ent i
 unfold xeg at hd
 revert en hd
 cases hi:nth τ i with
 | sc ns =>
  intro hd ⟨a,e,l,so,_⟩
  have sq:SqL K H a (ns.map V.int):=by
   rcases so with ⟨o,h⟩ | h
   ·exact .inl (.inr ⟨o,h⟩)
   ·exact h H
  refine⟨_,e,a,_,rfl,.inl sq,?_⟩
  rw[xkP]
  exact q _ _ H (HX.refl R) (hd l) rfl
 | _=>exact fun z _=>z.elim
def xhZ:DE:=fun _ KK=>KK .emp
theorem xeP:OkE K true xhp xhZ:=fun B φ σ τ H Q KK R hd q=>fun p hp=>q _ _ _ (HX.new R hp _) hd ⟨p,rfl,fun z=>R.dom z hp,xZ⟩
end
end L2
namespace L2
open PySem PySem.Spec PyProof.Rows
abbrev TSp:=List Tr→(Tr→Prop)→Prop
def spT (n:Nat)(st fr:Bool)(sp:TSp):Sp:=fun vs H Q _=>∃(F S:Addr→Prop) (ts:List Tr) (KK:Tr→Prop) (us:List V),
 (match st with | true=>∃p,vs=.ref p::us∧S p | false=>vs=us)∧(∀a,F a→H a≠none)∧(∀a,S a→F a)∧(∀a,S a→nZ a H)∧zM F H ts us∧ts.length=n∧sp ts KK ∧
 ∀t v H',KK t→(∀a o,H a=some o→¬S a→H' a=some o)→(∀a,S a→nZ a H')→Rep F H' t v→(fr=true→FrL F H H' t v)→Q v H'
def xbj (sp:TSp)(da:DA):DE:=fun τ KK=>da τ fun ts=>sp ts KK
def xeh (i:Nat)(sp:TSp)(da:DA):DE:=fun τ KK=>match nth τ i with | .st=>da τ fun ts=>sp ts KK | _=>False
section
variable {K:PySem.W.Frag} {B:FB} {φ:Phi} {σ:St} {τ:TSt} {H H' H'':Hp}
theorem xR (ha:OkA K b n ta da):OkE K b (xgd (spT n false fr sp) ta) (xbj sp da):=fun B φ σ τ H Q KK R hd q =>
 ha B φ σ τ H _ _ R hd fun ts vs H1 x1 k1 l1 r1=>⟨AvB b B φ τ,SA B φ τ,ts,KK,vs,rfl,fun a z=>(R.hx x1).domB z,fun a z=>R.sB z,x1.st,r1,l1,k1,fun t v H' k e s r _=>q t v H' (x1.trans ⟨e,s⟩) k r⟩
theorem xeM (ha:OkA K true n ta da):OkF K (xgd (spT n false true sp) ta) (xbj sp da):=fun B φ σ τ H Q KK R hd q =>
 ha B φ σ τ H _ _ R hd fun ts vs H1 x1 k1 l1 r1=>⟨Av B φ,SA B φ τ,ts,KK,vs,rfl,fun a z=>(R.hx x1).dom z,fun a z=>R.sAv z,x1.st,r1,l1,k1,fun t v H' k e s r f=>by
  obtain⟨a,ts',ws,rfl,rfl,h1,h2,h3⟩:=f rfl
  exact q ts' a ws H' (x1.trans ⟨e,s⟩) k (x1.none h1) h2 h3⟩
theorem yx (ha:OkA K b n ta da):OkE K b (xgd (spT n true fr sp) (uo (sZ i) ta)) (xeh i sp da):=fun B φ σ τ H Q KK R hd q=>by
 have en:=R.ent i
 unfold xeh at hd
 revert en hd
 cases hi:nth τ i with
 | st =>
  intro hd ⟨p,e1,e2,e3⟩
  exact⟨_,e1,ha B φ σ τ H _ _ R hd fun ts vs H1 x1 k1 l1 r1=>⟨AvB b B φ τ,SA B φ τ,ts,KK,vs,⟨p,rfl,.inr ⟨i,e2,hi⟩⟩,fun a z=>(R.hx x1).domB z,fun a z=>R.sB z,x1.st,r1,l1,k1,fun t v H' k e s r _=>q t v H' (x1.trans ⟨e,s⟩) k r⟩⟩
 | _=>exact fun z _=>z.elim
def Phi.del (φ:Phi)(i:Nat):Phi:=fun j=>if j=i then none else φ j
def Phi.put (φ:Phi)(i:Nat)(a:Addr):Phi:=fun j=>if j=i then some a else φ j
theorem wY (h:φ.del i j=some a):j≠i∧φ j=some a:=by
 unfold Phi.del at h
 by_cases e:j=i
 ·rw[if_pos e] at h;cases h
 ·rw[if_neg e] at h;exact⟨e,h⟩
theorem xee (h:j≠i):φ.del i j=φ j:=if_neg h
theorem vY (h:φ.put i a j=some c):(j=i∧c=a)∨(j≠i∧φ j=some c):=by
 unfold Phi.put at h
 by_cases e:j=i
 ·rw[if_pos e] at h;cases h;exact .inl ⟨e,rfl⟩
 ·rw[if_neg e] at h;exact .inr ⟨e,h⟩
theorem og:φ.put i a i=some a:=if_pos rfl
theorem xgD (h:j≠i):φ.put i a j=φ j:=if_neg h
theorem jX (h:Av B (φ.del i) a):Av B φ a:=by
 rcases h with h | ⟨j,h⟩
 ·exact .inl h
 ·exact .inr ⟨j,(wY h).2⟩
theorem gZ (h:Ent K B φ H i o x)(hφ:φ' i=φ i)(hr:∀t v,Rep (Av B φ) H t v→Rep (Av B φ') H' t v)(hrl:∀t v,zM (Av B φ) H t v→zM (Av B φ') H' t v)
  (hl:∀a ws ts,x=.ow ts→φ i=some a→H a=some (.lst ws)→H' a=some (.lst ws)) (hs:∀a ns,xcL K H a ns→xcL K H' a ns):Ent K B φ' H' i o x:=by
 cases x with
 | un=>trivial
 | fz t=>obtain⟨v,e,r⟩:=h;exact⟨v,e,hr t v r⟩
 | ow ts=>obtain⟨a,ws,e1,e2,e3,e4,r⟩:=h;exact⟨a,ws,e1,hφ.trans e2,e3,hl a ws ts rfl e2 e4,hrl _ _ r⟩
 | st=>obtain⟨p,e1,e2,e3⟩:=h;exact⟨p,e1,hφ.trans e2,e3⟩
 | sc ns=>obtain⟨a,e,l,q⟩:=h;exact⟨a,e,l,hs a ns q⟩
 | ob a=>exact h
theorem RS.setFz (R:RS K B φ σ τ H)(r:Rep (Av B φ) H t v):RS K B (φ.del i) (σ.set i (some v)) (τ.set i (.fz t)) H where
 f0:=R.f0
 s0:=R.s0
 ext:=R.ext
 sst:=fun a s=>by
  rcases s with s | ⟨j,s,hj⟩
  ·exact R.sst a (.inl s)
  ·obtain⟨hne,s'⟩:=wY s
   rw[yJ hne] at hj
   exact R.sst a (.inr ⟨j,s',hj⟩)
 inj:=fun j k a ts hj e1 e2=>by
  obtain⟨hne,e1⟩:=wY e1
  rw[yJ hne] at hj
  exact R.inj j k a ts hj e1 (wY e2).2
 ow:=fun j a e=>R.ow j a (wY e).2
 len:=by rw[xkR,xkR];exact R.len
 ent:=fun j=>by
  have mono:∀t v,Rep (Av B φ) H t v→Rep (Av B (φ.del i)) H t v:=fun t v=>yz (fun a o e n=>⟨e,fun z=>n (jX z)⟩) t v
  by_cases e:j=i
  ·subst e
   by_cases hl:j<τ.length
   ·rw[zB hl]
    exact⟨v,by rw[xkI (by rw[R.len];exact hl)],mono _ _ r⟩
   ·rw[uf (by rw[xkR];omega)];trivial
  ·rw[yJ e,xkH (Ne.symm e)]
   exact gZ (R.ent j) (xee e) mono (fun t v=>yj (fun a o e n=>⟨e,fun z=>n (jX z)⟩) t v) (fun _ _ _ _ _ z=>z) fun _ _ z=>z
 gh:=fun p hp=>yz (fun a o e n=>⟨e,fun z=>n (jX z)⟩) _ _ (R.gh p hp)
theorem RS.setNew (R:RS K B φ σ τ H)(hx:HX B φ τ H H')(ha:H a=none)(ha':H' a≠none)(hst:x=.st→nZ a H')
  (hen:Ent K B (φ.put i a) H' i (some (some (.ref a))) x):RS K B (φ.put i a) (σ.set i (some (.ref a))) (τ.set i x) H':=by
 have R':=R.hx hx
 have nav:∀c,c≠a→Av B (φ.put i a) c→Av B φ c:=fun c hc z=>by
  rcases z with z | ⟨j,z⟩
  ·exact .inl z
  ·rcases vY z with ⟨_,e⟩ | ⟨_,e⟩
   ·exact absurd e hc
   ·exact .inr ⟨j,e⟩
 have mv:∀c o,H c=some o→¬Av B φ c→H' c=some o∧¬Av B (φ.put i a) c:=fun c o e n=>⟨hx.keep c o e fun s=>n (R.sAv s),fun z=>n (nav c (xF e ha) z)⟩
 refine⟨R.f0,R.s0,R'.ext,fun c s=>?_,fun j k c ts hj e1 e2=>?_,fun j c e=>?_,?_,fun j=>?_,fun p hp=>yz mv _ _ (R.gh p hp)⟩
 ·rcases s with s | ⟨j,s,hj⟩
  ·exact R'.sst c (.inl s)
  ·rcases vY s with ⟨rfl,rfl⟩ | ⟨hne,s'⟩
   ·by_cases hl:j<τ.length
    ·rw[zB hl] at hj
     exact hst hj
    ·rw[uf (by rw[xkR];omega)] at hj;cases hj
   ·rw[yJ hne] at hj
    exact R'.sst c (.inr ⟨j,s',hj⟩)
 ·have key:∀j:Nat,φ j=some a→False:=fun j e=>R.ow j a e ha
  rcases vY e1 with ⟨z1,z2⟩ | ⟨n1,f1⟩
  ·rcases vY e2 with ⟨z3,_⟩ | ⟨n2,f2⟩
   ·rw[z1,z3]
   ·exact(key k (by rw[←z2];exact f2)).elim
  ·rcases vY e2 with ⟨z3,z4⟩ | ⟨n2,f2⟩
   ·exact(key j (by rw[←z4];exact f1)).elim
   ·rw[yJ n1] at hj
    exact R.inj j k c ts hj f1 f2
 ·rcases vY e with ⟨_,rfl⟩ | ⟨_,e⟩
  ·exact ha'
  ·exact R'.ow j c e
 ·rw[xkR,xkR];exact R.len
 ·by_cases e:j=i
  ·subst e
   by_cases hl:j<τ.length
   ·rw[zB hl,xkI (by rw[R.len];exact hl)]
    exact hen
   ·rw[uf (by rw[xkR];omega)];trivial
  ·rw[yJ e,xkH (Ne.symm e)]
   refine gZ (R.ent j) (xgD e) (fun t v=>yz mv t v) (fun t v=>yj mv t v) (fun c ws ts hj e1 e2=>?_) fun c ns z=>?_
   ·refine hx.keep c _ e2 fun s=>?_
    rcases s with s | ⟨k,s,hk⟩
    ·have en:=R.ent j
     rw[hj] at en
     obtain⟨a',ws',_,q2,q3,_⟩:=en
     rw[e1] at q2;cases q2
     exact R.f0 c (R.s0 c s) q3
    ·have:=R.inj j k c ts hj e1 s
     subst this
     rw[hj] at hk;cases hk
   ·refine⟨?_,z.2.hx R hx⟩
    rcases z.1 with ⟨o,z⟩ | z
    ·exact .inl ⟨o,hx.keep c _ z (aG R z)⟩
    ·exact .inr z
theorem RS.wrOw (R:RS K B φ σ τ H)(hi:nth τ i=.ow ts)(e1:σ[i]? = some (some (.ref a)))(r:zM (Av B φ) H ts' ws'):RS K B φ σ (τ.set i (.ow ts')) (upd H a (.lst ws')):=by
 have en:=R.ent i
 rw[hi] at en
 obtain⟨a',ws,e1',e2,e3,e4,_⟩:=en
 rw[e1] at e1';cases e1'
 have hl:i<τ.length:=by
  by_cases h:i<τ.length
  ·exact h
  ·rw[uf (by omega)] at hi;cases hi
 have mv:∀c o,H c=some o→¬Av B φ c→(upd H a (.lst ws')) c=some o∧¬Av B φ c:=fun c o e n=>⟨by rw[xW (fun z=>n (by rw[z];exact .inr ⟨i,e2⟩))];exact e,n⟩
 have nsa:∀c,SA B φ (τ.set i (.ow ts')) c→SA B φ τ c∧c≠a:=fun c s=>by
  rcases s with s | ⟨j,s,hj⟩
  ·exact⟨.inl s,fun z=>R.f0 a (R.s0 a (z▸s)) e3⟩
  ·by_cases e:j=i
   ·subst e
    rw[zB hl] at hj;cases hj
   ·rw[yJ e] at hj
    exact⟨.inr ⟨j,s,hj⟩,fun z=>e (R.inj i j a ts hi e2 (z▸s)).symm⟩
 refine⟨R.f0,R.s0,fun c o e n=>?_,fun c s=>?_,fun j k c us hj f1 f2=>?_,fun j c e=>?_,by rw[xkR];exact R.len,fun j=>?_,fun p hp=>yz mv _ _ (R.gh p hp)⟩
 ·rw[xW (xF e e3)];exact R.ext c o e n
 ·obtain⟨s',hne⟩:=nsa c s
  obtain⟨n,b,q,z⟩:=R.sst c s'
  exact⟨n,b,by rw[xW hne];exact q,z⟩
 ·by_cases e:j=i
  ·subst e;exact R.inj j k c ts hi f1 f2
  ·rw[yJ e] at hj
   exact R.inj j k c us hj f1 f2
 ·by_cases z:c=a
  ·rw[z,xZ];exact fun z=>nomatch z
  ·rw[xW z];exact R.ow j c e
 ·by_cases e:j=i
  ·subst e
   rw[zB hl]
   exact⟨a,ws',e1,e2,e3,xZ,yj mv _ _ r⟩
  ·rw[yJ e]
   refine gZ (R.ent j) rfl (fun t v=>yz mv t v) (fun t v=>yj mv t v) (fun c us vs hj f1 f2=>?_) fun c ns z=>?_
   ·rw[xW (fun(z:c=a)=>e (R.inj i j a ts hi e2 (by rw[←z];exact f1)).symm)];exact f2
   ·refine⟨?_,fun P q h=>by rw[xW (xg0 (z.2 P q h) e4 (fun q=>nomatch q))];exact z.2 P q h⟩
    rcases z.1 with ⟨o,z⟩ | z
    ·exact .inl ⟨o,by rw[xW (xg0 z e4 (fun q=>nomatch q))];exact z⟩
    ·exact .inr z
theorem RS.freeze (R:RS K B φ σ τ H)(hi:nth τ i=.ow ts):RS K B (φ.del i) σ (τ.set i (.fz (.lst ts))) H:=by
 have en:=R.ent i
 rw[hi] at en
 obtain⟨a,ws,e1,e2,e3,e4,r⟩:=en
 have hl:i<τ.length:=by
  by_cases h:i<τ.length
  ·exact h
  ·rw[uf (by omega)] at hi;cases hi
 have na:¬Av B (φ.del i) a:=fun z=>by
  rcases z with z | ⟨j,z⟩
  ·exact R.f0 a z e3
  ·obtain⟨n,z⟩:=wY z
   exact n (R.inj i j a ts hi e2 z).symm
 refine⟨R.f0,R.s0,R.ext,fun c s=>?_,fun j k c us hj f1 f2=>?_,fun j c e=>R.ow j c (wY e).2,by rw[xkR];exact R.len,fun j=>?_,fun p hp=>yz (fun a o e n=>⟨e,fun z=>n (jX z)⟩) _ _ (R.gh p hp)⟩
 ·rcases s with s | ⟨j,s,hj⟩
  ·exact R.sst c (.inl s)
  ·obtain⟨hne,s'⟩:=wY s
   rw[yJ hne] at hj
   exact R.sst c (.inr ⟨j,s',hj⟩)
 ·obtain⟨hne,f1⟩:=wY f1
  rw[yJ hne] at hj
  exact R.inj j k c us hj f1 (wY f2).2
 ·by_cases e:j=i
  ·subst e
   rw[zB hl]
   exact⟨.ref a,e1,a,ws,rfl,na,e4,yj (fun a o e n=>⟨e,fun z=>n (jX z)⟩) _ _ r⟩
  ·rw[yJ e]
   exact gZ (R.ent j) (xee e) (fun t v=>yz (fun a o e n=>⟨e,fun z=>n (jX z)⟩) t v) (fun t v=>yj (fun a o e n=>⟨e,fun z=>n (jX z)⟩) t v) (fun _ _ _ _ _ z=>z) fun _ _ z=>z
def OkN (K:PySem.W.Frag)(g:TG)(d:DG):Prop:=∀(B:FB) (φ:Phi) (σ:St) (τ:TSt) (H:Hp) (F:Addr→Prop) (t:Tr) (v:V) (Q:St→Hp→Prop) (KK:TSt→Prop),RS K B φ σ τ H→(∀a,Av B φ a→F a)→Rep F H t v→d t τ KK →
 (∀ φ' σ' τ',RS K B φ' σ' τ' H→(∀a,Av B φ' a→Av B φ a)→KK τ'→Q σ' H)→g v σ H Q
def xg1 (K:PySem.W.Frag)(g:TGs)(d:DGs):Prop:=∀(B:FB) (φ:Phi) (σ:St) (τ:TSt) (H:Hp) (F:Addr→Prop) (t:List Tr) (v:List V) (Q:St→Hp→Prop) (KK:TSt→Prop),RS K B φ σ τ H→(∀a,Av B φ a→F a)→zM F H t v→d t τ KK →
 (∀ φ' σ' τ',RS K B φ' σ' τ' H→(∀a,Av B φ' a→Av B φ a)→KK τ'→Q σ' H)→g v σ H Q
def eName (i:Nat):DG:=fun t τ KK=>KK (τ.set i (.fz t))
def xgH:DGs:=fun ts τ KK=>match ts with | []=>KK τ | _=>False
def xbU (d:DG)(r:DGs):DGs:=fun ts τ KK=>match ts with | t::us=>d t τ fun τ'=>r us τ' KK | []=>False
def xjn (n:Nat)(d:DGs):DG:=fun t τ KK=>match t with | .tup ts=>ts.length=n∧d ts τ KK | _=>False
theorem xk:OkN K (gN i) (eName i):=fun B φ σ τ H F t v Q KK R hF r hd q =>
 q (φ.del i) _ _ (R.setFz (yz (fun a o e n=>⟨e,fun z=>n (hF a z)⟩) _ _ r)) (fun a z=>jX z) hd
theorem yO:xg1 K xhP xgH:=fun B φ σ τ H F t v Q KK R hF r hd q=>by
 cases t with
 | nil=>exact⟨r,q φ σ τ R (fun _ z=>z) hd⟩
 | cons _ _=>exact hd.elim
theorem xx (h:OkN K g d)(hs:xg1 K gs ds):xg1 K (xeO g gs) (xbU d ds):=fun B φ σ τ H F t v Q KK R hF r hd q=>by
 cases t with
 | nil=>exact hd.elim
 | cons t ts =>
  obtain⟨w,r',e,h1,h2⟩:=r
  exact⟨w,r',e,h B φ σ τ H F t w _ _ R hF h1 hd fun φ' σ' τ' R' ha k=>hs B φ' σ' τ' H F ts r' Q KK R' (fun a z=>hF a (ha a z)) h2 k fun φ2 σ2 τ2 R2 ha2 k2=>q φ2 σ2 τ2 R2 (fun a z=>ha a (ha2 a z)) k2⟩
theorem zg (h:xg1 K gs ds):OkN K (xhz K n gs) (xjn n ds):=fun B φ σ τ H F t v Q KK R hF r hd q=>by
 cases t with
 | tup ts =>
  obtain⟨a,ws,e,n,ha,rl⟩:=r
  exact⟨a,ws,e,SqT.of ha,by rw[←rl.len];exact hd.1,h B φ σ τ H F ts ws Q KK R hF rl hd.2 q⟩
 | _=>exact hd.elim
theorem OkN.g {g:TG}{d:DG}(h:OkN K g d):OkG K g d:=fun B φ σ τ H t v Q KK R r hd q=>h B φ σ τ H (Av B φ) t v Q KK R (fun _ z=>z) r hd fun φ' σ' τ' R' ha k=>q φ' σ' τ' H R' ha (fun _ _ e _=>e) k
def xf0 (ts:List Tr)(t:Tr):Int→Option (List Tr)
 | .ofNat n=>if n<ts.length then some (ts.set n t) else none
 | .negSucc n=>if n<ts.length then some (ts.set (ts.length-1-n) t) else none
def xim (i:Nat)(di:DE):DG:=fun t τ KK=>match nth τ i with
 | .ow ts=>di τ fun y=>match y with | .int k=>(match xf0 ts t k with | some us=>KK (τ.set i (.ow us)) | none=>False) | _=>False
 | _=>False
theorem xfn (h:xf0 ts t k=some us):∃j,ixN ts.length k=some j∧us=ts.set j t:=by
 unfold ixN
 cases k with
 | ofNat n =>
  have h:(if n<ts.length then some (ts.set n t) else none)=some us:=h
  by_cases hn:n<ts.length
  ·rw[if_pos hn] at h;cases h
   refine⟨n,?_,rfl⟩
   have h0:(0:Int)≤Int.ofNat n:=xkb n
   have h1:Int.ofNat n<(ts.length:Int):=Int.ofNat_lt.mpr hn
   rw[if_pos h0,if_pos h1];rfl
  ·rw[if_neg hn] at h;cases h
 | negSucc n =>
  have h:(if n<ts.length then some (ts.set (ts.length-1-n) t) else none)=some us:=h
  by_cases hn:n<ts.length
  ·rw[if_pos hn] at h;cases h
   refine⟨ts.length-1-n,?_,rfl⟩
   rw[if_neg (by omega),if_pos (by omega)]
   congr 1;omega
  ·rw[if_neg hn] at h;cases h
theorem cQ (r:Rep F H t v):∀ {ts:List Tr} {ws:List V} (j:Nat),zM F H ts ws→zM F H (ts.set j t) (ws.set j v)
 | [],_,_,h=>by cases (show _=[] from h);exact rfl
 | _::_,_,0,⟨w,r',e,h1,h2⟩=>⟨v,r',by rw[e];rfl,r,h2⟩
 | _::ts,_,j+1,⟨w,r',e,h1,h2⟩=>⟨w,r'.set j v,by rw[e];rfl,h1,cQ r j h2⟩
theorem xe_ (h:OkE K b ti di):OkG K (xiW (sZ i) ti xgY) (xim i di):=fun B φ σ τ H t v Q KK R r hd q=>by
 have en:=R.ent i
 unfold xim at hd
 revert en hd
 cases hi:nth τ i with
 | ow ts =>
  intro hd ⟨a,ws,e1,e2,e3,e4,r0⟩
  refine⟨_,e1,h B φ σ τ H _ _ R hd fun u w H1 x1 k1 r1=>?_⟩
  obtain⟨ws',f4,f5,_⟩:=v8 R x1 hi e1
  cases u with
  | int k =>
   cases (show w=.int k from r1)
   cases e:xf0 ts t k with
   | none=>simp only[e] at k1
   | some us =>
    simp only[e] at k1
    obtain⟨j,hj,rfl⟩:=xfn e
    refine⟨a,ws',k,j,rfl,rfl,f4,by rw[←f5.len];exact hj,?_⟩
    exact q φ σ _ _ ((R.hx x1).wrOw hi e1 (cQ (x1.rep (fun a s=>R.sAv s) r) j f5)) (fun _ z=>z) (fun c o e n=>by rw[xW (fun z=>n (by rw[z];exact .inr ⟨i,e2⟩))];exact x1.keep c o e fun s=>n (R.sAv s)) k1
  | _=>exact k1.elim
 | _=>exact fun z _=>z.elim
def xcf:DS:=fun G τ=>G.nx τ
def xg6 (a b:DS):DS:=fun G τ=>a { G with nx:=b G } τ
def xf1:DS:=fun _ _=>False
def xhI (d:DE):DS:=fun G τ=>d τ G.rt
def sIf (c:DT)(a b:DS):DS:=fun G τ=>c τ fun k=>if k=true then a G τ else b G τ
def xhJ (i:Nat)(d:DE):DS:=fun G τ=>d τ fun t=>G.nx (τ.set i (.fz t))
def xij (i:Nat)(d:DE):DS:=fun G τ=>d τ fun t=>match t with | .lst ts=>G.nx (τ.set i (.ow ts)) | _=>False
def xjm (d:DE)(g:DG):DS:=fun G τ=>d τ fun t=>g t τ G.nx
def xjf (i j:Nat)(d:DA):DS:=fun G τ=>d τ fun ts=>match ts with | [t,u]=>G.nx ((τ.set i (.fz t)).set j (.fz u)) | _=>False
def xiF (i:Nat)(d:DE):DS:=fun G τ=>match nth τ i with | .ow ts=>d τ fun t=>ts.length<sizeLine∧G.nx (τ.set i (.ow (ts++[t]))) | _=>False
def xja (i:Nat)(a:DS):DS:=fun G τ=>match nth τ i with | .ow ts=>a G (τ.set i (.fz (.lst ts))) | _=>False
variable {fr:Bool}
theorem xJ:OkS K fr xf4 xcf:=fun B φ σ τ H E G R hd e=>e.nx φ σ τ H R hd
theorem vB:OkS K fr oM xf1:=fun B φ σ τ H E G R hd e=>hd.elim
theorem xj (ha:OkS K fr a da)(hb:OkS K fr b db):OkS K fr (xfX a b) (xg6 da db):=fun B φ σ τ H E G R hd e =>
 ha B φ σ τ H _ _ R hd ⟨fun φ' σ' τ' H' R' k=>hb B φ' σ' τ' H' E G R' k e,e.bk,e.ct,e.rt⟩
theorem xA (h:OkE K b te d):OkS K false (xgR te) (xhI d):=fun B φ σ τ H E G R hd e =>
 h B φ σ τ H _ _ R hd fun t v H1 x1 k1 r1=>e.rt t v H1 (yz (fun a o e n=>⟨e,fun z=>n (.inl z)⟩) _ _ (xi9 R r1)) (R.hx x1).extB k1 fun z=>nomatch z
theorem fh (h:OkF K te d):OkS K fr (xgR te) (xhI d):=fun B φ σ τ H E G R hd e =>
 h B φ σ τ H _ _ R hd fun ts a ws H1 x1 k1 h1 h2 h3=>by
  have z0:B.H0 a=none:=by
   cases q:B.H0 a with
   | none=>rfl
   | some o =>
    by_cases s:B.S0 a
    ·exact absurd h1 (R.sst a (.inl s)).ne_none
    ·rw[R.ext a o q s] at h1;cases h1
  have na:¬B.F0 a:=fun z=>R.dom (.inl z) h1
  have rr:zM (fun c=>B.F0 c∨c=a) H1 ts ws:=yj (fun c o e n=>⟨e,fun z=>n (z.elim (fun z=>.inl (.inl z)) .inr)⟩) _ _ h3
  exact e.rt (.lst ts) _ H1 ⟨a,ws,rfl,na,h2,yj (fun c o e n=>⟨e,fun z=>n (.inl z)⟩) _ _ rr⟩ (R.hx x1).extB k1 fun _=>⟨a,ts,ws,rfl,rfl,z0,h2,rr⟩
def xg3 (i:Nat):DS:=fun G τ=>match nth τ i with | .ow ts=>G.rt (.lst ts) | _=>False
theorem p_:OkS K fr (xgR (sZ i)) (xg3 i):=fun B φ σ τ H E G R hd e=>by
 have en:=R.ent i
 unfold xg3 at hd
 revert en hd
 cases hi:nth τ i with
 | ow ts =>
  intro hd ⟨a,ws,e1,e2,e3,e4,r⟩
  have na:¬B.F0 a:=fun z=>R.f0 a z e3
  have rr:zM (fun c=>B.F0 c∨c=a) H ts ws:=yj (fun c o e n=>⟨e,fun z=>n (z.elim .inl fun z=>.inr ⟨i,by rw[z];exact e2⟩)⟩) _ _ r
  exact⟨_,e1,e.rt (.lst ts) _ H ⟨a,ws,rfl,na,e4,yj (fun c o e n=>⟨e,fun z=>n (.inl z)⟩) _ _ rr⟩ R.extB hd fun _=>⟨a,ts,ws,rfl,rfl,e3,e4,rr⟩⟩
 | _=>exact fun z _=>z.elim
theorem yd (hc:OkT K c dc)(ha:OkS K fr a da)(hb:OkS K fr b db):OkS K fr (xik c a b) (sIf dc da db):=fun B φ σ τ H E G R hd e =>
 hc B φ σ τ H _ _ R hd fun k H1 x1 k1=>by
  cases k with
  | true=>exact lV (ha B φ σ τ H1 E G (R.hx x1) k1 e)
  | false=>exact bV (hb B φ σ τ H1 E G (R.hx x1) k1 e)
theorem xO (h:OkE K true te d):OkS K fr (xcj te (gN i)) (xhJ i d):=fun B φ σ τ H E G R hd e =>
 h B φ σ τ H _ _ R hd fun t v H1 x1 k1 r1=>e.nx _ _ _ H1 ((R.hx x1).setFz r1) k1
theorem wF (h:OkF K te d):OkS K fr (xcj te (gN i)) (xij i d):=fun B φ σ τ H E G R hd e =>
 h B φ σ τ H _ _ R hd fun ts a ws H1 x1 k1 h1 h2 h3=>by
  have z0:B.H0 a=none:=by
   cases q:B.H0 a with
   | none=>rfl
   | some o =>
    by_cases s:B.S0 a
    ·exact absurd h1 (R.sst a (.inl s)).ne_none
    ·rw[R.ext a o q s] at h1;cases h1
  refine e.nx _ _ _ H1 (R.setNew (x:=.ow ts) x1 h1 (by rw[h2];exact fun z=>nomatch z) (fun z=>nomatch z) ⟨a,ws,rfl,og,z0,h2,yj (fun c o e n=>⟨e,fun z=>n ?_⟩) _ _ h3⟩) k1
  rcases z with z | ⟨j,z⟩
  ·exact .inl (.inl z)
  ·rcases vY z with ⟨_,z⟩ | ⟨_,z⟩
   ·exact .inr z
   ·exact .inl (.inr ⟨j,z⟩)
theorem qx (h:OkE K true te d)(hg:OkG K g dg):OkS K fr (xcj te g) (xjm d dg):=fun B φ σ τ H E G R hd e =>
 h B φ σ τ H _ _ R hd fun t v H1 x1 k1 r1=>hg B φ σ τ H1 t v _ _ (R.hx x1) r1 k1 fun φ' σ' τ' H' R' _ _ k=>e.nx φ' σ' τ' H' R' k
theorem rD (h:OkA K true n ta da):OkS K fr (xiB i j ta) (xjf i j da):=fun B φ σ τ H E G R hd e =>
 h B φ σ τ H _ _ R hd fun ts vs H1 x1 k1 l1 r1=>by
  cases ts with
  | nil=>exact k1.elim
  | cons t ts =>
   cases ts with
   | nil=>exact k1.elim
   | cons u ts =>
    cases ts with
    | cons _ _=>exact k1.elim
    | nil =>
     obtain⟨v,w,rfl,h1,h2⟩:=xcM r1
     exact⟨v,w,rfl,e.nx _ _ _ H1 (((R.hx x1).setFz h1).setFz (yz (fun a o e n=>⟨e,fun z=>n (jX z)⟩) _ _ h2)) k1⟩
theorem jl (h:OkE K true te d):OkS K fr (xdf (tBM K "list" xbn (sZ i) (uo te bW))) (xiF i d):=fun B φ σ τ H E G R hd e=>by
 have en:=R.ent i
 unfold xiF at hd
 revert en hd
 cases hi:nth τ i with
 | ow ts =>
  intro hd ⟨a,ws,e1,e2,e3,e4,r⟩
  refine⟨_,e1,.inl ⟨rfl,_,SqL.of e4⟩,h B φ σ τ H _ _ R hd fun t v H1 x1 k1 r1=>?_⟩
  obtain⟨ws',f4,f5,_⟩:=v8 R x1 hi e1
  exact⟨a,ws',v,rfl,rfl,f4,by rw[←f5.len];exact k1.1,e.nx φ σ _ _ ((R.hx x1).wrOw hi e1 (f5.app (show zM _ _ [t] [v] from⟨v,[],rfl,r1,rfl⟩))) k1.2⟩
 | _=>exact fun z _=>z.elim
theorem xbI (h:OkS K fr a da):OkS K fr a (xja i da):=fun B φ σ τ H E G R hd e=>by
 unfold xja at hd
 revert hd
 cases hi:nth τ i with
 | ow ts=>exact fun hd=>h B _ σ _ H E G (R.freeze hi) hd e
 | _=>exact fun z=>z.elim
end
end L2
namespace L2
open PySem PySem.Spec PyProof.Rows
abbrev DI:=TSt→(List Tr→Prop)→Prop
def xdh (H H':Hp):Prop:=H'=H∨∃q o,H q=none∧H'=upd H q o
structure ItC (F S:Addr→Prop)(J:It)(ts:List Tr)(Src:Hp→Prop):Prop where
 stab:∀H H',Src H→(∀a o,H a=some o→¬S a→H' a=some o)→Src H'
 go:∀i H,Src H→i<ts.length→J.go i H
 stop:∀H,Src H→J.stop ts.length H
 yld:∀i H x H',Src H→(∀a,F a→H a≠none)→i<ts.length→J.yld i H x H'→xdh H H'∧∃t,ts[i]? = some t∧Rep F H' t x
structure ItL (J:It)(ts:List Tr)(G:List (Tr×V)):Prop where
 go:∀F H i,(∀p∈G,Rep F H p.1 p.2)→i<ts.length→J.go i H
 stop:∀F H,(∀p∈G,Rep F H p.1 p.2)→J.stop ts.length H
 yld:∀F i H x H',(∀p∈G,Rep F H p.1 p.2)→(∀a,F a→H a≠none)→i<ts.length→J.yld i H x H'→xdh H H'∧∃t,ts[i]? = some t∧Rep F H' t x
theorem ItL.c (h:ItL J ts G)(hS:∀a,S a→F a):ItC F S J ts (fun H=>∀p∈G,Rep F H p.1 p.2) where
 stab:=fun H H' s k p hp=>yz (fun a o e n=>⟨k a o e fun z=>n (hS a z),n⟩) _ _ (s p hp)
 go:=fun i H s hi=>h.go F H i s hi
 stop:=fun H s=>h.stop F H s
 yld:=fun i H x H' s d hi y=>h.yld F i H x H' s d hi y
def OkI (K:PySem.W.Frag)(b:Bool)(wi:TI)(d:DI):Prop:=∀(B:FB) (φ:Phi) (σ:St) (τ:TSt) (H:Hp) (R:It→Hp→Prop) (KK:List Tr→Prop),RS K B φ σ τ H→d τ KK →
 (∀J ts G H',HX B φ τ H H'→KK ts→ItL J ts G→(∀p∈G,Rep (AvB b B φ τ) H' p.1 p.2)→R J H')→wi σ H R
def xhn (K:PySem.W.Frag)(wi:TI)(d:DI):Prop:=∀(B:FB) (φ:Phi) (σ:St) (τ:TSt) (H:Hp) (R:It→Hp→Prop) (KK:List Tr→Prop),RS K B φ σ τ H→d τ KK →
 (∀J ts Src H',HX B φ τ H H'→KK ts→ItC (Av B φ) (SA B φ τ) J ts Src→Src H'→R J H')→wi σ H R
section
variable {K:PySem.W.Frag} {B:FB} {φ:Phi} {σ:St} {τ:TSt} {H H' H'':Hp} {fr:Bool}
theorem OkI.c (h:OkI K true wi d):xhn K wi d:=fun B φ σ τ H R KK Rs hd q=>h B φ σ τ H R KK Rs hd fun J ts G H' x k i s=>q J ts _ H' x k (i.c fun a z=>Rs.sAv z) s
def xiD (d:DE):DI:=fun τ KK=>d τ fun x=>match x with | .tup ts=>KK ts | .lst ts=>KK ts | _=>False
theorem xcm:ItL (Itl K a) ts [(.lst ts,.ref a)] where
 go:=fun F H i s hi=>by
  obtain⟨a',ws,e,n,h,r⟩:=s _ xk7
  cases e
  obtain⟨w,e1,_⟩:=r.getT (xkD hi)
  exact⟨ws,w,SqL.of h,e1⟩
 stop:=fun F H s=>by
  obtain⟨a',ws,e,n,h,r⟩:=s _ xk7
  cases e
  exact⟨ws,SqL.of h,by rw[←r.len];exact xlw _⟩
 yld:=fun F i H x H' s d hi y=>by
  obtain⟨a',ws,e,n,h,r⟩:=s _ xk7
  cases e
  obtain⟨rfl,y⟩:=y
  obtain⟨t,e1,e2⟩:=r.get (y ws (SqL.of h))
  exact⟨.inl rfl,t,e1,e2⟩
theorem xeD:ItL (Itt K a) ts [(.tup ts,.ref a)] where
 go:=fun F H i s hi=>by
  obtain⟨a',ws,e,n,h,r⟩:=s _ xk7
  cases e
  obtain⟨w,e1,_⟩:=r.getT (xkD hi)
  exact⟨ws,w,SqT.of h,e1⟩
 stop:=fun F H s=>by
  obtain⟨a',ws,e,n,h,r⟩:=s _ xk7
  cases e
  exact⟨ws,SqT.of h,by rw[←r.len];exact xlw _⟩
 yld:=fun F i H x H' s d hi y=>by
  obtain⟨a',ws,e,n,h,r⟩:=s _ xk7
  cases e
  obtain⟨rfl,y⟩:=y
  obtain⟨t,e1,e2⟩:=r.get (y ws (SqT.of h))
  exact⟨.inl rfl,t,e1,e2⟩
def xh0 (i:Nat):DI:=fun τ KK=>match nth τ i with | .ow ts=>KK ts | _=>False
theorem xcq:xhn K (xh1 K (sZ i)) (xh0 i):=fun B φ σ τ H R KK Rs hd q=>by
 have en:=Rs.ent i
 unfold xh0 at hd
 revert en hd
 cases hi:nth τ i with
 | ow ts =>
  intro hd ⟨a,ws,e1,e2,e3,e4,r⟩
  refine⟨_,e1,a,rfl,⟨ws,SqL.of e4⟩,q _ ts (fun H=>H a=some (.lst ws)∧zM (Av B φ) H ts ws) H (HX.refl Rs) hd ⟨?_,?_,?_,?_⟩ ⟨e4,r⟩⟩
  ·intro H1 H2 ⟨s1,s2⟩ k
   exact⟨k a _ s1 fun z=>oF Rs hi e2 e3 (.inr z),yj (fun c o e n=>⟨k c o e fun z=>n (Rs.sAv z),n⟩) _ _ s2⟩
  ·intro j H1 ⟨s1,s2⟩ hj
   obtain⟨w,f1,_⟩:=s2.getT (xkD hj)
   exact⟨ws,w,SqL.of s1,f1⟩
  ·intro H1 ⟨s1,s2⟩
   exact⟨ws,SqL.of s1,by rw[←s2.len];exact xlw _⟩
  ·intro j H1 x H2 ⟨s1,s2⟩ _ hj ⟨f,y⟩
   subst f
   obtain⟨t,g1,g2⟩:=s2.get (y ws (SqL.of s1))
   exact⟨.inl rfl,t,g1,g2⟩
 | _=>exact fun z _=>z.elim
def xdO (lo:Int)(n:Nat):List Tr:=(List.range n).map fun(k:Nat)=>Tr.int (lo+k)
theorem wm (lo:Int)(n:Nat):(xdO lo n).length=n:=by unfold xdO;rw[xkP,List.length_range]
theorem r_ {lo:Int}{n i:Nat}(h:i<n):(xdO lo n)[i]? = some (.int (lo+i)):=by unfold xdO;rw[xkG,List.getElem?_range h];rfl
theorem xaZ {lo:Int}{n:Nat}:ItL (Itr lo n) (xdO lo n) [] where
 go:=fun F H i s hi=>by rw[wm] at hi;exact hi
 stop:=fun F H s=>by rw[wm];exact xlw _
 yld:=fun F i H x H' s d hi y=>by
  rw[wm] at hi
  obtain⟨rfl,rfl⟩:=y
  exact⟨.inl rfl,_,r_ hi,rfl⟩
def xfk (d:DA):DI:=fun τ KK=>d τ fun xs=>match xs with | [.int j]=>(-(2 ^ 62)≤j∧j<2 ^ 62)∧KK (xdO 0 j.toNat) | _=>False
theorem uD (h:OkA K b n ta da):OkI K true (xgN ta) (xfk da):=fun B φ σ τ H R KK Rs hd q =>
 h B φ σ τ H _ _ Rs hd fun ts vs H1 x1 k1 l1 r1=>by
  split at k1
  ·rename_i j
   obtain⟨v,rfl,e⟩:=vo r1
   exact⟨j,by rw[show v=.int j from e],k1.1.1,k1.1.2,q _ _ [] H1 x1 k1.2 xaZ fun p hp=>absurd hp (by simp)⟩
  ·exact k1.elim
def xcl (dg:DG)(body:DS)(G:xb0):List Tr→TSt→Prop
 | [],τ=>G.nx τ
 | x::xs,τ=>dg x τ fun τ'=>body { G with nx:=xcl dg body G xs,ct:=xcl dg body G xs,bk:=G.nx } τ'
def xh8 (di:DI)(dg:DG)(body:DS):DS:=fun G τ=>di τ fun xs=>xcl dg body G xs τ
def FB.more (B:FB)(G:List (Tr×V)):FB:={ B with G0:=G++B.G0 }
theorem RS.more (R:RS K B φ σ τ H)(h:∀p∈G,Rep (Av B φ) H p.1 p.2):RS K (B.more G) φ σ τ H :=
 ⟨R.f0,R.s0,R.ext,R.sst,R.inj,R.ow,R.len,R.ent,fun p hp=>(xk2.mp hp).elim (h p) (R.gh p)⟩
theorem RS.less (R:RS K (B.more G) φ σ τ H):RS K B φ σ τ H∧∀p∈G,Rep (Av B φ) H p.1 p.2 :=
 ⟨⟨R.f0,R.s0,R.ext,R.sst,R.inj,R.ow,R.len,R.ent,fun p hp=>R.gh p (xk4 _ hp)⟩,fun p hp=>R.gh p (xk3 _ hp)⟩
theorem xdh.hx (R:RS K B φ σ τ H)(g:xdh H H'):HX B φ τ H H':=by
 rcases g with rfl | ⟨q,o,e,rfl⟩
 ·exact HX.refl R
 ·exact HX.new R e o
theorem zE (hi:OkI K true wi di)(hg:OkG K g dg)(hb:OkS K fr tb db):OkS K fr (xi4 wi g tb) (xh8 di dg db):=fun B φ σ τ H E G R hd e =>
 hi B φ σ τ H _ _ R hd fun J ts Gh H1 x1 k1 it gh=>by
  let W:Nat→St→Hp→Prop:=fun i σ' H'=>i≤ts.length∧∃ φ' τ',RS K (B.more Gh) φ' σ' τ' H'∧xcl dg db G (ts.drop i) τ'
  refine⟨fun i m σ' H'=>m=ts.length-i∧W i σ' H',⟨_,rfl,xlJ _,φ,τ,(R.hx x1).more gh,k1⟩,?_⟩
  rintro i m σ' H' ⟨rfl,hle,φ',τ',R',f⟩
  obtain⟨R0,g0⟩:=R'.less
  by_cases hlt:i<ts.length
  ·refine .inr ⟨it.go _ H' i g0 hlt,W (i+1),fun σ2 H2 w=>⟨_,by omega,rfl,w⟩,fun x H2 y=>?_⟩
   obtain⟨gr,t,ht,rt⟩:=it.yld _ i H' x H2 g0 (fun a z=>R0.dom z) hlt y
   have hx:=gr.hx R'
   have R2:=R'.hx hx
   have ed:ts.drop i=t::ts.drop (i+1):=by
    rw[xkp hlt]
    rw[xkD hlt] at ht
    cases ht;rfl
   rw[ed] at f
   refine hg (B.more Gh) φ' σ' τ' H2 t x _ _ R2 rt f fun φ3 σ3 τ3 H3 R3 _ _ k3=>?_
   exact hb (B.more Gh) φ3 σ3 τ3 H3 _ _ R3 k3 ⟨fun φ4 σ4 τ4 H4 R4 k4=>⟨hlt,φ4,τ4,R4,k4⟩,fun φ4 σ4 τ4 H4 R4 k4=>e.nx φ4 σ4 τ4 H4 R4.less.1 k4,fun φ4 σ4 τ4 H4 R4 k4=>⟨hlt,φ4,τ4,R4,k4⟩,fun t v H r x k f=>e.rt t v H r ⟨x.ext,x.st⟩ k f⟩
  ·have ei:i=ts.length:=by omega
   subst ei
   rw[List.drop_length] at f
   exact .inl ⟨it.stop _ H' g0,e.nx φ' σ' τ' H' R0 f⟩
def xfl (c:DT)(body:DS)(G:xb0):Nat→TSt→Prop
 | 0,_=>False
 | n+1,τ=>c τ fun b=>if b=true then body { G with nx:=xfl c body G n,ct:=xfl c body G n,bk:=G.nx } τ else G.nx τ
def xdJ (c:DT)(body:DS):DS:=fun G τ=>∃n,xfl c body G n τ
theorem mz (hc:OkT K c dc)(hb:OkS K fr tb db):OkS K fr (xdA c tb) (xdJ dc db):=fun B φ σ τ H E G R hd e=>by
 obtain⟨n,hd⟩:=hd
 refine⟨fun m σ' H'=>∃ φ' τ',RS K B φ' σ' τ' H'∧xfl dc db G m τ',⟨n,φ,τ,R,hd⟩,?_⟩
 rintro m σ' H' ⟨φ',τ',R',f⟩
 cases m with
 | zero=>exact f.elim
 | succ m =>
  refine hc B φ' σ' τ' H' _ _ R' f fun b H1 x1 k1=>?_
  cases b with
  | true =>
   refine lV ⟨fun σ2 H2=>∃ φ2 τ2,RS K B φ2 σ2 τ2 H2∧xfl dc db G m τ2,fun σ2 H2 w=>⟨m,by omega,w⟩,?_⟩
   exact hb B φ' σ' τ' H1 _ _ (R'.hx x1) k1 ⟨fun φ4 σ4 τ4 H4 R4 k4=>⟨φ4,τ4,R4,k4⟩,fun φ4 σ4 τ4 H4 R4 k4=>e.nx φ4 σ4 τ4 H4 R4 k4,fun φ4 σ4 τ4 H4 R4 k4=>⟨φ4,τ4,R4,k4⟩,e.rt⟩
  | false=>exact bV (e.nx φ' σ' τ' H1 (R'.hx x1) k1)
def bc (dg:DG)(dc:DT)(de:DE)(τi:TSt)(KK:List Tr→Prop):List Tr→List Tr→Prop
 | [],acc=>KK acc
 | x::xs,acc=>dg x τi fun τ2=>dc τ2 fun b=>if b=true then de τ2 fun y=>bc dg dc de τi KK xs (acc++[y]) else bc dg dc de τi KK xs acc
def xiX:TV→TV
 | .ow _=>.un
 | x=>x
def j6 (tau:List (Option Nat))(τ:TSt):TSt:=tau.map fun o=>match o with | some j=>xiX (nth τ j) | none=>.un
def xgO (tau:List (Option Nat))(di:DI)(dg:DG)(dc:DT)(de:DE):DE:=fun τ KK=>di τ fun xs=>xs.length<sizeLine∧bc dg dc de (j6 tau τ) (fun ys=>KK (.lst ys)) xs []
def xde:DT:=fun _ KK=>KK true
theorem yt:OkT K xap xde:=fun B φ σ τ H Q KK R hd q=>q true H (HX.refl R) hd
def FB.inner (B:FB)(φ:Phi)(τ:TSt)(H:Hp):FB:=⟨Av B φ,SA B φ τ,H,[]⟩
def si (tau:List (Option Nat))(φ:Phi)(τ:TSt):Phi:=fun i=>match tau[i]? with | some (some j)=>(match nth τ j with | .st=>φ j | _=>none) | _=>none
theorem ma:∀ {i:Nat},nth (j6 tau τ) i=match tau[i]? with | some (some j)=>xiX (nth τ j) | _=>.un:=by
 intro i
 by_cases h:i<tau.length
 ·have h':i<(j6 tau τ).length:=by unfold j6;rw[xkP];exact h
  rw[jN h',xkD h]
  simp only[j6,List.getElem_map]
  cases tau[i]<;>rfl
 ·rw[uf (by unfold j6;rw[xkP];omega),xkE (by omega)]
theorem r6 {tau:List (Option Nat)}{i j:Nat}{v:V}(h:tau[i]? = some (some j))(e:σ[j]? = some (some v)):(g_ tau σ)[i]? = some (some v):=by
 unfold g_
 rw[xkG,h]
 simp only[Option.map_some,e,xlK]
theorem RS.inner {tau:List (Option Nat)}(R:RS K B φ σ τ H):RS K (B.inner φ τ H) (si tau φ τ) (g_ tau σ) (j6 tau τ) H:=by
 have hphi:∀i a,si tau φ τ i=some a→∃j,tau[i]? = some (some j)∧nth τ j=.st∧φ j=some a:=fun i a e=>by
  unfold si at e
  split at e
  ·rename_i j hj
   split at e
   ·rename_i hs;exact⟨j,hj,hs,e⟩
   ·cases e
  ·cases e
 have hav:∀a,Av (B.inner φ τ H) (si tau φ τ) a→Av B φ a:=fun a z=>by
  rcases z with z | ⟨i,z⟩
  ·exact z
  ·obtain⟨j,_,_,e⟩:=hphi i a z
   exact .inr ⟨j,e⟩
 refine⟨fun a z=>R.dom z,fun a z=>R.sAv z,fun a o e _=>e,fun a s=>?_,fun i j a ts hi e1 _=>?_,fun i a e=>?_,?_,fun i=>?_,fun p hp=>absurd hp (by simp[FB.inner])⟩
 ·rcases s with s | ⟨i,s,_⟩
  ·exact R.sst a s
  ·obtain⟨j,_,hs,e⟩:=hphi i a s
   exact R.sst a (.inr ⟨j,e,hs⟩)
 ·exfalso
  rw[ma] at hi
  split at hi
  ·rename_i j hj
   revert hi
   cases nth τ j<;>intro hi<;>cases hi
  ·cases hi
 ·obtain⟨j,_,_,e⟩:=hphi i a e
  exact R.ow j a e
 ·unfold g_ j6;rw[xkP,xkP]
 ·rw[ma]
  split
  ·rename_i j hj
   have en:=R.ent j
   cases hn:nth τ j with
   | un=>trivial
   | ow ts=>trivial
   | fz t =>
    rw[hn] at en
    obtain⟨v,e,r⟩:=en
    exact⟨v,r6 hj e,yz (fun a o e n=>⟨e,fun z=>n (hav a z)⟩) _ _ r⟩
   | st =>
    rw[hn] at en
    obtain⟨p,e1,e2,e3⟩:=en
    refine⟨p,r6 hj e1,?_,.inl (.inr ⟨j,e2,hn⟩)⟩
    unfold si
    simp only[hj,hn];exact e2
   | sc ns =>
    rw[hn] at en
    obtain⟨a,e,l,q⟩:=en
    exact⟨a,r6 hj e,l,q⟩
   | ob a =>
    rw[hn] at en
    exact r6 hj en
  ·trivial
theorem ya (hi:xhn K wi di)(hg:OkN K g dg)(hc:OkT K tc dc)(he:OkE K b te de) :
  OkF K (oY wi tau g tc te) (xgO tau di dg dc de):=fun B φ σ τ H Q KK R hd q =>
 hi B φ σ τ H _ _ R hd fun J ts Src H1 x1 k1 it s1=>by
  refine⟨fun i m ys H'=>m=ts.length-i∧i≤ts.length∧ys.length≤i∧HX B φ τ H H'∧Src H'∧∃acc,zM (Av B φ) H' acc ys∧bc dg dc de (j6 tau τ) (fun ys=>KK (.lst ys)) (ts.drop i) acc,⟨_,rfl,xlJ _,xlJ _,x1,s1,[],rfl,k1.2⟩,?_⟩
  rintro i m ys H' ⟨rfl,hle,hys,x,s,acc,ra,f⟩
  have R':=R.hx x
  by_cases hlt:i<ts.length
  ·refine .inr ⟨it.go i H' s hlt,by have:=k1.1;omega,fun v H2 y=>?_⟩
   obtain⟨gr,t,ht,rt⟩:=it.yld i H' v H2 s (fun a z=>R'.dom z) hlt y
   have hx:=gr.hx R'
   have R2:=R'.hx hx
   have ed:ts.drop i=t::ts.drop (i+1):=by
    rw[xkp hlt]
    rw[xkD hlt] at ht
    cases ht;rfl
   rw[ed] at f
   refine hg (B.inner φ τ H2) _ _ _ H2 (Av B φ) t v _ _ R2.inner (fun a z=>?_) rt f fun φ3 σ3 τ3 R3 ha k3=>?_
   ·rcases z with z | ⟨j,z⟩
    ·exact z
    ·unfold si at z
     split at z
     ·split at z
      ·exact .inr ⟨_,z⟩
      ·cases z
     ·cases z
   have hsa:∀a,SA (B.inner φ τ H2) φ3 τ3 a→SA B φ τ a:=fun a z=>by
    rcases z with z | ⟨j,z,hj⟩
    ·exact z
    ·have en:=R3.ent j
     rw[hj] at en
     obtain⟨p,e1,e2,e3⟩:=en
     rw[z] at e2;cases e2
     rcases e3 with e3 | e3
     ·exact e3
     ·exact absurd e3 (R3.sst a (.inr ⟨j,z,hj⟩)).ne_none
   have hxo:∀ {H3 H4:Hp},HX (B.inner φ τ H2) φ3 τ3 H3 H4→HX B φ τ H3 H4:=fun {H3 H4} h=>⟨fun a o e n=>h.keep a o e fun z=>n (hsa a z),fun a z=>h.st a (.inl z)⟩
   refine hc _ φ3 σ3 τ3 H2 _ _ R3 k3 fun c H3 x3 k4=>?_
   have x23:=hxo x3
   have s3:=it.stab _ _ (it.stab _ _ s fun a o e n=>hx.keep a o e n) fun a o e n=>x23.keep a o e n
   cases c with
   | false =>
    refine bV ⟨_,by omega,rfl,hlt,by omega,(x.trans hx).trans x23,s3,acc,(hx.trans x23).repL (fun a z=>R.sAv z) ra,?_⟩
    simpa using k4
   | true =>
    refine lV (he _ φ3 σ3 τ3 H3 _ _ (R3.hx x3) k4 fun u w H4 x4 k5 r5=>?_)
    have x34:=hxo x4
    refine⟨_,by omega,rfl,hlt,by rw[xkL,xkS];omega,((x.trans hx).trans x23).trans x34,it.stab _ _ s3 fun a o e n=>x34.keep a o e n,acc++[u],(((hx.trans x23).trans x34).repL (fun a z=>R.sAv z) ra).app (show zM _ _ [u] [w] from⟨w,[],rfl,?_,rfl⟩),k5⟩
    refine yz (fun a o e n=>⟨e,fun z=>n ?_⟩) _ _ r5
    cases b with
    | true=>exact .inl z
    | false=>exact .inl z
  ·have ei:i=ts.length:=by omega
   subst ei
   rw[List.drop_length] at f
   refine .inl ⟨it.stop H' s,fun p hp=>q acc p ys _ (x.trans (HX.new R' hp _)) f (x.none hp) xZ (jG hp ra)⟩
end
end L2
namespace L2
open PySem PySem.Spec PyProof.Rows
def startT (N:List Str):Bool→List Tr→TSt
 | true,ts=>.st::(ts.map TV.fz++List.replicate (N.length-(ts.length+1)) .un)
 | false,ts=>ts.map TV.fz++List.replicate (N.length-ts.length) .un
theorem j8 {ts:List Tr}{n i:Nat}{x:TV}(h:nth (ts.map TV.fz++List.replicate n .un) i=x):x=.un∨∃t,ts[i]? = some t∧x=.fz t:=by
 by_cases hi:i<ts.length
 ·right
  rw[jN (by simp;omega),List.getElem_append_left (by simpa using hi),List.getElem_map] at h
  exact⟨_,xkD hi,h.symm⟩
 ·left
  by_cases h2:i<ts.length+n
  ·rw[jN (by simp;omega),List.getElem_append_right (by simp;omega),List.getElem_replicate] at h
   exact h.symm
  ·rw[uf (by simp;omega)] at h
   exact h.symm
theorem jW {N:List Str}{vs:List V}{i:Nat}{v:V}(h:vs[i]? = some v):(start N vs)[i]? = some (some v):=by
 unfold start
 have hi:=(xkF.mp h).1
 rw[xkA (by simpa using hi),xkG,h];rfl
theorem fx (h:vs.length≤N.length):(start N vs).length=N.length:=by
 unfold start;rw[xkL,xkP,List.length_replicate];omega
section
variable {P:Program} {w:World} {K:PySem.W.Frag} {mg:Str→Option Value} {base:Heap} {k n:Nat} {x qual:Str} {st:Stmt} {f:Addr} {fd:FuncData} {N ps:List Str} {fr:Bool} {sp:TSp}
theorem fW {F S:Addr→Prop}{H:Hp}{ts:List Tr}{us:List V}(hF:∀a,F a→H a≠none)(hS:∀a,S a→F a)(hst:∀a,S a→nZ a H)(r:zM F H ts us)(hl:ts.length≤N.length) :
  RS K ⟨F,S,H,[]⟩ (fun _=>none) (start N us) (startT N false ts) H where
 f0:=hF
 s0:=hS
 ext:=fun a o e _=>e
 sst:=fun a s=>by
  rcases s with s | ⟨i,s,_⟩
  ·exact hst a s
  ·cases s
 inj:=fun i j a us _ e=>by cases e
 ow:=fun i a e=>by cases e
 len:=by
  have:=r.len
  rw[fx (by omega)]
  simp[startT];omega
 ent:=fun i=>by
  rcases j8 (ts:=ts) (n:=N.length-ts.length) (i:=i) rfl with e | ⟨t,h,e⟩
  ·show Ent K _ _ H i _ (nth (ts.map TV.fz++List.replicate (N.length-ts.length) .un) i)
   rw[e];trivial
  ·show Ent K _ _ H i _ (nth (ts.map TV.fz++List.replicate (N.length-ts.length) .un) i)
   rw[e]
   obtain⟨v,e1,e2⟩:=r.getT h
   exact⟨v,jW e1,yz (fun a o e n=>⟨e,fun z=>n (z.elim id fun⟨_,z⟩=>nomatch z)⟩) _ _ e2⟩
 gh:=fun p hp=>absurd hp (by simp)
theorem xce {F S:Addr→Prop}{H:Hp}{ts:List Tr}{us:List V}{p:Addr}(hp:S p)(hF:∀a,F a→H a≠none)(hS:∀a,S a→F a)(hst:∀a,S a→nZ a H)(r:zM F H ts us)(hl:ts.length+1≤N.length) :
  RS K ⟨F,S,H,[]⟩ (fun i=>if i=0 then some p else none) (start N (.ref p::us)) (startT N true ts) H where
 f0:=hF
 s0:=hS
 ext:=fun a o e _=>e
 sst:=fun a s=>by
  rcases s with s | ⟨i,s,_⟩
  ·exact hst a s
  ·have s:(if i=0 then some p else none)=some a:=s
   by_cases e:i=0
   ·rw[if_pos e] at s;cases s;exact hst _ hp
   ·rw[if_neg e] at s;cases s
 inj:=fun i j a us hi e=>by
  exfalso
  by_cases e0:i=0
  ·subst e0;cases hi
  ·rw[if_neg e0] at e;cases e
 ow:=fun i a e=>by
  by_cases e0:i=0
  ·rw[if_pos e0] at e;cases e;exact(hst _ hp).ne_none
  ·rw[if_neg e0] at e;cases e
 len:=by
  have:=r.len
  rw[fx (by rw[xkM];omega)]
  simp[startT];omega
 ent:=fun i=>by
  cases i with
  | zero=>exact⟨p,jW (by rfl),if_pos rfl,.inl hp⟩
  | succ i =>
   show Ent K _ _ H (i+1) _ (nth (ts.map TV.fz++List.replicate (N.length-(ts.length+1)) .un) i)
   rcases j8 (ts:=ts) (n:=N.length-(ts.length+1)) (i:=i) rfl with e | ⟨t,h,e⟩
   ·rw[e];trivial
   ·rw[e]
    obtain⟨v,e1,e2⟩:=r.getT h
    refine⟨v,jW (by rw[List.getElem?_cons_succ];exact e1),yz (fun a o e n=>⟨e,fun z=>n ?_⟩) _ _ e2⟩
    rcases z with z | ⟨j,z⟩
    ·exact z
    ·have z:(if j=0 then some p else none)=some a:=z
     by_cases e0:j=0
     ·rw[if_pos e0] at z;cases z;exact hS _ hp
     ·rw[if_neg e0] at z;cases z
 gh:=fun p hp=>absurd hp (by simp)
theorem xM (F:Fun K x qual st f fd)(S:xC N ps (xf st))(mgx:mg x=some (.ref f))(b:Binds K fd ps [])(hn:ps.length=n)
  (body:∀(cdv:Value) (A:Around) (outer:List Env) (s:Shared) (H:Hp) (E:XK),kL k (A.deeper (envOfC qual (xf st) s.heap.objs.size f cdv)) →
   ∃T D,PSs (gU CX0 P w K mg base N qual (xf st) f cdv A outer s H E).nox (yZ st) T∧OkS K fr T D∧∀ts KK,ts.length=n→sp ts KK→D { nx:=fun _=>fr=false∧KK .non,rt:=KK } (startT N false ts)) :
  Own P w K mg base (k+1) x ps (spT n false fr sp):=by
 have hpl:ps.length≤N.length:=by have:=xlN List.length S.pre;rw[xkT] at this;omega
 refine dY F S mgx b (fun vs H Q E h=>?_) (fun cdv A outer s H vs Q E hr h=>?_)
 ·obtain⟨F',S',ts,KK,us,e,_,_,_,r,l,_⟩:=h
  cases (show vs=us from e)
  rw[←r.len,l,hn]
 ·obtain⟨F',S',ts,KK,us,e,hF,hS,hst,r,l,hsp,q⟩:=h
  cases (show vs=us from e)
  obtain⟨T,D,ht,hd,h⟩:=body cdv A outer s H E hr
  refine⟨T,ht,hd _ _ _ _ H _ _ (fW hF hS hst r (by omega)) (h ts KK l hsp) ⟨fun φ σ τ H1 R k=>?_,fun _ _ _ _ _ z=>z.elim,fun _ _ _ _ _ z=>z.elim,fun t v H1 r1 x k fl=>?_⟩⟩
  ·obtain⟨k1,k2⟩:=k
   exact q .non .non H1 k2 R.ext (fun a z=>R.sst a (.inl z)) rfl fun z=>by rw[k1] at z;cases z
  ·exact q t v H1 k x.ext x.st r1 fl
theorem mI (F:Fun K x qual st f fd)(S:xC N ps (xf st))(mgx:mg x=some (.ref f))(b:Binds K fd ps [])(hn:ps.length=n+1)
  (body:∀(cdv:Value) (A:Around) (outer:List Env) (s:Shared) (H:Hp) (E:XK),kL k (A.deeper (envOfC qual (xf st) s.heap.objs.size f cdv)) →
   ∃T D,PSs (gU CX0 P w K mg base N qual (xf st) f cdv A outer s H E).nox (yZ st) T∧OkS K fr T D∧∀ts KK,ts.length=n→sp ts KK→D { nx:=fun _=>fr=false∧KK .non,rt:=KK } (startT N true ts)) :
  Own P w K mg base (k+1) x ps (spT n true fr sp):=by
 have hpl:ps.length≤N.length:=by have:=xlN List.length S.pre;rw[xkT] at this;omega
 refine dY F S mgx b (fun vs H Q E h=>?_) (fun cdv A outer s H vs Q E hr h=>?_)
 ·obtain⟨F',S',ts,KK,us,⟨p,e,_⟩,_,_,_,r,l,_⟩:=h
  rw[e,xkM,←r.len,l,hn]
 ·obtain⟨F',S',ts,KK,us,⟨p,e,hp⟩,hF,hS,hst,r,l,hsp,q⟩:=h
  subst e
  obtain⟨T,D,ht,hd,h⟩:=body cdv A outer s H E hr
  refine⟨T,ht,hd _ _ _ _ H _ _ (xce hp hF hS hst r (by omega)) (h ts KK l hsp) ⟨fun φ σ τ H1 R k=>?_,fun _ _ _ _ _ z=>z.elim,fun _ _ _ _ _ z=>z.elim,fun t v H1 r1 x k fl=>?_⟩⟩
  ·obtain⟨k1,k2⟩:=k
   exact q .non .non H1 k2 R.ext (fun a z=>R.sst a (.inl z)) rfl fun z=>by rw[k1] at z;cases z
  ·exact q t v H1 k x.ext x.st r1 fl
def xgF (H:Hp):Prop:=∀b,(H b=none∨∃o xs,H b=some (.frz o (.lst xs)))∨∃q,H b=some (.tb q)
end
section
variable {K:PySem.W.Frag} {fr:Bool}
def xdQ (j i:Nat)(d:DE):DS:=fun G τ=>match nth τ i with | .sc _=>d τ (fun t=>match t with | .int k=>0≤k∧G.nx (τ.set j .st) | _=>False) | _=>False
theorem l7 (h:OkE K b te d):OkS K fr (xcj (xgd (cg K) (uo (sZ i) (uo te bW))) (gN j)) (xdQ j i d):=fun B φ σ τ H E G R hd e=>by
 have en:=R.ent i
 unfold xdQ at hd
 revert en hd
 cases hi:nth τ i with
 | sc ns =>
  intro hd ⟨a,e1,hl,so,_⟩
  refine⟨_,e1,h B φ σ τ H _ _ R hd fun t v H1 x1 k1 r1=>?_⟩
  cases t with
  | int k =>
   cases (show v=.int k from r1)
   have sq:SqL K H1 a (ns.map V.int):=by
    rcases so with ⟨o,q⟩ | q
    ·exact .inl (.inr ⟨o,x1.keep a _ q (aG R q)⟩)
    ·exact q H1
   refine⟨a,ns,k,rfl,sq,hl,k1.1,fun p n b hp hok=>?_⟩
   have x2:=x1.trans (HX.new (R.hx x1) hp (.lst [.int n,.bl b]))
   have z0:B.H0 p=none:=by
    cases q:B.H0 p with
    | none=>rfl
    | some o =>
     by_cases s:B.S0 p
     ·exact absurd hp ((R.hx x1).sst p (.inl s)).ne_none
     ·rw[(R.hx x1).ext p o q s] at hp;cases hp
   refine e.nx _ _ _ _ (R.setNew (x:=.st) x2 (x1.none hp) (by rw[xZ];exact fun z=>nomatch z) (fun _=>⟨n,b,xZ,hok⟩) ⟨p,rfl,og,.inr z0⟩) k1.2
  | _=>exact k1.elim
 | _=>exact fun z _=>z.elim
def xaz:TSp:=fun ts KK=>match ts with | [.int many]=>(0<many∧many<2 ^ 128)∧∀r,0≤r→r<many→KK (.int r) | _=>False
theorem xad (h:Own P w K mg base k x ps xdF):Own P w K mg base k x ps (spT 1 true false xaz):=h.imp fun vs H Q E q=>by
 obtain⟨F,S,ts,KK,us,⟨p,e,hp⟩,hF,hS,hst,r,l,hsp,q⟩:=q
 unfold xaz at hsp
 split at hsp
 ·rename_i many
  obtain⟨v,rfl,r1⟩:=vo r
  cases (show v=.int many from r1)
  refine⟨p,many,e,hst p hp,hsp.1.1,hsp.1.2,fun r H' h0 h1 sb=>q (.int r) (.int r) H' (hsp.2 r h0 h1) (fun a o e n=>sb.keep a o (fun z=>n (by rw[z];exact hp)) e) (fun a s=>?_) rfl (fun z=>nomatch z)⟩
  by_cases ea:a=p
  ·rw[ea];exact sb.st
  ·obtain⟨n,b,e1,z⟩:=hst a s
   exact⟨n,b,sb.keep a _ ea e1,z⟩
 ·exact hsp.elim
end
end L2
namespace L2
open PySem PySem.Spec PyProof.Rows
mutual
def vL:Tr→PyData
 | .non=>.none | .bl b=>.bool b | .int i=>.int i | .str x=>.str x | .emp=>.dict [] | .tup ts=>.tuple (ui ts) | .lst ts=>.list (ui ts)
def ui:List Tr→List PyData
 | []=>[]
 | t::ts=>vL t::ui ts
end
def teq (t u:Tr):Bool:=PyData.eqv (vL t) (vL u)
def pln (t:Tr):Bool:=(vL t).canLay0
def dep (t:Tr):Nat:=(vL t).depth
section
variable {X:Cx} {pins:List (Addr×Obj)} {σ:St} {H:Hp} {s:Shared}
mutual
theorem uY (I:Inv X pins σ H s):∀(t:Tr) (x:V) (a:Value),Rep F H t x→RelV x a→pln t=true→∃as,Reads s.heap a (vL t) as
 | .non,x,a,r,e,_=>by cases (show x=.non from r);cases e;exact⟨_,.none⟩
 | .bl b,x,a,r,e,_=>by cases (show x=.bl b from r);cases e;exact⟨_,.bool b⟩
 | .int i,x,a,r,e,_=>by cases (show x=.int i from r);obtain⟨t,rfl⟩:=e;exact⟨_,.int i t⟩
 | .str i,x,a,r,e,_=>by cases (show x=.str i from r);obtain⟨t,rfl⟩:=e;exact⟨_,.str i t⟩
 | .emp,x,a,r,e,h=>by cases h
 | .tup ts,x,a,r,e,h=>by
  obtain⟨p,ws,rfl,_,hp,rl⟩:=r
  cases e
  obtain⟨its,rv,⟨o,ho,hc,n,hd⟩,_⟩:=I.tuple (SqT.of hp)
  obtain⟨as,ra⟩:=wM I ts ws its rl rv h
  exact⟨_,.tuple ho hc hd (by simpa using ra)⟩
 | .lst ts,x,a,r,e,h=>by
  obtain⟨p,ws,rfl,_,hp,rl⟩:=r
  cases e
  obtain⟨its,rv,pl,_⟩:=I.list (SqL.of hp)
  obtain⟨o,ho,hc,n,hd⟩:=pl.isList
  obtain⟨as,ra⟩:=wM I ts ws its rl rv h
  exact⟨_,.list ho hc hd (by simpa using ra)⟩
theorem wM (I:Inv X pins σ H s):∀(ts:List Tr) (ws:List V) (us:List Value),zM F H ts ws→zf ws us→PyData.canLayAll0 (ui ts)=true→∃as,ReadsAll s.heap us (ui ts) as
 | [],ws,us,r,v,_=>by cases (show ws=[] from r);cases v;exact⟨_,.nil⟩
 | t::ts,ws,us,r,v,h=>by
  obtain⟨w,r',rfl,h1,h2⟩:=r
  cases v with
  | cons v1 v2 =>
   have h':pln t=true∧PyData.canLayAll0 (ui ts)=true:=by
    have:(pln t&&PyData.canLayAll0 (ui ts))=true:=h
    simpa using this
   obtain⟨as,ra⟩:=uY I t w _ h1 v1 h'.1
   obtain⟨bs,rb⟩:=wM I ts r' _ h2 v2 h'.2
   exact⟨_,.cons ra rb⟩
end
end
def xdb (t u:Tr):Prop:=pln t=true∧pln u=true∧min (dep t) (dep u)≤64
def xiR:R2:=fun x y H Q=>∃F G t u,Rep F H t x∧Rep G H u y∧xdb t u∧Q (.bl (teq t u)) H
def xiH:R2:=fun x y H Q=>∃F G t u,Rep F H t x∧Rep G H u y∧xdb t u∧Q (.bl (!teq t u)) H
section
variable {X:Cx}
theorem we (hu:X.A.units+64<cLine):OpR X (compareOp .Eq) xiR:=by
 intro pins s σ H x y v u Q I rx ry h
 obtain⟨F,G,t,t',r1,r2,⟨p1,p2,p3⟩,q⟩:=h
 obtain⟨as,ra⟩:=uY I t x v r1 rx p1
 obtain⟨bs,rb⟩:=uY I t' y u r2 ry p2
 exact SeqAt.rcAt_reads ra rb p1 p2 (xlA (Nat.add_le_add_left p3 _) hu) X.prog X.w _ _ ⟨.bl _,H,I,rfl,q⟩
theorem uV (hu:X.A.units+64<cLine):OpR X (compareOp .NotEq) xiH:=by
 intro pins s σ H x y v u Q I rx ry h
 obtain⟨F,G,t,t',r1,r2,⟨p1,p2,p3⟩,q⟩:=h
 obtain⟨as,ra⟩:=uY I t x v r1 rx p1
 obtain⟨bs,rb⟩:=uY I t' y u r2 ry p2
 exact SeqAt.rcNeAt_reads ra rb p1 p2 (xlA (Nat.add_le_add_left p3 _) hu) X.prog X.w _ _ ⟨.bl _,H,I,rfl,q⟩
def xiw (neg:Bool):R2:=fun x y H Q=>∃F G t ts,Rep F H t x∧(Rep G H (.lst ts) y∨Rep G H (.tup ts) y)∧pln t=true∧PyData.canLayAll0 (ui ts)=true∧dep t≤60∧Q (.bl (if neg then !(ts.any fun u=>teq u t) else ts.any fun u=>teq u t)) H
theorem qU (e:Value→Bool)(he:∀y d as,Reads h y d as→d.canLay0=true→e y=PyData.eqv d d0):∀(ts:List Tr) (us:List Value) (as:List Addr),ReadsAll h us (ui ts) as→PyData.canLayAll0 (ui ts)=true→us.any e=ts.any fun u=>PyData.eqv (vL u) d0
 | [],us,as,r,_=>by cases r;rfl
 | t::ts,us,as,r,hl=>by
  have h':(vL t).canLay0=true∧PyData.canLayAll0 (ui ts)=true:=by
   have:((vL t).canLay0&&PyData.canLayAll0 (ui ts))=true:=hl
   simpa using this
  generalize hg:ui (t::ts)=ds at r
  cases r with
  | nil=>cases hg
  | cons r1 r2 =>
   have e1:vL t=_:=(List.cons.inj hg).1
   have e2:ui ts=_:=(List.cons.inj hg).2
   subst e1 e2
   rw[List.any_cons,List.any_cons,he _ _ _ r1 h'.1,qU e he ts _ _ r2 h'.2]
theorem fL:∀(ds:List PyData) (us:List Value) (as:List Addr),ReadsAll h us ds as→PyData.canLayAll0 ds=true→y∈us→∃d as,Reads h y d as∧d.canLay0=true
 | [],us,as,r,_,hm=>by cases r;exact absurd hm (by simp)
 | d::ds,us,as,r,hl,hm=>by
  have h':d.canLay0=true∧PyData.canLayAll0 ds=true:=by
   have:(d.canLay0&&PyData.canLayAll0 ds)=true:=hl
   simpa using this
  cases r with
  | cons r1 r2 =>
   rcases xk5.mp hm with rfl | hm
   ·exact⟨d,_,r1,h'.1⟩
   ·exact fL ds _ _ r2 h'.2 hm
open Classical in
def eBy (h:Heap)(d0:PyData)(y:Value):Bool:=if ∃d as,Reads h y d as∧d.canLay0=true∧PyData.eqv d d0=true then true else false
theorem az (y:Value)(d:PyData)(as:List Addr)(r:Reads h y d as)(hl:d.canLay0=true):eBy h d0 y=PyData.eqv d d0:=by
 unfold eBy
 cases hq:PyData.eqv d d0 with
 | true=>rw[if_pos ⟨d,as,r,hl,hq⟩]
 | false =>
  rw[if_neg]
  rintro⟨d',as',r',hl',hq'⟩
  have:=SeqAt.Reads.unique d d' y as as' hl r r'
  subst this
  rw[hq] at hq';cases hq'
theorem xbb (hu:X.A.units+64<cLine):OpR X (compareOp .In) (xiw false):=by
 intro pins s σ H x y v u Q I rx ry h
 obtain⟨F,G,t,ts,r1,r2,p1,p2,p3,q⟩:=h
 obtain⟨as,ra⟩:=uY I t x v r1 rx p1
 have room:∀d:PyData,X.A.in1.units+min d.depth (vL t).depth<cLine:=fun d=>by
  have h1:min d.depth (vL t).depth≤60:=xly (xlE _ _) p3
  show X.A.units+1+_<_
  omega
 have eqa:∀(ds:List PyData) (us:List Value) (bs:List Addr),ReadsAll s.heap us ds bs→PyData.canLayAll0 ds=true→∀z∈us,SeqAt.EqAt X.A.in1 s z v (eBy s.heap (vL t) z):=fun ds us bs rb hl z hz=>by
  obtain⟨d,cs,rd,hd⟩:=fL ds us bs rb hl hz
  rw[az z d cs rd hd]
  exact SeqAt.eqAt_reads d (vL t) _ s z v _ _ rd ra hd p1 (room d)
 rcases r2 with r2 | r2
 ·obtain⟨p,ws,rfl,_,hp,rl⟩:=r2
  cases ry
  obtain⟨its,rv,pl,_⟩:=I.list (SqL.of hp)
  obtain⟨bs,rb⟩:=wM I ts ws its rl rv p2
  refine SeqAt.in_listAt (eBy s.heap (vL t)) pl.isList (fun z hz=>eqa _ _ _ rb p2 z (by simpa using hz)) ⟨.bl _,H,I,?_,q⟩
  show Value.bool _=Value.bool _
  rw[if_neg xjJ,show(ts.any fun u=>teq u t)=its.toArray.any (eBy s.heap (vL t)) from by
   rw[show(its.toArray.any (eBy s.heap (vL t)))=its.any (eBy s.heap (vL t)) by simp]
   exact(qU (eBy s.heap (vL t)) (fun y d as r hl=>az y d as r hl) ts its bs rb p2).symm]
 ·obtain⟨p,ws,rfl,_,hp,rl⟩:=r2
  cases ry
  obtain⟨its,rv,pl,_⟩:=I.tuple (SqT.of hp)
  obtain⟨bs,rb⟩:=wM I ts ws its rl rv p2
  refine SeqAt.in_tupleAt (eBy s.heap (vL t)) pl (fun z hz=>eqa _ _ _ rb p2 z (by simpa using hz)) ⟨.bl _,H,I,?_,q⟩
  show Value.bool _=Value.bool _
  rw[if_neg xjJ,show(ts.any fun u=>teq u t)=its.toArray.any (eBy s.heap (vL t)) from by
   rw[show(its.toArray.any (eBy s.heap (vL t)))=its.any (eBy s.heap (vL t)) by simp]
   exact(qU (eBy s.heap (vL t)) (fun y d as r hl=>az y d as r hl) ts its bs rb p2).symm]
theorem bK (hu:X.A.units+64<cLine):OpR X (compareOp .NotIn) (xiw true):=by
 intro pins s σ H x y v u Q I rx ry h
 obtain⟨F,G,t,ts,r1,r2,p1,p2,p3,q⟩:=h
 obtain⟨as,ra⟩:=uY I t x v r1 rx p1
 have room:∀d:PyData,X.A.in1.units+min d.depth (vL t).depth<cLine:=fun d=>by
  have h1:min d.depth (vL t).depth≤60:=xly (xlE _ _) p3
  show X.A.units+1+_<_
  omega
 have eqa:∀(ds:List PyData) (us:List Value) (bs:List Addr),ReadsAll s.heap us ds bs→PyData.canLayAll0 ds=true→∀z∈us,SeqAt.EqAt X.A.in1 s z v (eBy s.heap (vL t) z):=fun ds us bs rb hl z hz=>by
  obtain⟨d,cs,rd,hd⟩:=fL ds us bs rb hl hz
  rw[az z d cs rd hd]
  exact SeqAt.eqAt_reads d (vL t) _ s z v _ _ rd ra hd p1 (room d)
 rcases r2 with r2 | r2
 ·obtain⟨p,ws,rfl,_,hp,rl⟩:=r2
  cases ry
  obtain⟨its,rv,pl,_⟩:=I.list (SqL.of hp)
  obtain⟨bs,rb⟩:=wM I ts ws its rl rv p2
  refine SeqAt.notIn_listAt (eBy s.heap (vL t)) pl.isList (fun z hz=>eqa _ _ _ rb p2 z (by simpa using hz)) ⟨.bl _,H,I,?_,q⟩
  show Value.bool _=Value.bool _
  rw[if_pos rfl,show(ts.any fun u=>teq u t)=its.toArray.any (eBy s.heap (vL t)) from by
   rw[show(its.toArray.any (eBy s.heap (vL t)))=its.any (eBy s.heap (vL t)) by simp]
   exact(qU (eBy s.heap (vL t)) (fun y d as r hl=>az y d as r hl) ts its bs rb p2).symm]
 ·obtain⟨p,ws,rfl,_,hp,rl⟩:=r2
  cases ry
  obtain⟨its,rv,pl,_⟩:=I.tuple (SqT.of hp)
  obtain⟨bs,rb⟩:=wM I ts ws its rl rv p2
  refine SeqAt.notIn_tupleAt (eBy s.heap (vL t)) pl (fun z hz=>eqa _ _ _ rb p2 z (by simpa using hz)) ⟨.bl _,H,I,?_,q⟩
  show Value.bool _=Value.bool _
  rw[if_pos rfl,show(ts.any fun u=>teq u t)=its.toArray.any (eBy s.heap (vL t)) from by
   rw[show(its.toArray.any (eBy s.heap (vL t)))=its.any (eBy s.heap (vL t)) by simp]
   exact(qU (eBy s.heap (vL t)) (fun y d as r hl=>az y d as r hl) ts its bs rb p2).symm]
end
def xgr (neg:Bool)(x y:Tr)(KK:Tr→Prop):Prop:=match x,y with
 | .int i,.int j=>KK (.bl (if neg then !decide (i=j) else decide (i=j)))
 | x,y=>xdb x y∧KK (.bl (if neg then !teq x y else teq x y))
theorem xdp (i j:Int):xdb (.int i) (.int j):=⟨rfl,rfl,by show min 0 0≤64;decide⟩
theorem xby {neg:Bool}{x y:Tr}{KK:Tr→Prop}(h:xgr neg x y KK):xdb x y∧KK (.bl (if neg then !teq x y else teq x y)):=by
 unfold xgr at h
 split at h
 ·exact⟨xdp _ _,h⟩
 ·exact h
theorem os_eq:OpS xiR (xgr false):=fun F G H x y t u KK Q r1 r2 hf q=>by
 obtain⟨h1,h2⟩:=xby hf
 exact⟨F,G,t,u,r1,r2,h1,q _ _ rfl h2⟩
theorem k8:OpS xiH (xgr true):=fun F G H x y t u KK Q r1 r2 hf q=>by
 obtain⟨h1,h2⟩:=xby hf
 exact⟨F,G,t,u,r1,r2,h1,q _ _ rfl h2⟩
def fIn (neg:Bool)(x y:Tr)(KK:Tr→Prop):Prop:=match y with
 | .lst ts=>(pln x=true∧PyData.canLayAll0 (ui ts)=true∧dep x≤60)∧KK (.bl (if neg then !(ts.any fun u=>teq u x) else ts.any fun u=>teq u x))
 | .tup ts=>(pln x=true∧PyData.canLayAll0 (ui ts)=true∧dep x≤60)∧KK (.bl (if neg then !(ts.any fun u=>teq u x) else ts.any fun u=>teq u x))
 | _=>False
theorem lD:OpS (xiw neg) (fIn neg):=fun F G H x y t u KK Q r1 r2 hf q=>by
 unfold fIn at hf
 split at hf
 ·exact⟨F,G,t,_,r1,.inl r2,hf.1.1,hf.1.2.1,hf.1.2.2,q _ _ rfl hf.2⟩
 ·exact⟨F,G,t,_,r1,.inr r2,hf.1.1,hf.1.2.1,hf.1.2.2,q _ _ rfl hf.2⟩
 ·exact hf.elim
end L2
namespace L2
open PySem PySem.Spec PyProof.Rows
def xiv (K:PySem.W.Frag)(tl:TE):TI:=fun σ H R=>tl σ H fun x H1=>∃a,x=.ref a∧(((∃xs,SqL K H1 a xs)∧R (Itl K a) H1)∨((∃xs,SqT K H1 a xs)∧R (Itt K a) H1))
section
variable {X:Cx}
theorem yy (K:PySem.W.Frag)(hl:PE X l tl)(e:X.K=K:=by rfl):PI X tg l (xiv K tl):=by
 subst e
 intro pins s σ H R I h
 refine thn (@hl pins s σ H _ I h) fun v s1 ⟨x,H1,I1,r1,q1⟩=>?_
 obtain⟨a,e,q⟩:=q1
 subst e
 cases r1
 rcases q with ⟨⟨xs,hq⟩,q⟩ | ⟨⟨xs,hq⟩,q⟩
 ·obtain⟨its,rv,p,hz⟩:=I1.list hq
  refine wpAny_pyIter_list p.isList ?_
  refine⟨s1.heap.objs.size,[s1.heap.objs.size],_,_,H1,rfl,I1.kept (t':=s1.toks) fun b o e=>Heap.get?_push_of_some _ e,xb3 a _,⟨_,Heap.get?_push_size _ rfl,rfl,rfl⟩,fun b hb=>?_,q⟩
  have e:b=s1.heap.objs.size:=by simpa using hb
  subst e
  exact I1.fpOk (xlw _) (I1.hok.fresh (xlw _))
 ·obtain⟨its,rv,p,hz⟩:=I1.tuple hq
  refine wpAny_pyIter_tuple (show s1.heap.IsTuple a its.toArray from p) ?_
  refine⟨s1.heap.objs.size,[s1.heap.objs.size],_,_,H1,rfl,I1.kept (t':=s1.toks) fun b o e=>Heap.get?_push_of_some _ e,lq a _,⟨_,Heap.get?_push_size _ rfl,rfl,rfl⟩,fun b hb=>?_,q⟩
  have e:b=s1.heap.objs.size:=by simpa using hb
  subst e
  exact I1.fpOk (xlw _) (I1.hok.fresh (xlw _))
end
section
variable {K:PySem.W.Frag}
theorem yf (h:OkE K b te d):OkI K b (xiv K te) (xiD d):=fun B φ σ τ H R KK Rs hd q =>
 h B φ σ τ H _ _ Rs hd fun t v H1 x1 k1 r1=>by
  cases t with
  | lst ts =>
   obtain⟨a,ws,e,n,ha,rl⟩:=id r1
   subst e
   exact⟨a,rfl,.inl ⟨⟨ws,SqL.of ha⟩,q _ ts _ H1 x1 k1 xcm fun p hp=>by
    cases xlg.mp hp
    exact r1⟩⟩
  | tup ts =>
   obtain⟨a,ws,e,n,ha,rl⟩:=id r1
   subst e
   exact⟨a,rfl,.inr ⟨⟨ws,SqT.of ha⟩,q _ ts _ H1 x1 k1 xeD fun p hp=>by
    cases xlg.mp hp
    exact r1⟩⟩
  | _=>exact k1.elim
theorem dP:xhn K (xiv K (sZ i)) (xh0 i):=fun B φ σ τ H R KK Rs hd q=>by
 obtain⟨v,e,a,ea,s,r⟩:=xcq (i:=i) B φ σ τ H R KK Rs hd q
 exact⟨v,e,a,ea,.inl ⟨s,r⟩⟩
end
def Ite (K:PySem.W.Frag)(b:Bool)(a:Addr):It :=
 ⟨fun i H=>∃xs x,Sq2 K b H a xs∧xs[i]? = some x,
  fun i H v H'=>∃x q,(∀xs,Sq2 K b H a xs→xs[i]? = some x)∧v=.ref q∧H q=none∧H'=upd H q (.tup [.int i,x]),
  fun i H=>∃xs,Sq2 K b H a xs∧xs.length≤i⟩
theorem Inv.sq2_inj (I:Inv X pins σ H s)(h:Sq2 X.K b H a xs)(h':Sq2 X.K b H a ys):xs=ys:=by
 cases b with
 | true=>exact I.tuple_inj (show SqT X.K H a xs from h) h'
 | false=>exact I.list_inj (show SqL X.K H a xs from h) h'
theorem xc_ (D:Drw it a vs tn src)(hne:a≠it)(hh:A.handled=none) :
  Draws prog w A it [it,a] vs.length (fun i x=>vs[i]? = some x) (fun i h=>tn i h∧src h) where
 live:=fun i h st=>let ⟨o,e,_⟩:=D.ob i h st.1;⟨o,e⟩
 frame:=fun i h h' st k=>⟨D.mv _ _ _ st.1 (k it (by simp)),D.smv _ _ st.2 (k a (by simp))⟩
 item:=fun i s Q E hi st hQ=>D.item prog w A E i vs[i] s Q st.1 st.2 (xkD hi) fun h' t' sb=>hQ _ h' s.toks (xkD hi) ⟨t',D.smv _ _ st.2 fun o e=>sb.extBut _ o hne e⟩ sb
 done:=fun s Q E st hE=>D.fin prog w A E vs.length s Q hh st.1 st.2 (xkE (xlw _)) hE
section
variable {P:Program} {w:World} {K:PySem.W.Frag} {e it a:Addr} {b:Bool}
def ESt (b:Bool)(e it a:Addr)(i:Nat)(h:Heap):Prop:=(∃old,IsEnum h e it i old)∧Tn2 b it a i h
theorem xaG (hei:e≠it)(hea:a≠e)(hia:a≠it):Turn P w K (.Tuple elts kk pp) (Ite K b a) [e,it] e (ESt b e it a) where
 mem:=by simp
 obj:=fun i h st c hc=>by
  obtain⟨⟨old,s1⟩,s2⟩:=st
  simp only[xk5,xlk,xlW] at hc
  rcases hc with z | z<;>subst z
  ·exact⟨_,s1,fun v=>by simp⟩
  ·exact(rS b _ a []).ob _ _ s2
 keep:=fun i h h' st k=>by
  obtain⟨⟨old,s1⟩,s2⟩:=st
  exact⟨⟨old,k _ (by simp) _ s1⟩,(rS b it a []).mv _ _ _ s2 fun o e=>k _ (by simp) o e⟩
 item:=by
  intro X hP hw hK hc i pins s σ H E I hf st hg
  subst hP hw hK
  obtain⟨⟨old,s1⟩,s2⟩:=st
  obtain⟨xs,x,sq1,hx⟩:=hg
  obtain⟨vs,rv,c1⟩:=I.sq2 sq1
  obtain⟨xv,ex,rx⟩:=rv.get hx
  have hi:i<vs.length:=(xkF.mp ex).1
  have fr:H s.heap.objs.size=none:=I.hok.fresh (xlw _)
  have D:=xc_ (prog:=X.prog) (w:=X.w) (A:=X.A.in1) (rS b it a vs) hia (show X.A.in1.handled=none from I.ok.hd hc)
  refine wpAny_pyNext_enum_itemD D s1 ⟨s2,c1⟩ hi hei (by simp[hei,Ne.symm hea]) fun xv' g tk hP ho st' hT hsz kp=>⟨_,rfl,?_⟩
  rw[ex] at hP;cases hP
  refine wpAny_letOwnedTupleGo_enum ho fun g2 he2 S2=>?_
  have lte:e<s.heap.objs.size:=Heap.lt_size s1
  have kp2:∀c o,c∉[e,it]→s.heap.get? c=some o→g2.get? c=some o:=fun c o hc e=>by
   simp only[xk5,xlk,xlW,not_or] at hc
   exact S2.extBut _ _ hc.1 (kp c o hc.1 hc.2 e)
  have T2:=S2.extBut _ _ (xlG lte) hT
  have st2:ESt b e it a (i+1) g2:=⟨⟨_,by simpa using he2⟩,(rS b it a vs).mv _ _ _ st'.1 fun o q=>S2.extBut _ o (Ne.symm hei) q⟩
  have nfp:∀c u,H c=some u→c∉[e,it]:=fun c u q hm=>by rw[(hf c hm).1] at q;cases q
  have nT:∀c o,s.heap.get? c=some o→c≠s.heap.objs.size:=fun c o e=>xlH (Heap.lt_size e)
  refine⟨.ref s.heap.objs.size,upd H s.heap.objs.size (.tup [.int i,x]),?_,rfl,⟨x,_,fun xs' h'=>by rw[←I.sq2_inj sq1 h'];exact hx,rfl,fr,rfl⟩,st2,fun c hm=>?_⟩
  ·show Inv X pins σ (upd H s.heap.objs.size (.tup [.int i,x])) { s with heap:=g2,gens:=s.gens,drawn:=s.drawn,toks:=tk+1 }
   refine Inv.step (s:=s) (g':=s.gens) (d':=s.drawn) (t':=tk+1) (ch:=[e,it]) I (fun c hm=>?_) (fun c o _ _ hm e _=>kp2 c o hm e) (fun c o _ _ hm e _=>⟨o.slots,kp2 c o hm e⟩) (fun c o hm e n=>by rw[xW (nT c o e)];exact n) (fun c o hm e=>⟨o,kp2 c o hm e⟩)
    (fun c zs e=>by rw[xW (xF e fr)];exact e) (fun c o u e=>by rw[xW (xF e fr)];exact e) (fun c ps e=>⟨#[],by rw[xW (xF e fr),e];simp⟩) (fun m hm=>?_) (fun c u e=>?_) I.bare
   ·obtain⟨_,f1,_,f3,f4,f5⟩:=hf c hm
    exact⟨f3,f1,f4,f5⟩
   ·obtain⟨o,es,ep,ho,r⟩:=hm
    exact⟨o,es,ep,kp2 _ o (fun z'=>(hf _ z').2.1 rfl) ho,r⟩
   ·by_cases hc':c=s.heap.objs.size
    ·subst hc'
     rw[xZ] at e
     cases e
     exact⟨by show 2≤sizeLine;decide,[.int i tk,xv],.cons ⟨_,rfl⟩ (.cons rx .nil),_,T2,rfl,0,rfl⟩
    ·rw[xW hc'] at e
     refine(I.hok c u e).stay (fun c' v hcc q'=>kp2 c' v ?_ q') (fun c' q'=>by rw[xW (xF q' fr)];exact q') (fun c' zs q'=>by rw[xW (xF q' fr)];exact q') fun c' o u q'=>by rw[xW (xF q' fr)];exact q'
     rcases hcc with rfl | hcc
     ·exact nfp _ _ e
     ·exact nfp _ _ hcc
  ·rw[xW]
   ·exact(hf c hm).1
   ·simp only[xk5,xlk,xlW] at hm
    rcases hm with z | z<;>subst z
    ·exact nT _ _ s1
    ·obtain⟨o,e,_⟩:=(rS b _ a []).ob _ _ s2;exact nT _ _ e
 done:=by
  intro X hP hw hK hc i pins s σ H E I hf st hg
  subst hP hw hK
  obtain⟨⟨old,s1⟩,s2⟩:=st
  obtain⟨xs,sq1,hend⟩:=hg
  obtain⟨vs,rv,c1⟩:=I.sq2 sq1
  have hT:s.TypeIs (.ref e) "enumerate" := ⟨_,s1,rfl⟩
  unfold pyNext
  refine wpAny_bind (wpAny_attempt (wpAny_callSpecial?_slot (name:=Str.ofString "__next__") hT F.slot_enumerate_next (wpAny_call_entry F.slot_enumerate_next hT F.entry_enumerate_next ?_ (F.args_enumerate_next_1 _))))
  show wpAny _ _ (field (.ref e) 2 >>= _) _ _ _
  refine wpAny_bind (wpAny_field s1 rfl (x:=.ref it) rfl ?_)
  refine wpAny_bind ((rS b it a vs).fin _ _ _ _ i s _ (I.ok.hd hc) s2 c1 (xkE (by rw[←rv.length];exact hend)) fun g x kp hx'=>?_)
  obtain⟨o,ho,hcl⟩:=hx'
  refine wpAny_bind (wpAny_isInstance (T := "StopIteration") (b:=true) ⟨o,ho,hcl⟩ isSubtype_stop (wpAny_pure ⟨rfl,?_⟩))
  have kp2:∀c o,c∉[e,it]→s.heap.get? c=some o→g.get? c=some o:=fun c o hc q=>by
   simp only[xk5,xlk,xlW,not_or] at hc
   exact kp c o hc.2 q
  have nfp:∀c u,H c=some u→c∉[e,it]:=fun c u q hm=>by rw[(hf c hm).1] at q;cases q
  refine Inv.step (s:=s) (g':=s.gens) (d':=s.drawn) (t':=s.toks) (ch:=[e,it]) I (fun c hm=>?_) (fun c o _ _ hm e _=>kp2 c o hm e) (fun c o _ _ hm e _=>⟨o.slots,kp2 c o hm e⟩) (fun c o hm e n=>n) (fun c o hm e=>⟨o,kp2 c o hm e⟩)
   (fun c zs e=>e) (fun c o u e=>e) (fun c ps e=>⟨#[],by rw[e];simp⟩) (fun m hm=>?_) (fun c u e=>?_) I.bare
  ·obtain⟨_,f1,_,f3,f4,f5⟩:=hf c hm
   exact⟨f3,f1,f4,f5⟩
  ·obtain⟨o,es,ep,ho,r⟩:=hm
   exact⟨o,es,ep,kp2 _ o (fun z'=>(hf _ z').2.1 rfl) ho,r⟩
  ·refine(I.hok c u e).stay (fun c' v hcc q'=>kp2 c' v ?_ q') (fun _ q'=>q') (fun _ _ q'=>q') fun _ _ _ q'=>q'
   rcases hcc with rfl | hcc
   ·exact nfp _ _ e
   ·exact nfp _ _ hcc
 self:=fun A i s Q E st h=>by
  obtain⟨⟨old,s1⟩,_⟩:=st
  exact wpAny_pyIter_enum s1 h
end
open AutoSeq1 (wpAny_loadPart') in
theorem kH (l:Addr)(items:Array Value)(n:Nat)(dct:Option Addr)(sl:Array (Option Value)) :
  Meets (Builtin.«enumerate.__new__» ⟨[.type "enumerate", .ref l],[]⟩) (fun _ R s=>s.heap.get? l=some { cls:=.type "tuple", dict:=dct,data:=.seq items n,slots:=sl } ∧
   R (.ok (.ret (.ref (s.heap.push { cls:=.type "tuple_iterator", data:=.fields #[.ref l,.int 0 0] }).objs.size)))
    { s with heap:=(s.heap.push { cls:=.type "tuple_iterator", data:=.fields #[.ref l,.int 0 0] }).push { cls:=.type "enumerate", data:=.fields #[.none,.bool false,.ref s.heap.objs.size,rawInt 0,.none,.none] } }) :=
 .of_wp fun prog w A R s h=>by
  obtain⟨hp,g,d,tk,os⟩:=s;obtain⟨hl,h⟩:=h
  have hsub:=sub_enumerate
  have hL:Heap.IsTuple (Shared.heap ⟨hp,g,d,tk,os⟩) l items:=⟨_,hl,rfl,n,rfl⟩
  wp_walk using wpAny_loadPart' hl
  refine wpAny_stack_any fun st=>wpAny_pure ?_
  split
  ·rename_i c _ _ _ _ _
   cases (c == Value.type "enumerate")
   ·wp_walk using wpAny_loadPart' hl,wpAny_pyIter_tuple hL
    exact⟨_,rfl,h⟩
   ·wp_walk using wpAny_loadPart' hl,wpAny_pyIter_tuple hL
    exact⟨_,rfl,h⟩
  ·wp_walk using wpAny_loadPart' hl,wpAny_pyIter_tuple hL
   exact⟨_,rfl,h⟩
section
variable {prog:Program} {w:World} {A:Around} {E:Value→Shared→Prop} {s:Shared}
theorem kI (hL:s.heap.IsTuple l items)
  (h:∀h',IsEnum h' (s.heap.objs.size+1) s.heap.objs.size 0 .none→h'.IsTupleIter s.heap.objs.size l 0→h'.objs.size=s.heap.objs.size+2 →
   (∀b o,s.heap.get? b=some o→h'.get? b=some o)→Q (.ref (s.heap.objs.size+1)) { s with heap:=h' }) :
  wpAny (model prog w) A (call (.type "enumerate") [.ref l]) Q E s:=by
 obtain⟨⟨c,dct,dt,sl⟩,hl,hc,n,hd⟩:=hL
 replace hc:c=.type "tuple" := hc
 replace hd:dt=.seq items n:=hd
 subst hc hd
 refine callType_new F.called_enumerate (by decide) (F.typeCall_enumerate_1 _) (F.newCall_enumerate_1 _) (fun obj=>F.args_object_init_2 obj _) F.entry_enumerate_new
  (kH l items n dct sl) ⟨hl,?_⟩
 have hz:(s.heap.push { cls:=.type "tuple_iterator", data:=.fields #[.ref l,.int 0 0] }).objs.size=s.heap.objs.size+1:=Heap.size_push ..
 show _∧_
 rw[hz]
 have he:IsEnum ((s.heap.push { cls:=.type "tuple_iterator", data:=.fields #[.ref l,.int 0 0] }).push
   { cls:=.type "enumerate", data:=.fields #[.none,.bool false,.ref s.heap.objs.size,rawInt 0,.none,.none] }) (s.heap.objs.size+1) s.heap.objs.size 0 .none:=by
  have:=Heap.get?_push_size (s.heap.push { cls:=.type "tuple_iterator", data:=.fields #[.ref l,.int 0 0] })
   (o:={ cls:=.type "enumerate", data:=.fields #[.none,.bool false,.ref s.heap.objs.size,rawInt 0,.none,.none] }) rfl
  rw[hz] at this;exact this
 refine⟨⟨_,he,rfl⟩,h _ he ⟨_,Heap.get?_push_of_some _ (Heap.get?_push_size _ rfl),rfl,rfl⟩ (by rw[Heap.size_push,hz]) fun b o x=>Heap.get?_push_of_some _ (Heap.get?_push_of_some _ x)⟩
end
theorem m9:bootBuiltins "enumerate" = some (.type "enumerate"):=by decide +kernel
def xhm (K:PySem.W.Frag)(ta:TA):TI:=fun σ H R=>ta σ H fun vs H1=>∃(b:Bool) (a:Addr) (xs:List V),vs=[.ref a]∧Sq2 K b H1 a xs∧R (Ite K b a) H1
section
variable {X:Cx}
theorem xaM (K:PySem.W.Frag)(hg:Gl X "enumerate")(hm:X.mg "enumerate" = none)(ha:PA X [a] ta)(hs:starEach [a] X.env=[(false,eval a X.env)]:=by rfl)(eK:X.K=K:=by rfl) :
  PI X (.Tuple elts kk pp) (.Call (.Name "enumerate" p) [a] [] pos) (xhm K ta):=by
 subst eK
 intro pins s σ H R I h
 refine Call_ (sQ I hg hm m9 (PyProof.Rows.callWith_type1 (thn (@ha pos pins s σ H _ I h) fun us s1 ⟨vs,H1,I1,r1,q1⟩=>?_) (by rw[hs];rfl) (by rfl)))
 obtain⟨bb,a1,xs,e,sq1,q⟩:=q1
 subst e
 obtain⟨u1,rfl,ru⟩:=vals1 r1
 obtain rfl:u1=Value.ref a1:=ru
 obtain⟨vs,rv,c1⟩:=I1.sq2 sq1
 have mk:∀g,ESt bb (s1.heap.objs.size+1) s1.heap.objs.size a1 0 g→a1<s1.heap.objs.size→(∀c o,s1.heap.get? c=some o→g.get? c=some o) →
   wpAny (model X.prog X.w) X.A (pyIter (.ref (s1.heap.objs.size+1))) (PIE X pins σ (.Tuple elts kk pp) R) X.xe { s1 with heap:=g }:=fun g st la kp=>by
  obtain⟨⟨old,he⟩,st2⟩:=st
  refine wpAny_pyIter_enum he ⟨_,[s1.heap.objs.size+1,s1.heap.objs.size],ESt bb (s1.heap.objs.size+1) s1.heap.objs.size a1,_,H1,rfl,I1.kept (t':=s1.toks) kp,
   xaG (Nat.succ_ne_self _) (xlH (xlC la)) (xlH la),⟨⟨old,he⟩,st2⟩,fun b hb=>?_,q⟩
  simp only[xk5,xlk,xlW] at hb
  rcases hb with rfl | rfl
  ·exact I1.fpOk (xlx _) (I1.hok.fresh (xlx _))
  ·exact I1.fpOk (xlw _) (I1.hok.fresh (xlw _))
 cases bb with
 | true =>
  have c1:s1.heap.IsTuple a1 vs.toArray:=c1
  refine kI c1 ?_
  intro g z1 z2 _ kp
  refine mk g ⟨⟨_,z1⟩,z2⟩ ?_ kp
  obtain⟨o,e,_⟩:=c1;exact Heap.lt_size e
 | false =>
  have c1:s1.heap.IsList a1 vs.toArray:=c1
  refine call_enumerate_list c1 ?_
  intro g z1 z2 _ kp
  refine mk g ⟨⟨_,z1⟩,z2⟩ ?_ kp
  obtain⟨o,e,_⟩:=c1;exact Heap.lt_size e
end
def lB:Nat→List Tr→List Tr
 | _,[]=>[]
 | k,t::ts=>.tup [.int k,t]::lB (k+1) ts
def k9 (ts:List Tr):List Tr:=lB 0 ts
theorem uI:∀(k:Nat) (ts:List Tr),(lB k ts).length=ts.length
 | _,[]=>rfl
 | k,_::ts=>by show(lB (k+1) ts).length+1=_;rw[uI];rfl
theorem jv:∀ {k:Nat} {ts:List Tr} {i:Nat} {t:Tr},ts[i]? = some t→(lB k ts)[i]? = some (.tup [.int ((k+i:Nat):Int),t])
 | _,[],_,_,h=>by simp at h
 | k,x::ts,0,t,h=>by simp at h;subst h;rfl
 | k,x::ts,i+1,t,h=>by
  show(lB (k+1) ts)[i]? = _
  rw[jv (k:=k+1) (ts:=ts) (i:=i) (by simpa using h)]
  rw[show k+1+i=k+(i+1) by omega]
section
variable {K:PySem.W.Frag}
theorem xaB:ItL (Ite K false a) (k9 ts) [(.lst ts,.ref a)] where
 go:=fun F H i s hi=>by
  obtain⟨a',ws,e,n,h,r⟩:=s _ xk7
  cases e
  rw[show(k9 ts).length=ts.length from uI 0 ts] at hi
  obtain⟨w,e1,_⟩:=r.getT (xkD hi)
  exact⟨ws,w,SqL.of h,e1⟩
 stop:=fun F H s=>by
  obtain⟨a',ws,e,n,h,r⟩:=s _ xk7
  cases e
  exact⟨ws,SqL.of h,by rw[show(k9 ts).length=ts.length from uI 0 ts,←r.len];exact xlw _⟩
 yld:=fun F i H x H' s d hi y=>by
  obtain⟨a',ws,e,n,h,r⟩:=s _ xk7
  cases e
  obtain⟨v,q,hv,rfl,hq,rfl⟩:=y
  obtain⟨t,e1,e2⟩:=r.get (hv ws (SqL.of h))
  refine⟨.inr ⟨q,_,hq,rfl⟩,.tup [.int i,t],?_,q,_,rfl,fun z=>d q z hq,xZ,⟨_,_,rfl,rfl,_,_,rfl,dU hq e2,rfl⟩⟩
  have:=jv (k:=0) e1
  rw[Nat.zero_add] at this
  exact this
theorem xbH:ItL (Ite K true a) (k9 ts) [(.tup ts,.ref a)] where
 go:=fun F H i s hi=>by
  obtain⟨a',ws,e,n,h,r⟩:=s _ xk7
  cases e
  rw[show(k9 ts).length=ts.length from uI 0 ts] at hi
  obtain⟨w,e1,_⟩:=r.getT (xkD hi)
  exact⟨ws,w,SqT.of h,e1⟩
 stop:=fun F H s=>by
  obtain⟨a',ws,e,n,h,r⟩:=s _ xk7
  cases e
  exact⟨ws,SqT.of h,by rw[show(k9 ts).length=ts.length from uI 0 ts,←r.len];exact xlw _⟩
 yld:=fun F i H x H' s d hi y=>by
  obtain⟨a',ws,e,n,h,r⟩:=s _ xk7
  cases e
  obtain⟨v,q,hv,rfl,hq,rfl⟩:=y
  obtain⟨t,e1,e2⟩:=r.get (hv ws (SqT.of h))
  refine⟨.inr ⟨q,_,hq,rfl⟩,.tup [.int i,t],?_,q,_,rfl,fun z=>d q z hq,xZ,⟨_,_,rfl,rfl,_,_,rfl,dU hq e2,rfl⟩⟩
  have:=jv (k:=0) e1
  rw[Nat.zero_add] at this
  exact this
def xgU (d:DA):DI:=fun τ KK=>d τ fun xs=>match xs with | [.tup ts]=>KK (k9 ts) | [.lst ts]=>KK (k9 ts) | _=>False
theorem cX (h:OkA K b n ta da):OkI K b (xhm K ta) (xgU da):=fun B φ σ τ H R KK Rs hd q =>
 h B φ σ τ H _ _ Rs hd fun ts vs H1 x1 k1 l1 r1=>by
  split at k1
  ·rename_i us
   obtain⟨v,rfl,r⟩:=vo r1
   obtain⟨a,ws,e,n,ha,rl⟩:=id r
   subst e
   exact⟨true,a,ws,rfl,SqT.of ha,q _ _ _ H1 x1 k1 xbH fun p hp=>by
    cases xlg.mp hp
    exact r⟩
  ·rename_i us
   obtain⟨v,rfl,r⟩:=vo r1
   obtain⟨a,ws,e,n,ha,rl⟩:=id r
   subst e
   exact⟨false,a,ws,rfl,SqL.of ha,q _ _ _ H1 x1 k1 xaB fun p hp=>by
    cases xlg.mp hp
    exact r⟩
  ·exact k1.elim
end
end L2
namespace L2
open PySem PySem.Spec PyProof.Rows
def xg7 (K:PySem.W.Frag):R2:=fun x y H Q=>∃a b xs ys,x=.ref a∧y=.ref b∧SqT K H a xs∧SqT K H b ys∧xs.length+ys.length≤sizeLine ∧
 (xs=[]→Q (.ref b) H)∧(xs≠[]→ys=[]→Q (.ref a) H)∧(xs≠[]→ys≠[]→∀p,H p=none→Q (.ref p) (upd H p (.tup (xs++ys))))
section
variable {X:Cx}
theorem xfp:OpR X (binaryOp .Add) (xg7 X.K):=by
 intro pins s σ H x y v u Q I rx ry h
 obtain⟨a,b,xs,ys,rfl,rfl,ha,hb,hz,q0,q1,q2⟩:=h
 by_cases hx:xs=[]
 ·cases rx
  cases ry
  obtain⟨its,r1,p1,_⟩:=I.tuple ha
  obtain⟨its2,r2,p2,_⟩:=I.tuple hb
  obtain⟨⟨cls,dd,data,sl⟩,ho,hc,n,hd⟩:=id p1
  obtain⟨⟨cls2,dd2,data2,sl2⟩,ho2,hc2,n2,hd2⟩:=id p2
  simp only at hc hd hc2 hd2
  subst hc hd hc2 hd2
  have hv:its=[]:=r1.nil_iff.mpr hx
  exact concat_meets ⟨_,ho,rfl⟩ ⟨_,ho2,rfl⟩ noFill_tuple_add seq_tuple_add PySem.F.slot_tuple_add PySem.F.entry_tuple_add (PySem.F.args_tuple_add_2 _ _)
   (tuple_addW0 a b its.toArray its2.toArray n n2 dd dd2 sl sl2 (by simp[hv])) ⟨ho,ho2,⟨.ref b,H,I,rfl,q0 hx⟩⟩
 ·exact xfa pins s σ H _ _ _ _ Q I rx ry ⟨a,b,xs,ys,rfl,rfl,ha,hb,hx,hz,q1 hx,q2 hx⟩
end
section
variable {X:Cx}
def xgc (K:PySem.W.Frag):R2:=fun x y H Q=>(rI0 fun i j=>.int (i+j)) x y H Q∨xhB x y H Q∨xg7 K x y H Q
theorem xfm (K:PySem.W.Frag)(e:X.K=K:=by rfl):OpR X (binaryOp .Add) (xgc K):=by subst e;exact zT.or (sC.or xfp)
def xi3 (K:PySem.W.Frag):R2:=fun x y H Q=>(rI0 fun i j=>.bl (decide (i<j))) x y H Q∨xi7 K x y H Q
theorem jy (K:PySem.W.Frag)(hu:X.A.units+64<cLine)(e:X.K=K:=by rfl):OpR X (compareOp .Lt) (xi3 K):=by subst e;exact xgE.or (xg5 (xlA (xlt _ _) hu))
end
section
variable {prog:Program} {w:World} {A:Around} {E:Value→Shared→Prop} {s:Shared}
theorem kT {t sl:Addr}{items:Array Value}{vl vu:Value}{lo hi:Option Int}{Q:Value→Shared→Prop}(ht:IsTup s.heap t items)(hs:s.heap.IsSliceOf sl vl vu .none)(pl:IsPart vl lo)(pu:IsPart vu hi)
  (hw:HT.sIx items.size 0 lo=0∧HT.sIx items.size items.size hi=items.size) (h:Q (.ref t) s):wpAny (model prog w) A (getItem (.ref t) (.ref sl)) Q E s:=by
 obtain⟨os,hos,hcs,hds⟩:=id hs
 have hTs:s.TypeIs (.ref sl) "slice" := ⟨os,hos,hcs⟩
 unfold getItem
 try with_reducible refine wpAny_holding ?_
 first | refine wpAny_bind (wpAny_pure ?_) | skip
 refine wpAny_bind (wpAny_sequenceKey ht.typeIs (by decide) ?_)
 refine wpAny_bind (wpAny_callSpecial?_slot (name:=Str.ofString "__getitem__") ht.typeIs PyProof.Rows.slot_tuple_getitem
  (wpAny_call_entry PyProof.Rows.slot_tuple_getitem ht.typeIs entry_tuple_getitem ?_ (args_tuple_getitem _ _)))
 show wpAny _ _ (Builtin.Tuple.tupleItemsOf (.ref t) >>= _) _ _ s
 refine wpAny_bind (tupleItemsOf_ ht ?_)
 refine wpAny_bind (wpAny_typeOf hTs ?_)
 rw[if_pos (by decide)]
 refine wpAny_bind (HT.qh hs pl pu ?_)
 have hyes:(((HT.sIx items.size 0 lo:Nat):Int) == 0&&(1:Int) == 1&&(HT.sIx items.size items.size hi-HT.sIx items.size 0 lo) == items.size)=true:=by
  rw[hw.1,hw.2];simp
 show wpAny _ _ (if (((HT.sIx items.size 0 lo:Nat):Int) == 0&&(1:Int) == 1&&(HT.sIx items.size items.size hi-HT.sIx items.size 0 lo) == items.size)=true then _ else _) _ _ s
 rw[if_pos hyes]
 have hex:∀ {Q':Bool→Shared→Prop} {E':Value→Shared→Prop} {A':Around},Q' true s→wpAny (model prog w) A' (Builtin.Tuple.tupleIsExact (.ref t)) Q' E' s:=fun {Q' E' A'} hq=>by
  unfold Builtin.Tuple.tupleIsExact
  refine wpAny_bind (wpAny_typeOf ht.typeIs (wpAny_pure ?_))
  have e:(Value.type "tuple" == Value.type "tuple")=true:=by decide
  rw[e];exact hq
 refine wpAny_bind (hex ?_)
 rw[if_pos rfl]
 exact wpAny_bind (wpAny_rule (wpAny_pure ⟨_,rfl,wpAny_pure h⟩))
end
section
variable {X:Cx}
def xgJ (K:PySem.W.Frag):V→Option Int→Option Int→Hp→VK→Prop:=fun x lo hi H Q=>∃a xs,x=.ref a∧SqT K H a xs ∧
 (lI xs lo hi=xs→Q (.ref a) H)∧∀p,H p=none→Q (.ref p) (upd H p (.tup (lI xs lo hi)))
theorem xfe:SlR X (xgJ X.K):=by
 intro pins s σ H x v vl vu lo hi sl Q I rx hs pl pu h
 obtain⟨a,xs,rfl,hx,q0,q⟩:=h
 by_cases hw:HT.sIx xs.length 0 lo=0∧HT.sIx xs.length xs.length hi=xs.length
 ·cases rx
  obtain⟨its,r,ht,hz⟩:=I.tuple hx
  have hlen:its.toArray.size=xs.length:=by rw[xln];exact r.length.symm
  refine⟨"tuple", _,PyProof.Rows.slot_tuple_getitem.lookup,ht.typeIs,?_⟩
  refine kT ht hs pl pu (by rw[hlen];exact hw) ⟨.ref a,H,I,rfl,q0 ?_⟩
  unfold lI
  rw[hw.1,hw.2,xkr,xlI,List.take_length]
 ·exact xgT pins s σ H _ v vl vu lo hi sl Q I rx hs pl pu ⟨a,xs,rfl,hx,hw,q⟩
def xiI (K:PySem.W.Frag):V→Option Int→Option Int→Hp→VK→Prop:=fun x lo hi H Q=>xgx K x lo hi H Q∨xgJ K x lo hi H Q
theorem xaw (K:PySem.W.Frag)(e:X.K=K:=by rfl):SlR X (xiI K):=by
 subst e
 intro pins s σ H x v vl vu lo hi sl Q I rx hs pl pu h
 rcases h with h | h
 ·exact xao pins s σ H x v vl vu lo hi sl Q I rx hs pl pu h
 ·exact xfe pins s σ H x v vl vu lo hi sl Q I rx hs pl pu h
def xaC:V→List V→Hp→VK→Prop:=fun x vs H Q=>∃(l:Addr) (xs:List V) (y:V) (k:Nat),x=.ref l∧vs=[.int k,y]∧H l=some (.lst xs)∧xs.length<sizeLine∧k≤xs.length∧Q .non (upd H l (.lst (xs.take k++[y]++xs.drop k)))
theorem xgG (I:Inv X pins σ H s)(hH:H l=some (.lst xs))(hz:xs.length<sizeLine)(ki:Int)(k:Nat)(t1:Tok)(hk1:0≤ki)(hk3:ki≤(xs.length:Int))(hkt:ki.toNat=k)
  (ru:RelV y u2) (q:Q .non (upd H l (.lst (xs.take k++[y]++xs.drop k)))):wpAny (model X.prog X.w) X.A (call (.builtin "list.insert") [.ref l,.int ki t1,u2]) (EP X pins σ Q) X.xe s:=by
 obtain⟨z,its,n,r,hl,e⟩:=I.lstM hH
 have hk2:ki<2 ^ 63:=by
  have:xs.length≤16777216:=z
  omega
 have hfit:¬(!Builtin.List.listFitsIndex ki)=true:=by
  rw[fitsIndex_both (by omega) hk2]
  exact xjJ
 have hsz:its.toArray.size≤sizeLine:=by rw[xln];omega
 have hk':k≤its.length:=by omega
 refine call_meets F.slot_list_insert ⟨_,e,rfl⟩ F.entry_list_insert (F.args_list_insert_3 _ _ _) (AutoSeq1.list_insert_list_int_val_1 l its.toArray n ki t1 u2 hfit hsz) ⟨e,?_⟩
 refine⟨.non,_,I.lset (its':=its.take k++[u2]++its.drop k) hH e ?_ ((zf.append (r.take k) (.cons ru .nil)).append (r.drop k)) ?_,rfl,q⟩
 ·have e1:(if ki<0 then(ki+(its.toArray.size:Int)).toNat else min ki.toNat its.toArray.size)=k:=by
   rw[if_neg (by omega),hkt,xln,Nat.min_eq_left hk']
  show((its.toArray.extract 0 (if ki<0 then(ki+(its.toArray.size:Int)).toNat else min ki.toNat its.toArray.size)).push u2++its.toArray.extract (if ki<0 then(ki+(its.toArray.size:Int)).toNat else min ki.toNat its.toArray.size))=_
  rw[e1]
  apply xjG.mp
  simp
  exact xlr (by rw[xkN];exact xlw _)
 ·simp only[xkL,xkT,xkN,xkS]
  omega
theorem tV:MtM X "list.insert" xaC:=by
 intro pins s σ H x vs v us Q I rx rv h
 obtain⟨l,xs,y,k,rfl,rfl,hH,hz,hk,q⟩:=h
 cases rx
 obtain⟨u1,u2,rfl,⟨t1,rfl⟩,ru⟩:=vals2 rv
 have hk1:(0:Int)≤(k:Int):=xkb k
 have hk3:(k:Int)≤(xs.length:Int):=Int.ofNat_le.mpr hk
 have hkt:(k:Int).toNat=k:=xkc k
 generalize (k:Int)=ki at hk1 hk3 hkt ⊢
 exact xgG I hH hz ki k t1 hk1 hk3 hkt ru q
end
section
variable {K:PySem.W.Frag} {fr:Bool}
def xc0 (x y:Tr)(KK:Tr→Prop):Prop:=match x,y with
 | .int i,.int j=>KK (.int (i+j))
 | .lst ts,.lst us=>ts.length+us.length≤sizeLine∧KK (.lst (ts++us))
 | .tup ts,.tup us=>ts.length+us.length≤sizeLine∧KK (.tup (ts++us))
 | _,_=>False
theorem xfj (ha:OkE K b ta da)(hb:OkE K b tb db):OkE K b (tOp (xgc K) ta tb) (d2 xc0 da db):=fun B φ σ τ H Q KK R hd q =>
 ha B φ σ τ H _ _ R hd fun t v H1 x1 k1 r1=>hb B φ σ τ H1 _ _ (R.hx x1) k1 fun u w H2 x2 k2 r2=>by
  have r1':=x2.rep (fun a s=>R.sB s) r1
  have x:=x1.trans x2
  replace k2:xc0 t u KK:=k2
  unfold xc0 at k2
  split at k2
  ·rename_i i j
   cases (show v=.int i from r1');cases (show w=.int j from r2)
   exact .inl ⟨i,j,rfl,rfl,q _ _ H2 x k2 rfl⟩
  ·rename_i ts us
   obtain⟨a,ws,e,n,ha',rl⟩:=r1'
   obtain⟨a2,ws2,e2,n2,ha2,rl2⟩:=r2
   exact .inr (.inl ⟨a,a2,ws,ws2,e,e2,ha',ha2,by rw[←rl.len,←rl2.len];exact k2.1,fun p hp=>q _ _ _ (x.trans (HX.new (R.hx x) hp _)) k2.2 ⟨p,_,rfl,fun z=>(R.hx x).domB z hp,xZ,u_ hp (rl.app rl2)⟩⟩)
  ·rename_i ts us
   obtain⟨a,ws,e,n,ha',rl⟩:=id r1'
   obtain⟨a2,ws2,e2,n2,ha2,rl2⟩:=id r2
   refine .inr (.inr ⟨a,a2,ws,ws2,e,e2,SqT.of ha',SqT.of ha2,by rw[←rl.len,←rl2.len];exact k2.1,fun z=>?_,fun _ z=>?_,fun _ _ p hp=>q _ _ _ (x.trans (HX.new (R.hx x) hp _)) k2.2 ⟨p,_,rfl,fun z=>(R.hx x).domB z hp,xZ,u_ hp (rl.app rl2)⟩⟩)
   ·have e0:ts=[]:=by
     have:=rl.len;rw[z] at this;exact xkO.mp this
    subst e0
    rw[←e2];exact q _ _ H2 x k2.2 (by rw[xlh];exact r2)
   ·have e0:us=[]:=by
     have:=rl2.len;rw[z] at this;exact xkO.mp this
    subst e0
    rw[←e];exact q _ _ H2 x k2.2 (by rw[xkn];exact r1')
  ·exact k2.elim
def xiE (x y:Tr)(KK:Tr→Prop):Prop:=match x,y with
 | .int i,.int j=>KK (.bl (decide (i<j)))
 | x,y=>∃ns ms:List Int,x=.tup (ns.map Tr.int)∧y=.tup (ms.map Tr.int)∧KK (.bl (HT.lexLt ns ms))
theorem jE:OpS (xi3 K) xiE:=fun F G H x y t u KK Q r1 r2 hf q=>by
 unfold xiE at hf
 split at hf
 ·rename_i i j
  cases (show x=.int i from r1);cases (show y=.int j from r2)
  exact .inl ⟨i,j,rfl,rfl,q _ _ rfl hf⟩
 ·obtain⟨ns,ms,rfl,rfl,k⟩:=hf
  obtain⟨a,ws,e,n,ha,rl⟩:=r1
  obtain⟨a2,ws2,e2,n2,ha2,rl2⟩:=r2
  rw[jK rl] at ha
  rw[jK rl2] at ha2
  exact .inr ⟨a,a2,ns,ms,e,e2,SqT.of ha,SqT.of ha2,q _ _ rfl k⟩
theorem lx {F:Addr→Prop}{H:Hp}{ts:List Tr}{ws:List V}{lo hi:Option Int}(r:zM F H ts ws)(h:lI ws lo hi=ws):fV ts lo hi=ts:=by
 unfold fV
 unfold lI at h
 rw[←r.len] at h
 have h1:((ts.drop (HT.sIx ts.length 0 lo)).take (HT.sIx ts.length ts.length hi-HT.sIx ts.length 0 lo)).length=ts.length:=by
  have:=xlN List.length h
  rw[xkT,xkN] at this ⊢
  rw[←r.len] at this
  exact this
 have h2:HT.sIx ts.length 0 lo=0∨ts.length=0:=by
  rw[xkT,xkN] at h1
  omega
 rcases h2 with h2 | h2
 ·rw[h2,xkr,xlI]
  rw[h2,xkT,xkr,xlI] at h1
  exact xlr (by omega)
 ·have:ts=[]:=xkO.mp h2
  subst this
  simp
theorem xb_ {b:Bool}{te:TE}{tl th:TO}{d:DE}{dl dh:DO}(h:OkE K b te d)(hl:OkO K tl dl)(hh:OkO K th dh):OkE K b (tSl (xiI K) te tl th) (dSl d dl dh):=fun B φ σ τ H Q KK R hd q =>
 h B φ σ τ H _ _ R hd fun t v H1 x1 k1 r1=>hl B φ σ τ H1 _ _ (R.hx x1) k1 fun lo H2 x2 k2=>hh B φ σ τ H2 _ _ (R.hx (x1.trans x2)) k2 fun hi H3 x3 k3=>by
  have r3:=(x2.trans x3).rep (fun a s=>R.sB s) r1
  have x:=(x1.trans x2).trans x3
  cases t with
  | lst ts =>
   obtain⟨a,ws,e,n,ha,rl⟩:=r3
   exact .inl ⟨a,ws,e,SqL.of ha,fun p hp=>q _ _ _ (x.trans (HX.new (R.hx x) hp _)) k3 ⟨p,_,rfl,fun z=>(R.hx x).domB z hp,xZ,u_ hp (rl.cut lo hi)⟩⟩
  | tup ts =>
   obtain⟨a,ws,e,n,ha,rl⟩:=id r3
   refine .inr ⟨a,ws,e,SqT.of ha,fun z=>?_,fun p hp=>q _ _ _ (x.trans (HX.new (R.hx x) hp _)) k3 ⟨p,_,rfl,fun z=>(R.hx x).domB z hp,xZ,u_ hp (rl.cut lo hi)⟩⟩
   rw[←e]
   exact q _ _ H3 x k3 (by rw[lx rl z];exact r3)
  | _=>exact k3.elim
def xiO (i:Nat)(dk d:DE):DS:=fun G τ=>match nth τ i with
 | .ow ts=>dk τ fun k=>d τ fun t=>∃n:Nat,k=.int n∧n≤ts.length∧ts.length<sizeLine∧G.nx (τ.set i (.ow (ts.take n++[t]++ts.drop n)))
 | _=>False
theorem mV (n:Nat)(r:zM F H ts ws):zM F H (ts.take n) (ws.take n):=zI.mpr (kY n (zI.mp r))
theorem mD (n:Nat)(r:zM F H ts ws):zM F H (ts.drop n) (ws.drop n):=zI.mpr (kU n (zI.mp r))
theorem xaQ (hk:OkE K b tk dk)(h:OkE K true te d):OkS K fr (xdf (tBM K "list" xaC (sZ i) (uo tk (uo te bW)))) (xiO i dk d):=fun B φ σ τ H E G R hd e=>by
 have en:=R.ent i
 unfold xiO at hd
 revert en hd
 cases hi:nth τ i with
 | ow ts =>
  intro hd ⟨a,ws,e1,e2,e3,e4,r⟩
  refine⟨_,e1,.inl ⟨rfl,_,SqL.of e4⟩,hk B φ σ τ H _ _ R hd fun t0 v0 H0 x0 k0 r0=>h B φ σ τ H0 _ _ (R.hx x0) k0 fun t v H1 x1 k1 r1=>?_⟩
  obtain⟨n,rfl,hn,hz,k1⟩:=k1
  cases (show v0=.int n from r0)
  obtain⟨ws',f4,f5,_⟩:=v8 R (x0.trans x1) hi e1
  exact⟨a,ws',v,n,rfl,rfl,f4,by rw[←f5.len];exact hz,by rw[←f5.len];exact hn,e.nx φ σ _ _ ((R.hx (x0.trans x1)).wrOw hi e1 (((mV n f5).app (show zM _ _ [t] [v] from⟨v,[],rfl,r1,rfl⟩)).app (mD n f5))) k1⟩
 | _=>exact fun z _=>z.elim
end
end L2
namespace L2
open PySem PySem.Spec PyProof.Rows
def xfg (b:Bool):String:=if b then "tuple_iterator" else "list_iterator"
abbrev za1 (b:Bool)(h:Heap)(a:Addr):Heap:=h.push { cls:=.type (xfg b),data:=.fields #[.ref a,.int 0 0] }
abbrev za2 (b c:Bool)(h:Heap)(a d:Addr):Heap:=(za1 b h a).push { cls:=.type (xfg c),data:=.fields #[.ref d,.int 0 0] }
abbrev za3 (b c:Bool)(h:Heap)(a d:Addr):Heap:=(za2 b c h a d).push { cls:=.type "tuple", data:=.seq #[.ref h.objs.size,.ref (za1 b h a).objs.size] }
abbrev za4 (b c:Bool)(h:Heap)(a d:Addr):Heap:=(za3 b c h a d).push { cls:=.type "tuple", data:=.seq #[.none,.none] }
abbrev za5 (b c:Bool)(h:Heap)(a d:Addr):Heap:=(za4 b c h a d).push { cls:=.type "zip", data:=.fields #[.none,.bool false,.bool false,.ref (za2 b c h a d).objs.size,.ref (za3 b c h a d).objs.size] }
theorem dQ (h:lS b a vs s.heap)(q:Q (.ref s.heap.objs.size) { s with heap:=za1 b s.heap a }):wpAny (model prog w) A (pyIter (.ref a)) Q E s:=by
 cases b with
 | true=>exact wpAny_pyIter_tuple (show s.heap.IsTuple a vs.toArray from h) q
 | false=>exact wpAny_pyIter_list (show s.heap.IsList a vs.toArray from h) q
theorem xbP (s:lS b a vs h)(o:Obj):lS b a vs (h.push o):=(rS b 0 a vs).smv _ _ s fun o' e=>Heap.get?_push_of_some _ e
theorem xb9 (b c:Bool)(a d:Addr)(xs ys:List Value):Meets (Builtin.«zip.__new__» ⟨[.type "zip", .ref a,.ref d],[]⟩) (fun _ R s=>lS b a xs s.heap∧lS c d ys s.heap∧R (.ok (.ret (.ref (za4 b c s.heap a d).objs.size))) { s with heap:=za5 b c s.heap a d }) :=
 .of_wp fun prog w A R s h=>by
  obtain⟨hp,g,dd,tk,os⟩:=s
  obtain⟨ha,hb,h⟩:=h
  have hsub:=sub_zip
  have A1:lS b a xs (Shared.heap ⟨hp,g,dd,tk,os⟩):=ha
  have B1:lS c d ys (Shared.heap ⟨hp.push { cls:=.type (xfg b),data:=.fields #[.ref a,.int 0 0] },g,dd,tk,os⟩):=xbP hb _
  wp_walk using dQ A1,dQ B1
  exact⟨_,rfl,h⟩
section
variable {prog:Program} {w:World} {A:Around} {E:Value→Shared→Prop} {s:Shared}
theorem xbu (ha:lS b a xs s.heap)(hb:lS c d ys s.heap)
  (h:∀g,IsZip g (s.heap.objs.size+4) (s.heap.objs.size+2) (s.heap.objs.size+3) .none→IsPair g (s.heap.objs.size+2) (.ref s.heap.objs.size) (.ref (s.heap.objs.size+1))→IsPair g (s.heap.objs.size+3) .none .none →
   Tn2 b s.heap.objs.size a 0 g→Tn2 c (s.heap.objs.size+1) d 0 g→(∀c o,s.heap.get? c=some o→g.get? c=some o)→Q (.ref (s.heap.objs.size+4)) { s with heap:=g }) :
  wpAny (model prog w) A (call (.type "zip") [.ref a,.ref d]) Q E s:=by
 refine callType_new F.called_zip (by decide) (F.typeCall_zip_2 _ _) (F.newCall_zip_2 _ _) (fun obj=>F.args_object_init_3 obj _ _) F.entry_zip_new (xb9 b c a d xs ys) ⟨ha,hb,?_⟩
 have n1:(za1 b s.heap a).objs.size=s.heap.objs.size+1:=Heap.size_push ..
 have n2:(za2 b c s.heap a d).objs.size=s.heap.objs.size+2:=by rw[Heap.size_push,n1]
 have n3:(za3 b c s.heap a d).objs.size=s.heap.objs.size+3:=by rw[Heap.size_push,n2]
 have n4:(za4 b c s.heap a d).objs.size=s.heap.objs.size+4:=by rw[Heap.size_push,n3]
 have o5:(za5 b c s.heap a d).get? (za4 b c s.heap a d).objs.size=some _:=Heap.get?_push_size _ rfl
 have o4:(za5 b c s.heap a d).get? (za3 b c s.heap a d).objs.size=some _:=Heap.get?_push_of_some _ (Heap.get?_push_size _ rfl)
 have o3:(za5 b c s.heap a d).get? (za2 b c s.heap a d).objs.size=some _:=Heap.get?_push_of_some _ (Heap.get?_push_of_some _ (Heap.get?_push_size _ rfl))
 have o2:(za5 b c s.heap a d).get? (za1 b s.heap a).objs.size=some _:=Heap.get?_push_of_some _ (Heap.get?_push_of_some _ (Heap.get?_push_of_some _ (Heap.get?_push_size _ rfl)))
 have o1:(za5 b c s.heap a d).get? s.heap.objs.size=some _:=Heap.get?_push_of_some _ (Heap.get?_push_of_some _ (Heap.get?_push_of_some _ (Heap.get?_push_of_some _ (Heap.get?_push_size _ rfl))))
 show _∧_
 rw[n2,n3,n4] at o5
 rw[n1,n2] at o3
 rw[n3] at o4
 rw[n1] at o2
 rw[n4]
 refine⟨⟨_,o5,rfl⟩,h _ o5 o3 o4 ?_ ?_ fun c o g=>Heap.get?_push_of_some _ (Heap.get?_push_of_some _ (Heap.get?_push_of_some _ (Heap.get?_push_of_some _ (Heap.get?_push_of_some _ g))))⟩
 ·cases b with
  | true=>exact⟨_,o1,rfl,rfl⟩
  | false=>exact⟨_,o1,rfl,rfl⟩
 ·cases c with
  | true=>exact⟨_,o2,rfl,rfl⟩
  | false=>exact⟨_,o2,rfl,rfl⟩
end
def xid (K:PySem.W.Frag)(b c:Bool)(a1 a2:Addr):It :=
 ⟨fun i H=>∃xs ys x y,Sq2 K b H a1 xs∧Sq2 K c H a2 ys∧xs[i]? = some x∧ys[i]? = some y,
  fun i H v H'=>∃x y q,(∀xs,Sq2 K b H a1 xs→xs[i]? = some x)∧(∀ys,Sq2 K c H a2 ys→ys[i]? = some y)∧v=.ref q∧H q=none∧H'=upd H q (.tup [x,y]),
  fun i H=>∃xs ys,Sq2 K b H a1 xs∧Sq2 K c H a2 ys∧(xs.length≤i∨ys.length≤i)⟩
section
variable {P:Program} {w:World} {K:PySem.W.Frag} {z ti to i1 i2 a1 a2:Addr} {b c':Bool}
def ZS2 (b c:Bool)(z ti to i1 i2 a1 a2:Addr)(i:Nat)(h:Heap):Prop:=IsZip h z ti to .none∧IsPair h ti (.ref i1) (.ref i2)∧(∃p q,IsPair h to p q)∧Tn2 b i1 a1 i h∧Tn2 c i2 a2 i h
theorem xaV (D:ZA z ti to i1 i2 a1 a2):Turn P w K (.Tuple elts kk pp) (xid K b c' a1 a2) [z,ti,to,i1,i2] z (ZS2 b c' z ti to i1 i2 a1 a2) where
 mem:=by simp
 obj:=fun i h st c hc=>by
  obtain⟨s1,s2,⟨p,q,s3⟩,s4,s5⟩:=st
  simp only[xk5,xlk,xlW] at hc
  rcases hc with e | e | e | e | e<;>subst e
  ·exact⟨_,s1,fun v=>by simp⟩
  ·exact⟨_,s2,fun v=>by simp⟩
  ·exact⟨_,s3,fun v=>by simp⟩
  ·exact(rS b _ a1 []).ob _ _ s4
  ·exact(rS c' _ a2 []).ob _ _ s5
 keep:=fun i h h' st k=>by
  obtain⟨s1,s2,⟨p,q,s3⟩,s4,s5⟩:=st
  exact⟨k _ (by simp) _ s1,k _ (by simp) _ s2,⟨p,q,k _ (by simp) _ s3⟩,(rS b i1 a1 []).mv _ _ _ s4 fun o e=>k _ (by simp) o e,(rS c' i2 a2 []).mv _ _ _ s5 fun o e=>k _ (by simp) o e⟩
 item:=by
  intro X hP hw hK hc i pins s σ H E I hf st hg
  subst hP hw hK
  obtain⟨Z,TI,⟨p,q,TO⟩,b1,b2⟩:=st
  obtain⟨xs,ys,x,y,sq1,sq2,hx,hy⟩:=hg
  obtain⟨vs,rv,c1⟩:=I.sq2 sq1
  obtain⟨us,ru,c2⟩:=I.sq2 sq2
  obtain⟨xv,ex,rx⟩:=rv.get hx
  obtain⟨yv,ey,ry⟩:=ru.get hy
  have hT:s.TypeIs (.ref z) "zip" := ⟨_,Z,rfl⟩
  have fr:H s.heap.objs.size=none:=I.hok.fresh (xlw _)
  unfold pyNext
  refine wpAny_bind (wpAny_attempt (wpAny_callSpecial?_slot (name:=Str.ofString "__next__") hT F.slot_zip_next (wpAny_call_entry F.slot_zip_next hT F.entry_zip_next (xbB D (rS b i1 a1 vs) (rS c' i2 a2 us) Z TI TO b1 b2 c1 c2 ex ey fun g Z' TO' b1' b2' T' kp=>?_) (F.args_zip_next_1 _))))
  refine wpAny_pure ⟨_,rfl,wpAny_letOwnedTupleGo_zip Z' fun g2 Z2 S2=>?_⟩
  obtain⟨⟨d1,d2,d3,d4,d5,d6,d7,d8,d9,d10⟩,_⟩:=D
  have ltz:z<s.heap.objs.size:=Heap.lt_size Z
  have kp2:∀c o,c∉[z,ti,to,i1,i2]→s.heap.get? c=some o→g2.get? c=some o:=fun c o hc e=>by
   simp only[xk5,xlk,xlW,not_or] at hc
   exact S2.extBut _ _ hc.1 (kp c o hc.1 hc.2.2.1 hc.2.2.2.1 hc.2.2.2.2 e)
  have TI2:IsPair g2 ti (.ref i1) (.ref i2):=S2.extBut _ _ d1 (kp _ _ d1 d5 d6 d7 TI)
  have T2:IsPair g2 s.heap.objs.size xv yv:=S2.extBut _ _ (xlG ltz) T'
  have st2:ZS2 b c' z ti to i1 i2 a1 a2 (i+1) g2:=⟨Z2,TI2,⟨_,_,S2.extBut _ _ d2 TO'⟩,(rS b i1 a1 vs).mv _ _ _ b1' fun o=>S2.extBut _ o d3,(rS c' i2 a2 us).mv _ _ _ b2' fun o=>S2.extBut _ o d4⟩
  have nfp:∀c u,H c=some u→c∉[z,ti,to,i1,i2]:=fun c u e hm=>by rw[(hf c hm).1] at e;cases e
  have nT:∀c o,s.heap.get? c=some o→c≠s.heap.objs.size:=fun c o e=>xlH (Heap.lt_size e)
  refine⟨.ref s.heap.objs.size,upd H s.heap.objs.size (.tup [x,y]),?_,rfl,⟨x,y,_,fun xs' h'=>by rw[←I.sq2_inj sq1 h'];exact hx,fun ys' h'=>by rw[←I.sq2_inj sq2 h'];exact hy,rfl,fr,rfl⟩,st2,fun c hm=>?_⟩
  ·show Inv X pins σ (upd H s.heap.objs.size (.tup [x,y])) { s with heap:=g2,gens:=s.gens,drawn:=s.drawn,toks:=s.toks }
   refine Inv.step (s:=s) (g':=s.gens) (d':=s.drawn) (t':=s.toks) (ch:=[z,ti,to,i1,i2]) I (fun c hm=>?_) (fun c o _ _ hm e _=>kp2 c o hm e) (fun c o _ _ hm e _=>⟨o.slots,kp2 c o hm e⟩) (fun c o hm e n=>by rw[xW (nT c o e)];exact n) (fun c o hm e=>⟨o,kp2 c o hm e⟩)
    (fun c zs e=>by rw[xW (xF e fr)];exact e) (fun c o u e=>by rw[xW (xF e fr)];exact e) (fun c ps e=>⟨#[],by rw[xW (xF e fr),e];simp⟩) (fun m hm=>?_) (fun c u e=>?_) I.bare
   ·obtain⟨_,f1,_,f3,f4,f5⟩:=hf c hm
    exact⟨f3,f1,f4,f5⟩
   ·obtain⟨o,es,ep,ho,r⟩:=hm
    exact⟨o,es,ep,kp2 _ o (fun z'=>(hf _ z').2.1 rfl) ho,r⟩
   ·by_cases hc':c=s.heap.objs.size
    ·subst hc'
     rw[xZ] at e
     cases e
     exact⟨by show 2≤sizeLine;decide,[xv,yv],.cons rx (.cons ry .nil),_,T2,rfl,0,rfl⟩
    ·rw[xW hc'] at e
     refine(I.hok c u e).stay (fun c' v hcc q'=>kp2 c' v ?_ q') (fun c' q'=>by rw[xW (xF q' fr)];exact q') (fun c' zs q'=>by rw[xW (xF q' fr)];exact q') fun c' o u q'=>by rw[xW (xF q' fr)];exact q'
     rcases hcc with rfl | hcc
     ·exact nfp _ _ e
     ·exact nfp _ _ hcc
  ·rw[xW]
   ·exact(hf c hm).1
   ·simp only[xk5,xlk,xlW] at hm
    rcases hm with e | e | e | e | e<;>subst e
    ·exact nT _ _ Z
    ·exact nT _ _ TI
    ·exact nT _ _ TO
    ·obtain⟨o,e,_⟩:=(rS b _ a1 []).ob _ _ b1;exact nT _ _ e
    ·obtain⟨o,e,_⟩:=(rS c' _ a2 []).ob _ _ b2;exact nT _ _ e
 done:=by
  intro X hP hw hK hc i pins s σ H E I hf st hg
  subst hP hw hK
  obtain⟨Z,TI,⟨p,q,TO⟩,b1,b2⟩:=st
  obtain⟨xs,ys,sq1,sq2,hend⟩:=hg
  obtain⟨vs,rv,c1⟩:=I.sq2 sq1
  obtain⟨us,ru,c2⟩:=I.sq2 sq2
  have hT:s.TypeIs (.ref z) "zip" := ⟨_,Z,rfl⟩
  have he:vs[i]? = none∨us[i]? = none:=hend.imp (fun h=>List.getElem?_eq_none_iff.mpr (by rw[←rv.length];exact h)) (fun h=>List.getElem?_eq_none_iff.mpr (by rw[←ru.length];exact h))
  unfold pyNext
  refine wpAny_bind (wpAny_attempt (wpAny_callSpecial?_slot (name:=Str.ofString "__next__") hT F.slot_zip_next (wpAny_call_entry F.slot_zip_next hT F.entry_zip_next (xcX (I.ok.hd hc) D (rS b i1 a1 vs) (rS c' i2 a2 us) Z TI TO b1 b2 c1 c2 he fun g e kp ho=>?_) (F.args_zip_next_1 _))))
  obtain⟨o,ho,hcl⟩:=ho
  refine wpAny_bind (wpAny_isInstance (T := "StopIteration") (b:=true) ⟨o,ho,hcl⟩ isSubtype_stop (wpAny_pure ⟨rfl,?_⟩))
  have kp2:∀c o,c∉[z,ti,to,i1,i2]→s.heap.get? c=some o→g.get? c=some o:=fun c o hc e=>by
   simp only[xk5,xlk,xlW,not_or] at hc
   exact kp c o hc.1 hc.2.2.1 hc.2.2.2.1 hc.2.2.2.2 e
  have nfp:∀c u,H c=some u→c∉[z,ti,to,i1,i2]:=fun c u e hm=>by rw[(hf c hm).1] at e;cases e
  refine Inv.step (s:=s) (g':=s.gens) (d':=s.drawn) (t':=s.toks) (ch:=[z,ti,to,i1,i2]) I (fun c hm=>?_) (fun c o _ _ hm e _=>kp2 c o hm e) (fun c o _ _ hm e _=>⟨o.slots,kp2 c o hm e⟩) (fun c o hm e n=>n) (fun c o hm e=>⟨o,kp2 c o hm e⟩)
   (fun c zs e=>e) (fun c o u e=>e) (fun c ps e=>⟨#[],by rw[e];simp⟩) (fun m hm=>?_) (fun c u e=>?_) I.bare
  ·obtain⟨_,f1,_,f3,f4,f5⟩:=hf c hm
   exact⟨f3,f1,f4,f5⟩
  ·obtain⟨o,es,ep,ho,r⟩:=hm
   exact⟨o,es,ep,kp2 _ o (fun z'=>(hf _ z').2.1 rfl) ho,r⟩
  ·refine(I.hok c u e).stay (fun c' v hcc q'=>kp2 c' v ?_ q') (fun _ q'=>q') (fun _ _ q'=>q') fun _ _ _ q'=>q'
   rcases hcc with rfl | hcc
   ·exact nfp _ _ e
   ·exact nfp _ _ hcc
 self:=fun A i s Q E st h=>wpAny_pyIter_zip st.1 h
end
def xgB (K:PySem.W.Frag)(ta:TA):TI:=fun σ H R=>ta σ H fun vs H1=>∃(b c:Bool) (a1 a2:Addr) (xs ys:List V),vs=[.ref a1,.ref a2]∧Sq2 K b H1 a1 xs∧Sq2 K c H1 a2 ys∧R (xid K b c a1 a2) H1
section
variable {X:Cx}
theorem xbJ (K:PySem.W.Frag)(hg:Gl X "zip")(hm:X.mg "zip" = none)(ha:PA X [a,b] ta)(hs:starEach [a,b] X.env=[(false,eval a X.env),(false,eval b X.env)]:=by rfl)(hs2:starEach [b] X.env=[(false,eval b X.env)]:=by rfl)(eK:X.K=K:=by rfl) :
  PI X (.Tuple elts kk pp) (.Call (.Name "zip" p) [a,b] [] pos) (xgB K ta):=by
 subst eK
 intro pins s σ H R I h
 refine Call_ (sQ I hg hm xhj (PyProof.Rows.callWith_type1 (thn (@ha pos pins s σ H _ I h) fun us s1 ⟨vs,H1,I1,r1,q1⟩=>?_) (by rw[hs,hs2]) (by rw[hs2];rfl)))
 obtain⟨bb,cc,a1,a2,xs,ys,e,sq1,sq2,q⟩:=q1
 subst e
 obtain⟨u1,u2,rfl,e1,e2⟩:=vals2 r1
 obtain rfl:u1=Value.ref a1:=e1
 obtain rfl:u2=Value.ref a2:=e2
 obtain⟨vs,rv,c1⟩:=I1.sq2 sq1
 obtain⟨us,ru,c2⟩:=I1.sq2 sq2
 have fp:∀k:Nat,cL X pins H1 (s1.heap.objs.size+k):=fun k=>I1.fpOk (xlt _ _) (I1.hok.fresh (xlt _ _))
 have lt:∀(b:Bool) (a:Addr) (vs:List Value),lS b a vs s1.heap→a<s1.heap.objs.size:=fun b a vs h=>by
  cases b with
  | true=>obtain⟨o,e,_⟩:=(show s1.heap.IsTuple a vs.toArray from h);exact Heap.lt_size e
  | false=>obtain⟨o,e,_⟩:=(show s1.heap.IsList a vs.toArray from h);exact Heap.lt_size e
 refine xbu c1 c2 ?_
 intro g z1 z2 z3 z4 z5 kp
 have st:ZS2 bb cc (s1.heap.objs.size+4) (s1.heap.objs.size+2) (s1.heap.objs.size+3) s1.heap.objs.size (s1.heap.objs.size+1) a1 a2 0 g:=⟨z1,z2,⟨_,_,z3⟩,z4,z5⟩
 refine wpAny_pyIter_zip st.1 ⟨_,_,_,_,H1,rfl,I1.kept (t':=s1.toks) kp,xaV (xgP (lt _ _ _ c1) (lt _ _ _ c2)),st,fun c hc=>?_,q⟩
 simp only[xk5,xlk,xlW] at hc
 rcases hc with e | e | e | e | e<;>subst e
 ·exact fp 4
 ·exact fp 2
 ·exact fp 3
 ·exact fp 0
 ·exact fp 1
end
def oZ:List Tr→List Tr→List Tr
 | t::ts,u::us=>.tup [t,u]::oZ ts us
 | _,_=>[]
theorem aO:∀(ts us:List Tr),(oZ ts us).length=min ts.length us.length
 | [],_=>by simp[oZ]
 | _::_,[]=>by simp[oZ]
 | _::ts,_::us=>by simp only[oZ,xkM,aO ts us];omega
theorem pX:∀ {ts us:List Tr} {i:Nat} {t u:Tr},ts[i]? = some t→us[i]? = some u→(oZ ts us)[i]? = some (.tup [t,u])
 | [],_,_,_,_,h,_=>by simp at h
 | _::_,[],_,_,_,_,h=>by simp at h
 | _::_,_::_,0,_,_,h,h'=>by simp at h h';subst h h';rfl
 | _::ts,_::us,i+1,t,u,h,h'=>by
  show(oZ ts us)[i]? = _
  exact pX (by simpa using h) (by simpa using h')
def sqT (b:Bool)(ts:List Tr):Tr:=if b then .tup ts else .lst ts
section
variable {K:PySem.W.Frag}
theorem q8 (h:Rep F H (sqT b ts) (.ref a)):∃ws,Sq2 K b H a ws∧zM F H ts ws:=by
 cases b with
 | true =>
  obtain⟨a',ws,e,n,h,r⟩:=(show Rep F H (.tup ts) (.ref a) from h)
  cases e
  exact⟨ws,SqT.of h,r⟩
 | false =>
  obtain⟨a',ws,e,n,h,r⟩:=(show Rep F H (.lst ts) (.ref a) from h)
  cases e
  exact⟨ws,SqL.of h,r⟩
theorem xda:ItL (xid K b c a1 a2) (oZ ts us) [(sqT b ts,.ref a1),(sqT c us,.ref a2)] where
 go:=fun F H i s hi=>by
  obtain⟨ws,h1,r1⟩:=q8 (K:=K) (s _ xk7)
  obtain⟨ws2,h2,r2⟩:=q8 (K:=K) (s _ (xk6 _ xk7))
  rw[aO] at hi
  obtain⟨w,e1,_⟩:=r1.getT (xkD (i:=i) (by omega))
  obtain⟨w2,e2,_⟩:=r2.getT (xkD (i:=i) (by omega))
  exact⟨ws,ws2,w,w2,h1,h2,e1,e2⟩
 stop:=fun F H s=>by
  obtain⟨ws,h1,r1⟩:=q8 (K:=K) (s _ xk7)
  obtain⟨ws2,h2,r2⟩:=q8 (K:=K) (s _ (xk6 _ xk7))
  refine⟨ws,ws2,h1,h2,?_⟩
  rw[aO,←r1.len,←r2.len];omega
 yld:=fun F i H x H' s d hi y=>by
  obtain⟨ws,h1,r1⟩:=q8 (K:=K) (s _ xk7)
  obtain⟨ws2,h2,r2⟩:=q8 (K:=K) (s _ (xk6 _ xk7))
  obtain⟨v,v2,q,hv,hv2,rfl,hq,rfl⟩:=y
  obtain⟨t,e1,g1⟩:=r1.get (hv ws h1)
  obtain⟨u,e2,g2⟩:=r2.get (hv2 ws2 h2)
  exact⟨.inr ⟨q,_,hq,rfl⟩,.tup [t,u],pX e1 e2,q,_,rfl,fun z=>d q z hq,xZ,⟨_,_,rfl,dU hq g1,_,_,rfl,dU hq g2,rfl⟩⟩
def xh2:Tr→Option (Bool×List Tr)
 | .tup ts=>some (true,ts)
 | .lst ts=>some (false,ts)
 | _=>none
def xir (d:DA):DI:=fun τ KK=>d τ fun xs=>match xs with
 | [x,y]=>(match xh2 x,xh2 y with | some p,some q=>KK (oZ p.2 q.2) | _,_=>False)
 | _=>False
theorem nB (h:xh2 x=some p):x=sqT p.1 p.2:=by
 cases x with
 | tup ts=>cases h;rfl
 | lst ts=>cases h;rfl
 | _=>cases h
theorem xbL (h:Rep F H (sqT b ts) v):∃a,v=.ref a:=by
 cases b with
 | true=>obtain⟨a,ws,e,_⟩:=(show Rep F H (.tup ts) v from h);exact⟨a,e⟩
 | false=>obtain⟨a,ws,e,_⟩:=(show Rep F H (.lst ts) v from h);exact⟨a,e⟩
theorem pL (h:OkA K b n ta da):OkI K b (xgB K ta) (xir da):=fun B φ σ τ H R KK Rs hd q =>
 h B φ σ τ H _ _ Rs hd fun ts vs H1 x1 k1 l1 r1=>by
  split at k1
  ·rename_i x y
   split at k1
   ·rename_i p p' e1 e2
    obtain⟨v,w,rfl,g1,g2⟩:=xcM r1
    rw[nB e1] at g1
    rw[nB e2] at g2
    obtain⟨a1,rfl⟩:=xbL g1
    obtain⟨a2,rfl⟩:=xbL g2
    obtain⟨ws,s1,_⟩:=q8 (K:=K) g1
    obtain⟨ws2,s2,_⟩:=q8 (K:=K) g2
    refine⟨p.1,p'.1,a1,a2,ws,ws2,rfl,s1,s2,q _ _ _ H1 x1 k1 xda fun z hz=>?_⟩
    simp only[xk5,xlk,xlW] at hz
    rcases hz with rfl | rfl
    ·exact g1
    ·exact g2
   ·exact k1.elim
  ·exact k1.elim
end
end L2
namespace L2
open PySem PySem.Spec PyProof.Rows
theorem yW (K:PySem.W.Frag)(e:X.K=K:=by rfl):IxR X (rIx K):=e▸xgu
end L2
namespace L2
open PySem PySem.Spec PyProof.Rows
theorem oB (W:List Tr→TSt→Prop)(h0:∀ τ,W [] τ→G.nx τ)
  (h1:∀x xs τ (N:TSt→Prop),W (x::xs) τ→(∀ τ',W xs τ'→N τ')→dg x τ fun τ'=>body { G with nx:=N,ct:=N,bk:=G.nx } τ'):∀xs τ,W xs τ→xcl dg body G xs τ
 | [],τ,w=>h0 τ w
 | x::xs,τ,w=>h1 x xs τ (xcl dg body G xs) w (oB W h0 h1 xs)
theorem wu (W:Nat→TSt→Prop)(w0:W 0 τ)
  (h1:∀i x τ (N:TSt→Prop),all[i]? = some x→W i τ→(∀ τ',W (i+1) τ'→N τ')→dg x τ fun τ'=>body { G with nx:=N,ct:=N,bk:=G.nx } τ')
  (h0:∀ τ,W all.length τ→G.nx τ):xcl dg body G all τ:=by
 refine oB (fun xs τ=>∃i,xs=all.drop i∧i≤all.length∧W i τ) (fun τ ⟨i,e,hi,w⟩=>h0 τ ?_) (fun x xs τ N ⟨i,e,hi,w⟩ hN=>?_) all τ ⟨0,rfl,xlJ _,w0⟩
 ·have:all.length≤i:=by
   have:=xlN List.length e
   rw[xkN] at this
   simp at this
   omega
  have:i=all.length:=by omega
  rw[←this];exact w
 ·have hlt:i<all.length:=by
   have:=xlN List.length e
   rw[xkN] at this
   simp at this
   omega
  rw[xkp hlt] at e
  injection e with e1 e2
  exact h1 i x τ N (by rw[e1];exact xkD hlt) w fun τ' w'=>hN τ' ⟨i+1,e2,hlt,w'⟩
theorem oK (W:Nat→TSt→Prop)
  (h:∀n τ (N:TSt→Prop),W n τ→(∀m τ',m<n→W m τ'→N τ')→c τ fun b=>if b=true then body { G with nx:=N,ct:=N,bk:=G.nx } τ else G.nx τ):∀k n τ,n<k→W n τ→xfl c body G k τ
 | 0,_,_,hk,_=>absurd hk (by omega)
 | k+1,n,τ,hk,w=>h n τ (xfl c body G k) w fun m τ' hm w'=>oK W h k m τ' (by omega) w'
theorem nu (W:Nat→TSt→Prop)(n:Nat)(w0:W n τ)
  (h:∀n τ (N:TSt→Prop),W n τ→(∀m τ',m<n→W m τ'→N τ')→c τ fun b=>if b=true then body { G with nx:=N,ct:=N,bk:=G.nx } τ else G.nx τ):xdJ c body G τ :=
 ⟨n+1,oK W h (n+1) n τ (xlD n) w0⟩
theorem jT {dg:DG}{dc:DT}{de:DE}{τi:TSt}{KK:List Tr→Prop}(W:List Tr→List Tr→Prop)(h0:∀acc,W [] acc→KK acc)
  (h1:∀x xs acc (N:List Tr→Prop),W (x::xs) acc→(∀acc',W xs acc'→N acc')→dg x τi fun τ2=>dc τ2 fun b=>if b=true then de τ2 fun y=>N (acc++[y]) else N acc):∀xs acc,W xs acc→bc dg dc de τi KK xs acc
 | [],acc,w=>h0 acc w
 | x::xs,acc,w=>h1 x xs acc (bc dg dc de τi KK xs) w (jT W h0 h1 xs)
theorem ko {dg:DG}{de:DE}{τi:TSt}{KK:List Tr→Prop}{xs:List Tr}(g:Tr→Tr)(h1:∀x∈xs,∀N:Tr→Prop,N (g x)→dg x τi fun τ2=>de τ2 N)(h0:KK (xs.map g)):bc dg xde de τi KK xs []:=by
 refine jT (fun ys acc=>∃zs,xs=zs++ys∧acc=zs.map g) (fun acc ⟨zs,e,e2⟩=>?_) (fun x ys acc N ⟨zs,e,e2⟩ hN=>?_) xs [] ⟨[],rfl,rfl⟩
 ·rw[xkn] at e
  subst e e2
  exact h0
 ·subst e2
  have hx:x∈xs:=by rw[e];simp
  exact h1 x hx (fun y=>N (zs.map g++[y])) (hN _ ⟨zs++[x],by rw[e];simp,by simp⟩)
theorem qc {α:Type}{f:α→Tr}{l:List α}{i:Nat}{t:Tr}(h:(l.map f)[i]? = some t):∃x,l[i]? = some x∧t=f x:=by
 rw[xkG] at h
 cases e:l[i]? with
 | none=>rw[e] at h;cases h
 | some x=>rw[e] at h;cases h;exact⟨x,rfl,rfl⟩
theorem aZ (ts:List α)(n:Nat):atT ts (n:Int)=ts[n]?:=rH ts n
theorem xg9 (h0:0≤k):atT ts k=ts[k.toNat]?:=by
 obtain⟨n,rfl⟩:∃n:Nat,k=(n:Int):=⟨k.toNat,by omega⟩
 rw[aZ];simp
theorem aE (ts:List α)(t:α):atT (ts++[t]) (-1)=some t:=by
 rw[xer];exact xdd ts t
theorem sqz (h:n≤1000000):n<sizeLine:=xlA h (by decide)
theorem xhF (h:n≤1000000):n≤sizeLine:=xlv (sqz h)
theorem u6 {a b:Int}(h:0≤b):a.fdiv b=a / b:=Int.fdiv_eq_ediv_of_nonneg a h
theorem xcx {a b:Int}(h:0≤b):a.fmod b=a % b:=Int.fmod_eq_emod_of_nonneg a h
end L2
namespace L2
open PySem PySem.Spec PyProof.Rows
theorem wj.get (x:wj P w H h a o):∃ob,h.get? a=some ob:=by
 cases o with
 | lst xs=>obtain⟨_,_,_,_,e⟩:=x;exact⟨_,e⟩
 | tup xs=>obtain⟨_,_,_,_,e,_⟩:=x;exact⟨_,e⟩
 | dK kvs=>obtain⟨_,_,_,_,o,_,_,e,_⟩:=x;exact⟨_,e⟩
 | dT kvs=>obtain⟨_,_,_,_,o,_,_,e,_⟩:=x;exact⟨_,e⟩
 | set S n=>obtain⟨o,_,_,_,e,_⟩:=x;exact⟨_,e⟩
 | ins C dx fs=>obtain⟨_,_,_,e,_⟩:=x;exact⟨_,e⟩
 | own y=>exact x
 | xd fs=>obtain⟨_,⟨_,_,_,e,_⟩,_⟩:=x;exact⟨_,e⟩
 | rng lo hi=>obtain⟨_,_,_,e⟩:=x;exact⟨_,e⟩
 | frz ob u=>obtain⟨e,_⟩:=x;exact⟨_,e⟩
 | tbl ps=>exact⟨_,x⟩
 | tb q=>obtain⟨_,e,_⟩:=x;exact⟨_,e⟩
 | met f y=>exact⟨_,x⟩
 | ext φ=>obtain⟨_,e,_⟩:=x;exact e
structure Fl (P:Program)(w:World)(outer:List Env)(H:Hp)(s:Shared)(ea C:Addr)(H':Hp)(s':Shared):Prop where
 os:s'.os=s.os
 bare:AllBare s'.gens
 un:Un (frs outer) [] H H' s.heap s'.heap
 hok:HOk P w H' s'.heap
 fly:∃(B:Heap) (t:Addr),Heap.FlyingW B outer ea (.ref C) (.ref t) s'.heap∧(∀b o,s.heap.get? b=some o→H b=none→b∉frs outer→B.get? b=some o) ∧
  (∀b o,s.heap.get? b=some o→b∉frs outer→∃o',B.get? b=some o')∧∀b u,H' b=some u→∃o,B.get? b=some o
def CXE (P:Program)(w:World):CXT:=fun outer H s E e s'=>∃ea C H',e=.ref ea∧Fl P w outer H s ea C H' s'∧E (.ref C) none H'
section
variable {P:Program} {w:World} {K:PySem.W.Frag} {mg:Str→Option Value} {base:Heap} {N:List Str} {qual:Str} {scope:Scope} {f:Addr} {cd:Value} {A:Around} {outer:List Env} {s:Shared} {H H':Hp} {E:XK}
theorem HOk.of_fly {h h' B:Heap}(x:HOk P w H' h)(k:B.StaysIn h)(k':B.StaysIn h')(tr:∀b u,H' b=some u→∃o,B.get? b=some o):HOk P w H' h':=fun a o e=>by
 refine(x a o e).stay (fun b u hb q=>?_) (fun _ q=>q) (fun _ _ q=>q) fun _ _ _ q=>q
 have:∃u,H' b=some u:=by
  rcases hb with rfl | hb
  ·exact⟨_,e⟩
  ·exact⟨_,hb⟩
 obtain⟨v,hv⟩:=this
 obtain⟨o',ho⟩:=tr b v hv
 have:=k b o' ho
 rw[q] at this;cases this
 exact k' b _ ho
theorem Inv.old (I:Inv X pins σ H1 s1)(e:X.s₀.heap.get? b=some o):b≠X.env.locals:=xlH (xlB (Heap.lt_size e) I.ok.above)
theorem fi (hf:env.frame=some L)(l:List Env):frs (env::l)=L::frs l:=by unfold frs;rw[xkt,hf]
theorem xgK {X:Cx}(hst:X.stack=X.env::X.outer)(hfr:X.env.frame=some X.env.locals)(hex:X.ex=[])
  (hxe:∀e s',wpAny (model X.prog X.w) X.A (leaving X.env e) (fun _ s''=>CXE X.prog X.w X.outer X.H₀ X.s₀ E e s'') (fun e' s''=>CXE X.prog X.w X.outer X.H₀ X.s₀ E e' s'') s'→X.xe e s'):gC (CXE X.prog X.w) X E:=by
 intro pins σ H1 s1 e s' I h
 obtain⟨ea,C,H2,rfl,⟨os,bare,un,hok,B,t,fl,kB,tB,trB⟩,q⟩:=h
 have hx:∀b,b∉X.ex:=fun b z=>by rw[hex] at z;exact absurd z (by simp)
 have ne:∀b o,X.s₀.heap.get? b=some o→b∉frs X.outer→b∉frs X.stack:=fun b o e nb z=>by
  rcases xk5.mp (I.stkSub b z) with z | z
  ·exact I.old e z
  ·exact nb z
 have inS:∀b,b∈frs X.outer→b∈frs X.stack:=fun b hb=>by rw[hst,fi hfr];exact xk6 _ hb
 have fr:X.A.frames=some (X.env::X.outer):=by rw[←hst];exact I.ok.frames
 have fl0:=fl
 rw[hst] at fl
 refine hxe _ _ (wpAny_leaves_onW (L:=X.env.locals) fr hfr fl fun h' fl' up=>⟨ea,C,H2,rfl,⟨os.trans I.os,bare,?_,hok.of_fly fl.1 fl'.1 trB,B,t,fl',fun b o e n nb=>?_,fun b o e nb=>?_,trB⟩,q⟩)
 ·refine⟨fun b o e n nb _=>?_,fun b o e n hb _=>?_,fun b o e n _=>?_,fun b o e _=>?_,fun b xs e=>un.tups b xs (I.base.tups b xs e),fun b o u e=>un.frzs b o u (I.base.frzs b o u e),fun b ps e=>?_⟩
  ·exact fl'.1 b o (kB b o (I.base.keep b o e n nb (hx b)) (I.base.free b o e n (hx b)) (ne b o e nb))
  ·obtain⟨sl,e1⟩:=I.base.slot b o e n hb (hx b)
   obtain⟨sl2,e2⟩:=un.slot b _ e1 (I.base.free b o e n (hx b)) (inS b hb) (by simp)
   obtain⟨_,o',ho',hnf⟩:=I.ok.funs.mem hb
   rw[e] at ho';cases ho'
   obtain⟨sl3,e3⟩:=up b _ e2 hnf
   exact⟨sl3,e3⟩
  ·obtain⟨o',e1⟩:=I.base.there b o e (hx b)
   exact un.free b o' e1 (I.base.free b o e n (hx b)) (by simp)
  ·by_cases nb:b∈frs X.outer
   ·have n:X.H₀ b=none:=I.ok.frf b nb
    obtain⟨_,o3,ho3,hnf⟩:=I.ok.funs.mem nb
    rw[e] at ho3;cases ho3
    obtain⟨sl,e1'⟩:=I.base.slot b o e n nb (hx b)
    obtain⟨sl2,e2'⟩:=un.slot b _ e1' (I.base.free b o e n (hx b)) (inS b nb) (by simp)
    obtain⟨sl3,e3⟩:=up b _ e2' hnf
    exact⟨_,e3⟩
   ·obtain⟨o',e1⟩:=I.base.there b o e (hx b)
    obtain⟨o2,e2⟩:=tB b o' e1 (ne b o e nb)
    exact⟨o2,fl'.1 b o2 e2⟩
  ·obtain⟨m1,e1⟩:=I.base.tbls b ps e
   obtain⟨m2,e2⟩:=un.tbls b _ e1
   exact⟨m1++m2,by rw[e2,Array.append_assoc]⟩
 ·exact kB b o (I.base.keep b o e n nb (hx b)) (I.base.free b o e n (hx b)) (ne b o e nb)
 ·obtain⟨o',e1⟩:=I.base.there b o e (hx b)
  exact tB b o' e1 (ne b o e nb)
theorem xgZ {pins:List (Addr×Obj)}{σ:St}{H1:Hp}{s1:Shared}{h1:Heap}{ea C:Addr}{vs:List Value}(I:Inv (gU (CXE P w) P w K mg base N qual scope f cd A outer s H E) pins σ H1 s1)(hm:Heap.MadeExcOf s1.heap h1 ea (.ref C) vs)(q:E (.ref C) none H1) :
  (gU (CXE P w) P w K mg base N qual scope f cd A outer s H E).xe (.ref ea) { s1 with heap:=h1 }:=by
 have hx:∀b,b∉(gU (CXE P w) P w K mg base N qual scope f cd A outer s H E).ex:=fun b z=>absurd (show b∈([]:List Addr) from z) (by simp)
 let fs:=frs (gU (CXE P w) P w K mg base N qual scope f cd A outer s H E).stack
 have ne:∀b o,s.heap.get? b=some o→b∉frs outer→b∉fs:=fun b o e nb z=>by
  rcases xk5.mp (I.stkSub b z) with z | z
  ·exact I.old e z
  ·exact nb z
 have hB:(PySem.W.hideAll s1.heap fs).StaysIn s1.heap:=fun b o e=>PySem.W.of_hideAll _ e
 have inB:∀b o,s1.heap.get? b=some o→b∉fs→(PySem.W.hideAll s1.heap fs).get? b=some o:=fun b o e n=>PySem.W.hideAll_get _ e n
 show wpAny (model P w) _ (leaving _ (.ref ea)) _ _ _
 refine wpAny_leaves_madeW (base:=PySem.W.hideAll s1.heap fs) (h:=s1.heap) (L:=s.heap.objs.size) I.ok.frames rfl hB (PySem.W.funFrames_hide I.stack fun env he b hb=>xk9.mpr ⟨env,he,hb⟩) hm
  fun h' t fl _ _ up=>⟨ea,C,H1,rfl,⟨I.os,I.bare,?_,?_,_,t,fl,fun b o e n nb=>?_,fun b o e nb=>?_,fun b u e=>?_⟩,q⟩
 ·refine⟨fun b o e n nb _=>?_,fun b o e n hb _=>?_,fun b o e n _=>?_,fun b o e _=>?_,I.base.tups,I.base.frzs,I.base.tbls⟩
  ·exact fl.1 b o (inB b o (I.base.keep b o e n nb (hx b)) (ne b o e nb))
  ·obtain⟨sl,e1⟩:=I.base.slot b o e n hb (hx b)
   obtain⟨_,o',ho',hnf⟩:=I.ok.funs.mem hb
   have ho':s.heap.get? b=some o':=ho'
   rw[e] at ho';cases ho'
   obtain⟨sl3,e3⟩:=up b _ (hm.keeps b _ e1) hnf
   exact⟨sl3,e3⟩
  ·exact I.base.free b o e n (hx b)
  ·by_cases nb:b∈frs outer
   ·have n:H b=none:=I.ok.frf b nb
    obtain⟨sl,e1⟩:=I.base.slot b o e n nb (hx b)
    obtain⟨_,o',ho',hnf⟩:=I.ok.funs.mem nb
    have ho':s.heap.get? b=some o':=ho'
    rw[e] at ho';cases ho'
    obtain⟨sl3,e3⟩:=up b _ (hm.keeps b _ e1) hnf
    exact⟨_,e3⟩
   ·obtain⟨o',e1⟩:=I.base.there b o e (hx b)
    exact⟨o',fl.1 b o' (inB b o' e1 (ne b o e nb))⟩
 ·refine I.hok.of_fly hB fl.1 fun b u e=>?_
  obtain⟨o,ho⟩:=(I.hok b u e).get
  exact⟨o,inB b o ho fun z=>by rw[I.stkFree b z] at e;cases e⟩
 ·exact inB b o (I.base.keep b o e n nb (hx b)) (ne b o e nb)
 ·obtain⟨o',e1⟩:=I.base.there b o e (hx b)
  exact⟨o',inB b o' e1 (ne b o e nb)⟩
 ·obtain⟨o,ho⟩:=(I.hok b u e).get
  exact⟨o,inB b o ho fun z=>by rw[I.stkFree b z] at e;cases e⟩
def xdL (E:XK)(C:Addr)(t:TA):TS:=fun _ σ H=>t σ H fun vs H1=>vs.length≤sizeLine∧E (.ref C) none H1
theorem aM {x:Str}{C:Addr}{e₀:Expr}{rest:List Expr}{np cpos pos:Pos}{t:TA}{bm:List Value}(O:OwnCls x C bm "ValueError.__new__" mg base)(FB:ExcBaseFacts "ValueError" "ValueError.__new__" "ValueError.__init__" bm)
  (ha:PA (gU (CXE P w) P w K mg base N qual scope f cd A outer s H E) (e₀::rest) t)
  (hg:Gl (gU (CXE P w) P w K mg base N qual scope f cd A outer s H E) x:=by rfl) (hdb:(x == ("__debug__" : Str))=false:=by decide)
  (he:starEach (e₀::rest) (gU (CXE P w) P w K mg base N qual scope f cd A outer s H E).env=(false,eval e₀ (gU (CXE P w) P w K mg base N qual scope f cd A outer s H E).env)::starEach rest (gU (CXE P w) P w K mg base N qual scope f cd A outer s H E).env:=by rfl)
  (hpl:(backTo cpos (starEach rest (gU (CXE P w) P w K mg base N qual scope f cd A outer s H E).env)).any (·.1)=false:=by rfl) :
  PS (gU (CXE P w) P w K mg base N qual scope f cd A outer s H E) (.Raise (some (.Call (.Name x np) (e₀::rest) [] cpos)) none pos) (xdL E C t):=by
 intro pins s1 σ H1 D I h
 obtain⟨tl,N',nm,q,bs,hdct,sn,sub,ab,col,dd,k0,k1,k2,k3,k5,mN,hC,hN,hni,T⟩:=O.obj
 refine wpAny_Raise_call_subT (C:=C) (nm:=nm) (q:=q) (N:=N') (bs:=bs) (bm:=tl) (hdct:=hdct) (sn:=sn) (sub:=sub) (ab:=ab) (col:=col) (dd:=dd) (k0:=k0) (k1:=k1) (k2:=k2) (k3:=k3) (k5:=k5)
  FB (mN:=mN) (T.hasType FB.hasBase) (I.ok.hd rfl) (by rw[he];show(false || (backTo cpos (starEach rest _)).any (·.1))=false;rw[hpl];rfl) hni (hZ I hg O.bound ⟨rfl,?_⟩ hdb)
 have h2:=@ha cpos pins s1 σ H1 _ I h
 rw[he] at h2 ⊢
 refine Calls.evalArgs_plain (wpAny_mono h2 (fun us s2 ⟨vs,H2,I2,r,z,q⟩=>⟨rfl,by rw[←r.length];exact z,I2.bk _ _ hC,hN.keeps I2.bk,T.keeps I2.bk,fun h' e hm=>xgZ I2 hm q⟩) fun _ _ y=>y)
structure oH (P:Program)(w:World)(K:PySem.W.Frag)(mg:Str→Option Value)(base:Heap)(k:Nat)(x:Str)(ps:List Str)(sp:Sp):Prop where
 ex:∃(f:Addr) (fd:FuncData),sY P w K mg base (CXE P w) k f fd ps sp∧Binds K fd ps []∧PySem.W.keepIn K (.ref f)=true∧mg x=some (.ref f)
theorem oH.mono (h:oH P w K mg base j x ps sp)(hjk:j≤k):oH P w K mg base k x ps sp:=by
 obtain⟨f,fd,F,b,kp,m⟩:=h.ex
 exact⟨f,fd,F.mono hjk,b,kp,m⟩
end
def xcT (sp:Sp)(E:XK)(t:TA):TE:=fun σ H Q=>t σ H fun vs H1=>sp vs H1 Q E
theorem xbg (h:oH X.prog X.w X.K X.mg X.base j x ps sp)(hr:kL k X.A)(hx:gC (CXE X.prog X.w) X E)(ha:PA X (e::es) t)(hjk:j≤k:=by decide)(hg:Gl X x:=by rfl)
  (hdb:(x == ("__debug__" : Str))=false:=by decide) (he:starEach (e::es) X.env=(false,eval e X.env)::starEach es X.env:=by rfl) (hpl:(backTo pos (starEach es X.env)).any (·.1)=false:=by rfl) :
  PE X (.Call (.Name x p) (e::es) [] pos) (xcT sp E t):=by
 obtain⟨f,fd,F,b,kp,m⟩:=(h.mono hjk).ex
 intro pins s σ H Q I q
 refine xaS (E:=E) F hr hg m kp b .nil hx ha hdb he hpl s σ H Q I ?_
 have e:(fun(vs:List V) (H1:Hp)=>sp (vs++[]) H1 Q E)=fun vs H1=>sp vs H1 Q E:=by
  funext vs H1;rw[xkn]
 show t σ H fun vs H1=>sp (vs++[]) H1 Q E
 rw[e];exact q
theorem zZ:PSs X b oM:=fun _ _ _ _ _ _ h=>h.elim
theorem xaT {P:Program}{w:World}{K:PySem.W.Frag}{mg:Str→Option Value}{base:Heap}{k:Nat}{x qual:Str}{st:Stmt}{f:Addr}{fd:FuncData}{N ps:List Str}{sp:Sp}(F:Fun K x qual st f fd)(S:xC N ps (xf st))(mgx:mg x=some (.ref f))(b:Binds K fd ps [])
  (len:∀vs H Q E,sp vs H Q E→vs.length=ps.length)
  (body:∀(cdv:Value) (A:Around) (outer:List Env) (s:Shared) (H:Hp) (vs:List V) (Q:VK) (E:XK),kL k (A.deeper (envOfC qual (xf st) s.heap.objs.size f cdv))→sp vs H Q E →
   ∃t,PSs (gU (CXE P w) P w K mg base N qual (xf st) f cdv A outer s H E) (yZ st) t∧t { nx:=fun _ H'=>Q .non H',rt:=Q } (start N vs) H):oH P w K mg base (k+1) x ps sp:=by
 have kp:=F.kp
 obtain⟨oc,od,kV,doc,pm,an,cdv,ct,osl,rfl,lk,hcd⟩:=F.ex
 exact⟨f,_,xeE lk hcd S len fun A outer s H vs Q E hr hsp=>body cdv A outer s H vs Q E hr hsp,b,kp,mgx⟩
end L2
namespace L2
open PySem PySem.Spec PySem.Calls PyProof.Rows
structure lA (K:PySem.W.Frag)(C:Addr):Prop where
 ga:PySem.W.findIn K (.ref C) "__getattribute__" = some (some (.builtin "BaseException.__getattribute__"))
 gt:PySem.W.findIn K (.ref C) "__getattr__" = some none
 cl:PySem.W.findIn K (.ref C) "__class__" = some (some (.builtin "object.__class__"))
 sp:PySem.W.specialIn K (.builtin "object.__class__") "__get__" = some (some (.builtin "getset_descriptor.__get__"))
 tk:PySem.W.takesIn K (.builtin "object.__class__")=some true
 mo:PySem.W.mroIn K C (.type "object")=some true
 mb:PySem.W.mroIn K C (.type "BaseException")=some true
 hd:PySem.W.hasDictIn K C=true
def xcB (a C:Addr)(h:Heap):Prop:=∃o,h.get? a=some o∧o.cls=.ref C
section
variable {prog:Program} {w:World} {A:Around} {E:Value→Shared→Prop} {s:Shared} {K:PySem.W.Frag} {ea C:Addr}
theorem xcB.ty (I:xcB ea C h):PySem.W.Looks M h (typeOf (.ref ea)) (.ref C):=by
 obtain⟨o,h1,h2⟩:=I
 rw[←h2]
 exact(PySem.W.Looks.ld h1).andThen .now
theorem xeA (Z:lA K C)(X:K.In h):PySem.W.Looks M h (Builtin.ObjectAttr.find (.ref ea) (.ref C) "__class__") (.bind (.builtin "getset_descriptor.__get__") (.builtin "object.__class__")):=by
 have l1:=PySem.W.looks_findIn (M:=M) X Z.cl
 have l2:PySem.W.Looks M h (Builtin.ObjectAttr.getOf (some (.builtin "object.__class__"))) (some (.builtin "getset_descriptor.__get__")):=PySem.W.looks_specialIn X Z.sp
 have l3:=PySem.W.looks_takesIn (M:=M) X Z.tk
 have l4:PySem.W.Looks M h (Builtin.ObjectAttr.dataDescriptor? (some (.builtin "object.__class__")) (some (.builtin "getset_descriptor.__get__"))) (some (.builtin "getset_descriptor.__get__", .builtin "object.__class__")):=l3.andThen .now
 exact l1.andThen (l2.andThen (l4.andThen (PySem.W.Looks.tag .now)))
theorem xgo (Z:lA K C)(X:K.In s.heap)(I:xcB ea C s.heap)(hq:R (.ok (.ret (.ref C))) s) :
  codeAny (model prog w) A (.call (.builtin "getset_descriptor.__get__") ⟨[.builtin "object.__class__", .ref ea,tp],[]⟩) R s:=by
 have l0:=I.ty (M:=model prog w)
 have l1:=PySem.W.looks_mroIn (M:=model prog w) X Z.mo
 obtain⟨hh,gg,dd,tt,oo⟩:=s
 refine codeAny_call_builtin PySem.W.KF.slot_gs.plain PySem.W.KF.entry_gs ?_
 refine PySem.W.KF.slot_gs.check _ _ _ _ _ _ _ _ PySem.W.KF.type_class (PySem.W.KF.args_gs _ _ _) ?_
 unfold Builtin.«getset_descriptor.__get__» Builtin.Getset_descriptor.descrGet
 rw[PySem.W.dga_obj]
 refine wpAny_bind (wpAny_pure ?_)
 unfold Builtin.Getset_descriptor.descrGetter Builtin.Getset_descriptor.descrCheckInstance Builtin.Getset_descriptor.descrNameAndClass isInstance
 simp only[PySem.W.KF.owner_class]
 repeat lk
 refine⟨Code.quiet_builtin _ (by decide +kernel),?_⟩
 refine codeAny_builtin PySem.W.KF.entry_class ?_
 unfold Builtin.«object.__class__» shownTypeOf
 repeat lk
 exact hq
theorem xdl (Z:lA K C)(X:K.In s.heap)(I:xcB ea C s.heap)(hq:Q (.done (.ret (.ref C))) s) :
  wpAny (model prog w) A (Builtin.«object.__getattribute__» ⟨[.ref ea,.str "__class__" tk],[]⟩) Q E s:=by
 obtain⟨h,g,d,t,os⟩:=s
 have L0:=I.ty (M:=model prog w)
 have L1:=xeA (M:=model prog w) (ea:=ea) Z X
 unfold Builtin.«object.__getattribute__»
 refine wpAny_bind (wpAny_pure ?_)
 refine wpAny_bind (wpAny_pure ?_)
 refine wpAny_bind (L0.at ?_)
 refine wpAny_bind (L1.at ?_)
 show wpAny _ _ (holding [Value.builtin "object.__class__"] (call (.builtin "getset_descriptor.__get__") [.builtin "object.__class__", .ref ea,.ref C]) >>= ret) _ _ _
 refine wpAny_bind (wpAny_holding (wpAny_call (xgo Z X I ?_)))
 exact wpAny_pure hq
theorem xcF (Z:lA K C)(X:K.In s.heap)(I:xcB ea C s.heap)(hq:Q () s):wpAny (model prog w) A (checkBuiltinCall "BaseException.__getattribute__" ⟨[.ref ea,nameV],[]⟩) Q E s:=by
 have b1:builtinKind "BaseException.__getattribute__" = some .slot:=by decide +kernel
 have b2:splitId "BaseException.__getattribute__" = some ("BaseException", "__getattribute__"):=by decide +kernel
 have b3:=F.args_bexc_ga (.ref ea) nameV
 have L0:=I.ty (M:=model prog w)
 have L1:PySem.W.Looks (model prog w) s.heap (isInstance (.ref ea) (.type "BaseException")) true:=L0.andThen (PySem.W.looks_mroIn (M:=model prog w) X Z.mb)
 obtain⟨h,g,d,t,os⟩:=s
 simp only[checkBuiltinCall,b1,b2]
 refine wpAny_bind (L1.at ?_)
 repeat (first | exact hq | wp_step)
theorem xfG (Z:lA K C)(X:K.In s.heap)(I:xcB ea C s.heap)(hq:R (.ok (.ret (.ref C))) s) :
  codeAny (model prog w) A (.call (.builtin "BaseException.__getattribute__") ⟨[.ref ea,.str "__class__" tk],[]⟩) R s :=
 codeAny_call_builtin F.attr_ValueError.ga.plain F.entry_bexc_ga (xcF Z X I (xdl Z X I hq))
theorem xcC (Z:lA K C)(X:K.In s.heap)(I:xcB ea C s.heap)(h:Q (some (.ref C)) { s with toks:=s.toks+1 }):wpAny (model prog w) A (getAttr? (.ref ea) "__class__") Q E s:=by
 obtain⟨hh,g,d,t,os⟩:=s
 have L0:=I.ty (M:=model prog w)
 have L1:=PySem.W.looks_findIn (M:=model prog w) X Z.ga
 have L2:=PySem.W.looks_findIn (M:=model prog w) X Z.gt
 unfold getAttr? getAttrBy? getAttrBy
 refine wpAny_bind (wpAny_mkText (wpAny_bind (wpAny_attempt (wpAny_holding ?_))))
 refine wpAny_bind (L0.at (wpAny_bind (L1.at ?_)))
 show wpAny _ _ (getAttrByItsOwn _ _ _ _ _ _) _ _ _
 unfold getAttrByItsOwn
 refine wpAny_bind (L2.at ?_)
 refine wpAny_bind (wpAny_attempt (wpAny_holding ?_))
 show wpAny _ _ (boundAndCalled _ _ _) _ _ _
 unfold boundAndCalled
 rw[F.attr_ValueError.ga.bind (.ref ea)]
 refine wpAny_bind (wpAny_pure (wpAny_call (xfG (s:=⟨hh,g,d,t+1,os⟩) Z X I ?_)))
 exact PySem.W.handed_on rfl (wpAny_pure h)
theorem xcK (Z:lA K C):PySem.W.KitX K (.ref ea) (.ref C) (xcB ea C):=by
 have there:∃c d cd sl,K.lookup C=some ⟨c,d,.cls cd,sl⟩:=by
  obtain⟨cdD,hcD,_⟩:=PySem.W.any_some Z.hd
  unfold PySem.W.clsIn at hcD
  split at hcD
  ·rename_i ho
   exact⟨_,_,_,_,ho⟩
  ·cases hcD
 obtain⟨c,d,cd,sl,ho⟩:=there
 refine⟨fun _ _ _ I=>I.ty,fun _ _ X _ A' Q' E' s' k q=>?_,fun h tp dd its n sl' X htp=>?_,fun X I k=>xcC Z X I k⟩
 ·unfold isType loadHead
  exact wpAny_bind (wpAny_loadPart (k _ _ (X _ _ ho)) (wpAny_pure q))
 ·refine Bool.eq_false_iff.mpr fun q=>?_
  have e:C=tp:=Value.ref.inj (xlM.mp q)
  subst e
  have z:=(X _ _ ho).symm.trans htp
  cases z
end
end L2
namespace L2
open PySem PySem.Spec PySem.Calls PyProof.Rows
section
variable {P:Program} {w:World}
theorem xg_ {st:List Env}{H H':Hp}{s s':Shared}{B h':Heap}(un:Un (frs st) [] H H' s.heap s'.heap)(kB:∀b o,s.heap.get? b=some o→H b=none→b∉frs st→B.get? b=some o)
  (tB:∀b o,s.heap.get? b=some o→b∉frs st→∃o',B.get? b=some o') (hff:s'.heap.FunFrames B st) (hB:B.StaysIn h') (up:s'.heap.UpToSlots h'):Un (frs st) [] H H' s.heap h' where
 keep:=fun b o e n nb _=>hB b o (kB b o e n nb)
 slot:=fun b o e n hb hx=>by
  obtain⟨sl,e1⟩:=un.slot b o e n hb hx
  obtain⟨_,o',ho',hnf⟩:=hff.mem hb
  rw[e1] at ho';cases ho'
  obtain⟨sl2,e2⟩:=up b _ e1 hnf
  exact⟨sl2,e2⟩
 free:=un.free
 there:=fun b o e hx=>by
  by_cases nb:b∈frs st
  ·obtain⟨_,o',ho',hnf⟩:=hff.mem nb
   obtain⟨sl2,e2⟩:=up b _ ho' hnf
   exact⟨_,e2⟩
  ·obtain⟨o2,e2⟩:=tB b o e nb
   exact⟨o2,hB b o2 e2⟩
 tups:=un.tups
 frzs:=un.frzs
 tbls:=un.tbls
variable {X:Cx} {pins:List (Addr×Obj)} {σ:St} {H H':Hp} {s s':Shared} {ea C:Addr}
theorem Inv.pinX (I:Inv X pins σ H s)(h1:s.heap.get? p.1=some p.2)(h2:H p.1=none)(h3:p.1≠X.env.locals)(h4:p.1∉X.fs)(h5:∀v,p.2.data≠.cell v):Inv X (p::pins) σ H s :=
 ⟨I.ok,I.os,I.bare,I.base,I.loc,I.cell,I.free,I.freeC,fun q hq=>by
  rcases xk2.mp hq with z | z
  ·exact I.pin q (xk3 _ z)
  ·rcases xk5.mp z with rfl | z
   ·exact⟨h1,h2,h3,h4,h5⟩
   ·exact I.pin q (xk4 _ z),I.hok,I.len⟩
abbrev Cx.marked (X:Cx)(e:Value):Cx:={ X with A:=X.A.mark (some e),calm:=false,xe:=fun _ _=>False }
theorem Inv.marked (I:Inv X pins σ H s):Inv (X.marked e) pins σ H s :=
 ⟨⟨I.ok.mod,I.ok.kind,I.ok.glob,I.ok.blt,I.ok.above,I.ok.inj,I.ok.has,I.ok.cab,(fun z=>nomatch z),I.ok.frames,I.ok.stk,I.ok.exf,I.ok.bs,I.ok.bsz,I.ok.noex,I.ok.exfs,I.ok.funs,I.ok.frf⟩,
  I.os,I.bare,I.base,I.loc,I.cell,I.free,I.freeC,I.pin,I.hok,I.len⟩
theorem Inv.unmarked (I:Inv (X.marked e) pins σ H s)(hd:X.calm=true→X.A.handled=none):Inv X pins σ H s :=
 ⟨⟨I.ok.mod,I.ok.kind,I.ok.glob,I.ok.blt,I.ok.above,I.ok.inj,I.ok.has,I.ok.cab,hd,I.ok.frames,I.ok.stk,I.ok.exf,I.ok.bs,I.ok.bsz,I.ok.noex,I.ok.exfs,I.ok.funs,I.ok.frf⟩,
  I.os,I.bare,I.base,I.loc,I.cell,I.free,I.freeC,I.pin,I.hok,I.len⟩
theorem Inv.nsX (I:Inv X pins σ H s)(hs:Heap.SameBut X.env.locals s.heap h')(hn:h'.Ns X.env.locals m')
  (hl:∀(i:Nat) (x:Str) (v:V),X.N[i]? = some x→σ'[i]? = some (some v)→Vis X.env.scope x→∃u,RelV v u∧Look X.env h' m' x u) (len:σ'.length=X.N.length):Inv X pins σ' H { s with heap:=h',toks:=t' }:=by
 refine⟨I.ok,I.os,I.bare,⟨fun b o e n hb hx=>?_,fun b o e n hb hx=>?_,I.base.free,fun b o e hx=>?_,I.base.tups,I.base.frzs,I.base.tbls⟩,⟨m',hn,hl⟩,fun x c e=>?_,I.free,I.freeC,fun p hp=>?_,fun a o e=>?_,len⟩
 ·exact(hs.2 b (I.old e)).trans (I.base.keep b o e n hb hx)
 ·obtain⟨sl,q⟩:=I.base.slot b o e n hb hx
  exact⟨sl,(hs.2 b (I.old e)).trans q⟩
 ·obtain⟨o',q⟩:=I.base.there b o e hx
  exact⟨o',(hs.2 b (I.old e)).trans q⟩
 ·obtain⟨v,o,ho,hd⟩:=I.cell x c e
  exact⟨v,o,(hs.2 c (I.cne x c e)).trans ho,hd⟩
 ·obtain⟨p1,p2,p3,p4⟩:=I.pin p hp
  exact⟨(hs.2 _ p3).trans p1,p2,p3,p4⟩
 ·refine(I.hok a o e).stay (fun b u hb q=>(hs.2 b ?_).trans q) (fun _ q=>q) (fun _ _ q=>q) fun _ _ _ q=>q
  rintro rfl
  rcases hb with rfl | hb
  ·rw[I.free] at e;cases e
  ·rw[I.free] at hb;cases hb
theorem xbv {cx n z:Str}{i j:Nat}{D:Addr}{np zp np2 ap hp:Pos}{Q:Flow→Shared→Prop}{E:Value→Shared→Prop}(hst:X.stack=X.env::X.outer)(hfr:X.env.frame=some X.env.locals)(hN:X.N.Nodup)(hi:X.N[i]? = some n)(hj:X.N[j]? = some z)
  (hn:X.env.scope.names.lookup n=some .local) (hz:Loc X.env.scope z) (hzf:X.fn z=true) (hg:Gl X cx) (hm:X.mg cx=some (.ref D)) (hx:PySem.W.exmOne X.K (.ref C) (.ref D)=some true)
  (hsw:swapsWith (.Name n np2) (some (.Name z zp)) ap.line X.env=pure false) (hdn:(n == ("__debug__" : Str))=false) (hcn:(n == ("__classdict__" : Str))=false) (hdb:(cx == ("__debug__" : Str))=false)
  (I:Inv X pins σ H s) (F:Fl X.prog X.w X.stack H s ea C H' s')
  (k:∀oe s2,Inv X ((ea,oe)::pins) (((σ.set i (some (.ref ea))).set j (some (.ref ea))).set i none) H' s2→oe.cls=.ref C→Q .next s2) :
  wpAny (model X.prog X.w) X.A (noteFrame (.ref ea) X.env) (fun _ s₂=>wpAny (model X.prog X.w) X.A (setFlight (.ref ea) none) (fun _ s₃ =>
   wpAny (model X.prog X.w) X.A (handleBy (.ref ea) X.env [.ExceptHandler (some (.Name cx np)) (some n) [.Assign [.Name z zp] (.Name n np2) ap] hp]) Q E s₃) E s₂) E s':=by
 obtain⟨os,bare,un,hok,B,t,fl,kB,tB,trB⟩:=F
 have fr:X.A.frames=some (X.env::X.outer):=by rw[←hst];exact I.ok.frames
 have fl0:=fl
 have inv:∀h,Heap.FlyingW B X.stack ea (.ref C) (.ref t) h→s'.heap.UpToSlots h→Inv X pins σ H' { s' with heap:=h }:=fun h f2 up =>
  I.call' (s':={ s' with heap:=h }) (ch:=[]) os (xg_ un kB tB fl0.2.2.1 f2.1 up) (hok.of_fly fl0.1 f2.1 trB) bare (fun b z=>absurd z (by simp))
 have isof:∀h,Heap.FlyingW B X.stack ea (.ref C) (.ref t) h→xcB ea C h:=fun h f2=>f2.there
 rw[hst] at fl
 refine wpAny_looks_onW fr hfr fl fun h4 held4 up4=>?_
 refine wpAny_landsW held4 fun h5 fl5 up5=>?_
 have up45:=up4.trans up5
 have fl5':Heap.FlyingW B X.stack ea (.ref C) (.ref t) h5:=by rw[hst];exact fl5
 have I5:=inv h5 fl5' up45
 refine wpAny_handleBy_cons (codeAny_handlers_test ?_) (by intro q;cases q)
 refine hZ (X:=X.marked (.ref ea)) (s:={ s' with heap:=h5 }) I5.marked hg hm ?_ hdb
 refine PySem.W.Looks.here (s:={ s' with heap:=h5 }) (PySem.W.exm_one (K:=X.K) I5.kIn (isof h5 fl5').ty hx) ?_
 show codeAny _ _ (.handlers _ _ X.env) _ _
 refine codeAny_handlers_suite_as ?_
 refine lands_againW fl5 fun h6 fl6 up6=>?_
 have fl6':Heap.FlyingW B X.stack ea (.ref C) (.ref t) h6:=by rw[hst];exact fl6
 have I6:=(inv h6 fl6' (up45.trans up6)).marked (e:=.ref ea)
 have hea:H' ea=none:=by
  cases q:H' ea with
  | none=>rfl
  | some u =>
   obtain⟨o,ho⟩:=trB ea u q
   rw[fl0.2.1] at ho;cases ho
 obtain⟨oe,vs,hoe,hcl,hda,_⟩:=fl6'.first
 have nL:ea≠X.env.locals:=fun q=>by
  obtain⟨m,⟨o,es,ep,ho,hd',_⟩,_⟩:=I6.loc
  have ho:h6.get? X.env.locals=some o:=ho
  rw[←q,hoe] at ho;cases ho;rw[hda] at hd';cases hd'
 have nF:ea∉X.fs:=fun q=>by
  have q2:ea∈frs X.stack:=by rw[hst,fi hfr];exact xk6 _ q
  obtain⟨_,o,ho,hnf⟩:=fl6'.2.2.1.mem q2
  rw[hoe] at ho;cases ho;exact hnf vs hda
 have I6p:Inv (X.marked (.ref ea)) ((ea,oe)::pins) σ H' { s' with heap:=h6 }:=Inv.pinX (p:=(ea,oe)) I6 hoe hea nL nF (fun v q=>by rw[hda] at q;cases q)
 refine jV (X:=X.marked (.ref ea)) (i:=i) (v:=.ref ea) I6p hN hi (.inl hn) rfl (fun s7 I7=>?_) (.inr hn)
 have il:i<σ.length:=by rw[I.len];exact(xkF.mp hi).1
 have ps:PSs (X.marked (.ref ea)) [.Assign [.Name z zp] (.Name n np2) ap] _:=xi (ug (X:=X.marked (.ref ea)) (i:=j) hN hj hz (xei (X:=X.marked (.ref ea)) (i:=i) hi (.inl hn) hdn hcn) hsw (.inl hzf))
 refine wpAny_mono (ps s7 _ H' { nx:=fun σ2 H2=>σ2=(σ.set i (some (.ref ea))).set j (some (.ref ea))∧H2=H',rt:=fun _ _=>False } I7 ⟨.ref ea,by rw[xkI il],rfl,rfl⟩) (fun f s8 h8=>?_) (fun _ _ z=>z.elim)
 cases f with
 | ret u=>obtain⟨_,_,_,_,_,z⟩:=h8;exact z.elim
 | brk=>obtain⟨_,_,_,z⟩:=h8;exact z.elim
 | cont=>obtain⟨_,_,_,z⟩:=h8;exact z.elim
 | next =>
  obtain⟨σ2,H2,I8,rfl,rfl⟩:=h8
  have I8:=I8.unmarked I.ok.hd
  obtain⟨m,hm8,hl8⟩:=id I8.loc
  show wpAny _ _ (do bindName X.env n .none;unbindBehindTheSuite X.env n hp) _ _ s8
  refine wpAny_nameGoes_keeps hn hm8 (by rw[I.ok.kind];rfl) fun h9 v9 hn9 hs9=>?_
  refine k oe _ (I8.nsX hs9 hn9 (fun a x v e1 e2 e3=>?_) (by rw[xkR];exact I8.len)) hcl
  have na:a≠i:=fun q=>by
   subst q
   rw[xkI (by rw[xkR,xkR];exact il)] at e2
   cases e2
  rw[xkH (Ne.symm na)] at e2
  obtain⟨u,r,l⟩:=hl8 a x v e1 e2 e3
  refine⟨u,r,?_⟩
  have nx:x≠n:=fun q=>by subst q;exact na (rf hN e1 hi)
  rcases l with ⟨q1,q2⟩ | ⟨q1,c,q2,o,q3,q4⟩
  ·exact .inl ⟨q1,by show(if x=n then v9 else m x)=some u;rw[if_neg nx];exact q2⟩
  ·exact .inr ⟨q1,c,q2,o,(hs9.2 c (I8.cne x c q2)).trans q3,q4⟩
end
end L2
namespace L2
open PySem PySem.Spec PySem.Calls PyProof.Rows
section
variable {X:Cx} {pins:List (Addr×Obj)} {σ:St} {H H':Hp} {s s':Shared} {ea C:Addr}
abbrev Cx.knows (X:Cx)(p:Addr×Obj):Cx:={ X with pn:=p::X.pn }
theorem Inv.knows (I:Inv X (p::pins) σ H s):Inv (X.knows p) pins σ H s :=
 ⟨⟨I.ok.mod,I.ok.kind,I.ok.glob,I.ok.blt,I.ok.above,I.ok.inj,I.ok.has,I.ok.cab,I.ok.hd,I.ok.frames,I.ok.stk,I.ok.exf,I.ok.bs,I.ok.bsz,I.ok.noex,I.ok.exfs,I.ok.funs,I.ok.frf⟩,
  I.os,I.bare,I.base,I.loc,I.cell,I.free,I.freeC,fun q hq=>I.pin q (by
   rcases xk5.mp (show q∈p::(X.pn++pins) from hq) with z | z
   ·exact xk4 _ (by rw[z];exact xk7)
   ·rcases xk2.mp z with z | z
    ·exact xk3 _ z
    ·exact xk4 _ (xk6 _ z)),I.hok,I.len⟩
theorem Inv.unknows (I:Inv (X.knows p) pins σ H s):Inv X pins σ H s :=
 ⟨⟨I.ok.mod,I.ok.kind,I.ok.glob,I.ok.blt,I.ok.above,I.ok.inj,I.ok.has,I.ok.cab,I.ok.hd,I.ok.frames,I.ok.stk,I.ok.exf,I.ok.bs,I.ok.bsz,I.ok.noex,I.ok.exfs,I.ok.funs,I.ok.frf⟩,
  I.os,I.bare,I.base,I.loc,I.cell,I.free,I.freeC,fun q hq=>I.pin q (xk6 _ hq),I.hok,I.len⟩
theorem SP.unknows (h:SP (X.knows p) pins D f s):SP X pins D f s:=by
 cases f with
 | next=>obtain⟨a,b,I,q⟩:=h;exact⟨a,b,I.unknows,q⟩
 | brk=>obtain⟨a,b,I,q⟩:=h;exact⟨a,b,I.unknows,q⟩
 | cont=>obtain⟨a,b,I,q⟩:=h;exact⟨a,b,I.unknows,q⟩
 | ret u=>obtain⟨v,a,b,I,r,q⟩:=h;exact⟨v,a,b,I.unknows,r,q⟩
def xhC (ea:Addr)(c:V)(b:Bool)(xs:List V)(H:Hp)(Q:VK):Prop:=xs=[.ref ea,c]∧Q (.bl b) H
theorem pq (hp:(ea,oe)∈X.pn)(hc:oe.cls=.ref C)(Z:lA X.K C)(e:∀u,RelV c u→PySem.W.kitOne X.K (.ref C) u=some b):uk X (.builtin "isinstance") (xhC ea c b):=by
 intro pins s σ H xs us Q I r h
 obtain⟨rfl,q⟩:=h
 cases r with
 | cons r1 r2 =>
  cases r2 with
  | cons r2 r3 =>
   cases r3
   rename_i u1 u2
   cases (show u1=Value.ref ea from r1)
   exact PySem.W.kia_one (xcK Z) I.kIn ⟨oe,(I.pin _ (xk3 _ hp)).1,hc⟩ (e _ r2) (fun z=>nomatch z) fun tk=>⟨.bl b,H,I.tok tk,rfl,q⟩
theorem xfP {cx n z y:Str}{i j c:Nat}{D g:Addr}{np zp np2 ap hp yp cp ep tp:Pos}{rest:List Stmt}{trest:Addr→Obj→TS}{LP:Hp→Prop}{KX:Hp→Hp→Prop}(hst:X.stack=X.env::X.outer)(hfr:X.env.frame=some X.env.locals)(hN:X.N.Nodup)
  (hi:X.N[i]? = some n) (hj:X.N[j]? = some z) (hc:X.N[c]? = some y) (hn:X.env.scope.names.lookup n=some .local) (hz:Loc X.env.scope z) (hy:Vis X.env.scope y) (hzf:X.fn z=true) (hg:Gl X cx) (hm:X.mg cx=some (.ref D)) (hx:PySem.W.exmOne X.K (.ref C) (.ref D)=some true)
  (hsw:swapsWith (.Name n np2) (some (.Name z zp)) ap.line X.env=pure false) (hdn:(n == ("__debug__" : Str))=false) (hcn:(n == ("__classdict__" : Str))=false) (hdb:(cx == ("__debug__" : Str))=false)
  (hdy:(y == ("__debug__" : Str))=false) (hcy:(y == ("__classdict__" : Str))=false) (hsy:swapsWith (.Call (.Name y yp) [] [] cp) none ep.line X.env=pure false)
  (hfn:PySem.W.FnAt g X.base) (hcall:∀pins σ H s,Inv X pins σ H s→LP H→codeAny (model X.prog X.w) X.A (.call (.ref g) ⟨[],[]⟩) (CR (CXE X.prog X.w) X.stack X.prog X.w H s (fun _ _=>False) fun k _ H'=>k=.ref C∧KX H H') s)
  (hrest:∀ea oe,oe.cls=.ref C→PSs (X.knows (ea,oe)) rest (trest ea oe)) :
  PSs X (.Try [.Expr (.Call (.Name y yp) [] [] cp) ep] [.ExceptHandler (some (.Name cx np)) (some n) [.Assign [.Name z zp] (.Name n np2) ap] hp] [] [] tp::rest)
   (fun D' σ H=>σ[c]? = some (some (.ref g))∧LP H∧∀ea oe H',KX H H'→trest ea oe D' (((σ.set i (some (.ref ea))).set j (some (.ref ea))).set i none) H'):=by
 intro pins s σ H D' I h
 obtain⟨h1,h2,h3⟩:=h
 refine wpAny_execs_cons (wpAny_Try_except ?_)
 refine wpAny_execs_cons (wpAny_Expr_any ?_ I.quiet hsy)
 refine wpAny_Call_Name_kw ?_
 have X1:X.nox=X.nox:=rfl
 obtain⟨m,hnm,hl⟩:=id I.loc
 obtain⟨u,r,l⟩:=hl c y (.ref g) hc h1 hy
 cases (show u=Value.ref g from r)
 have load:∀ {E:Value→Shared→Prop} {Q:Value→Shared→Prop},Q (.ref g) s→wpAny (model X.prog X.w) X.A (eval (.Name y yp) X.env) Q E s:=fun {E Q} q=>by
  rcases l with ⟨hk,hm'⟩ | ⟨hk,c',hc',hcell⟩
  ·exact wpAny_Name (wpAny_loadName_local I.ok.kind hk hnm hm' q) hdy
  ·rcases hk with hk | hk
   ·exact wpAny_Name (wpAny_loadName_cell I.ok.kind hk hc' hcell q) hdy
   ·exact wpAny_Name (wpAny_loadName_free I.ok.kind hk hc' hcell q hcy) hdy
 refine load ?_
 have fnS:PySem.W.FnAt g s.heap:=by
  obtain⟨oc,od,fd,sl,e⟩:=hfn
  exact⟨oc,od,fd,sl,I.bk _ _ e⟩
 refine PySem.W.callWith_F0 (first:=[]) fnS (wpAny_call (codeAny_mono (hcall pins σ H s I h2) fun r s1 hr=>?_))
 cases r with
 | ok fl =>
  cases fl with
  | ret u=>obtain⟨_,_,_,_,_,_,_,q⟩:=hr;exact q.elim
  | next=>exact hr.elim
  | brk=>exact hr.elim
  | cont=>exact hr.elim
 | error e =>
  obtain⟨ea,C',H',rfl,F,q1,q2⟩:=hr
  cases q1
  refine xbv hst hfr hN hi hj hn hz hzf hg hm hx hsw hdn hcn hdb I F fun oe s2 I2 hcl=>?_
  exact thn (hrest ea oe hcl s2 _ H' D' I2.knows (h3 ea oe H' q2)) fun f s3 q=>q.unknows
end
end L2
namespace L2
open PySem PySem.Spec PySem.Calls PyProof.Rows
def xaH (P:Program)(w:World)(K:PySem.W.Frag)(mg:Str→Option Value)(base:Heap)(N:List Str)(qual:Str)(scope:Scope)(g:Addr)(cd:Value)(cl:List (Str×Addr))(A:Around)(outer:List Env)(s:Shared)(H:Hp)(E:XK):Cx where
 prog:=P
 w:=w
 K:=K
 mg:=mg
 base:=base
 A:=A.deeper (PySem.W.envX qual scope s.heap.objs.size g cd cl)
 N:=N
 s₀:=s
 H₀:=H
 env:=PySem.W.envX qual scope s.heap.objs.size g cd cl
 outer:=outer
 stack:=PySem.W.envX qual scope s.heap.objs.size g cd cl::outer
 ex:=[]
 calm:=true
 fn:=fun _=>false
 pn:=[]
 xe:=fun e s'=>wpAny (model P w) (A.deeper (PySem.W.envX qual scope s.heap.objs.size g cd cl)) (leaving (PySem.W.envX qual scope s.heap.objs.size g cd cl) e) (fun _ s''=>CXE P w outer H s E e s'') (fun e' s''=>CXE P w outer H s E e' s'') s'
theorem pI {P:Program}{w:World}{K:PySem.W.Frag}{mg:Str→Option Value}{base:Heap}{N:List Str}{qual:Str}{scope:Scope}{g:Addr}{cd:Value}{cl:List (Str×Addr)}{A:Around}{outer:List Env}{s:Shared}{H:Hp}{E:XK} :
  gC (CXE P w) (xaH P w K mg base N qual scope g cd cl A outer s H E) E:=xgK rfl rfl rfl fun _ _ h=>h
structure xhu (base:Heap)(scope:Scope)(cl:List (Str×Addr))(N:List Str)(vs:List V):Prop where
 kind:scope.kind=.function
 co:scope.isCoroutine=false
 gen:scope.isGenerator=false
 nocell:∀x∈scope.names,x.2≠.cell
 has:∀x,scope.names.lookup x=some .free→∃c,cl.lookup x=some c
 inj:∀x y c,cl.lookup x=some c→cl.lookup y=some c→x=y
 cell:∀x c,cl.lookup x=some c→∃v,base.IsCell c v
 val:∀(i:Nat) (x:Str) (v:V),N[i]? = some x→vs[i]? = some v→scope.names.lookup x=some .free∧∃c u,cl.lookup x=some c∧RelV v u∧base.IsCell c (some u)
 len:vs.length=N.length
theorem xe4 {P:Program}{w:World}{K:PySem.W.Frag}{mg:Str→Option Value}{base:Heap}{N:List Str}{name qual:Str}{params:Arguments}{body:Expr}{scope:Scope}{g:Addr}{cdv ct pm oc:Value}{od:Option Addr}{sl:Array (Option Value)}{cl:List (Str×Addr)}{k:Nat}{A:Around}{outer:List Env}{s:Shared}{H:Hp}{E:XK}{vs:List V}{te:TE}
  (e0:xc7 P w K mg base A outer s H) (hr:kL (k+1) A) (hobj:base.get? g=some ⟨oc,od,.func (PySem.W.kla_fn name qual params body scope cl pm cdv ct),sl⟩) (hcd:s.heap.CodeRec cdv qual)
  (hpar:bindArgs (PySem.W.kla_fn name qual params body scope cl pm cdv ct) ⟨[],[]⟩=pure []) (L:xhu base scope cl N vs)
  (hb:PE (xaH P w K mg base N qual scope g cdv cl A outer s H E) body te) (hq:te (vs.map some) H fun _ _=>False) :
  codeAny (model P w) A (.call (.ref g) ⟨[],[]⟩) (CR (CXE P w) outer P w H s (fun _ _=>False) E) s:=by
 have bk:∀b o,base.get? b=some o→s.heap.get? b=some o:=fun b o e=>(e0.bs b o e).1
 have lim:s.heap.NoLimit:=e0.mod.nolimit.keeps bk
 refine PySem.W.kla_callFunE hr.depth (bk _ _ hobj) rfl L.co L.gen rfl hcd ?_
 rw[hpar]
 refine wpAny_pure (wpAny_newFunctionEnv L.nocell (fun x hx=>absurd hx (by simp)) (fun h₁ hns hsb=>⟨lim.fresh _ hsb,?_⟩) L.kind)
 show codeAny _ _ (.expr body (PySem.W.envX qual scope s.heap.objs.size g cdv cl)) _ _
 have hk:∀b o,s.heap.get? b=some o→h₁.get? b=some o:=fun b o e=>hsb.extBut b o (xlH (Heap.lt_size e)) (Heap.get?_push_of_some _ e)
 have noA:∀b:Addr,b∉(xaH P w K mg base N qual scope g cdv cl A outer s H E).ex:=fun b z=>absurd (show b∈([]:List Addr) from z) (by simp)
 have cellK:∀c v,base.IsCell c v→h₁.IsCell c v:=fun c v ⟨o,ho,hd⟩=>⟨o,hk _ _ (bk _ _ ho),hd⟩
 have I:Inv (xaH P w K mg base N qual scope g cdv cl A outer s H E) [] (vs.map some) H { s with heap:=h₁,toks:=s.toks+([]:List (Str×Value)).length }:=by
  refine⟨⟨e0.mod,L.kind,rfl,rfl,xlw _,L.inj,fun y hy=>?_,fun y c z _=>(nomatch z),fun _=>hr.hd,Around.frames_deeper e0.frames,.inr ⟨rfl,rfl⟩,fun b z=>absurd z (noA b),e0.bs,e0.bsz,fun b _ _=>noA b,fun b z=>absurd z (noA b),e0.funs,e0.frf⟩,
   rfl,e0.bare,Un.kept hk,⟨_,hns,fun i y v h1 h2 h3=>?_⟩,fun y c h=>?_,e0.hok.fresh (xlw _),fun y c h=>?_,fun p hp=>absurd (show p∈([]:List (Addr×Obj)) from hp) (by simp),e0.hok.kept hk,by rw[xkP];exact L.len⟩
  ·rcases hy with hy | hy
   ·exact absurd rfl (L.nocell _ (PySem.mem_of_lookup hy))
   ·exact L.has y hy
  ·have hv:vs[i]? = some v:=by
    rw[xkG] at h2
    cases e:vs[i]? with
    | none=>rw[e] at h2;cases h2
    | some a=>rw[e] at h2;cases h2;rfl
   obtain⟨k1,c,u,k2,k3,k4⟩:=L.val i y v h1 hv
   exact⟨u,k3,.inr ⟨.inr k1,c,k2,cellK c _ k4⟩⟩
  ·obtain⟨v,q⟩:=L.cell y c h
   exact⟨v,cellK c v q⟩
  ·obtain⟨v,o,ho,_⟩:=L.cell y c h
   exact(e0.bs c o ho).2
 refine PySem.W.kla_codeExpr (wpAny_mono (hb _ _ H _ I hq) (fun v s' hv=>?_) fun e s' he=>he)
 obtain⟨_,_,_,_,z⟩:=hv
 exact z.elim
end L2
namespace L2
open PySem PySem.Spec PySem.Calls PyProof.Rows
theorem xeF:∀(n:Nat),l.length≤n→TriplesOk l→TriplesOk m→TriplesOk (l++m):=by
 intro n
 induction n generalizing l with
 | zero =>
  intro hn hl hm
  cases l with
  | nil=>exact hm
  | cons=>simp at hn
 | succ n ih =>
  intro hn hl hm
  unfold TriplesOk at hl
  split at hl
  ·exact hm
  ·rename_i r
   show TriplesOk (_::_::_::(r++m))
   unfold TriplesOk
   exact ih (by simp at hn;omega) hl hm
  ·exact hl.elim
theorem xb4:∀(n:Nat) {l:List Value},l.length≤n→TriplesOk l→codeAmong pos (l++m)=some cv→codeAmong pos l=some cv∨codeAmong pos m=some cv:=by
 intro n
 induction n with
 | zero =>
  intro l hn hl h
  cases l with
  | nil=>exact .inr h
  | cons=>simp at hn
 | succ n ih =>
  intro l hn hl h
  unfold TriplesOk at hl
  split at hl
  ·exact .inr h
  ·rename_i a b c d e r
   have h:codeAmong pos (.int a b::.int c d::e::(r++m))=some cv:=h
   unfold codeAmong at h
   split at h
   ·rename_i q
    refine .inl ?_
    unfold codeAmong
    rw[if_pos q];exact h
   ·rename_i q
    rcases ih (by simp at hn;omega) hl h with z | z
    ·refine .inl ?_
     unfold codeAmong
     rw[if_neg q];exact z
    ·exact .inr z
  ·exact hl.elim
def xfc (H:Hp)(cdv:Value)(q:Str):Prop:=∃c oc vs t,cdv=.ref c∧H c=some (.frz oc (.own c))∧oc.data=.fields vs∧vs[1]? = some (.str q t)
theorem xfc.rec (x:xfc H cdv q)(ok:HOk P w H h):h.CodeRec cdv q:=by
 obtain⟨c,oc,vs,t,e1,e2,e3,e4⟩:=x
 exact⟨c,oc,vs,t,e1,(ok c _ e2).1,e3,e4⟩
abbrev oq (qual:Str)(params:Arguments)(body:Expr)(scope:Scope)(clos:List (Str×Addr))(pm cdv ct:Value):Obj:={ cls:=.type "function", data:=.func (PySem.W.kla_fn "<lambda>" qual params body scope clos pm cdv ct) }
section
variable {X:Cx} {pins:List (Addr×Obj)} {σ:St} {H:Hp} {s:Shared} {c P:Addr} {params:Arguments} {body:Expr} {scope:Scope} {pos:Pos} {clos:List (Str×Addr)} {E:Value→Shared→Prop} {Q:Value→Shared→Prop} {q:Str}
theorem xds (I:Inv X pins σ H s)(hq:X.env.qual ++ "<lambda>" = q)(hcode:X.env.code=.ref c)(C:PySem.W.CodeHd X.base c P)(hP:H P=some (.tb q))(hgP:mainGlobals≠P)(hb:X.base.BuiltinsAt X.mg P)(hdef:defaultsOf params X.env=([],[]))(hcl:closureFor scope X.env=pure clos)
  (k:∀g H1 s1 cdv ct pm,Inv X pins σ H1 s1→(∀a o,H a=some o→H1 a=some o)→s1.heap.get? g=some (oq q params body scope clos pm cdv ct)→H1 g=none→s.heap.objs.size≤g→xfc H1 cdv q →
   (∀c o v,s.heap.get? c=some o→o.data=.cell v→H c=none→s1.heap.get? c=some o)→Q (.ref g) s1) :
  wpAny (model X.prog X.w) X.A (eval (.Lambda params body scope pos) X.env) Q E s:=by
 obtain⟨ps,hps,htri,hcodes⟩:=(show wj X.prog X.w H s.heap P (.tb q) from I.hok P _ hP)
 have hg:s.heap.Ns mainGlobals X.mg:=I.ok.mod.glob.keeps I.bk
 have hbs:s.heap.BuiltinsAt X.mg P:=by
  obtain⟨bm,o,b1,b2,b3,b4,b5,b6⟩:=hb
  exact⟨bm,o,b1,b2,b3,b4,I.bk _ _ b5,b6⟩
 have CS:PySem.W.CodeHd s.heap c P:=C.keeps I.bk
 have LP:X.env.locals≠P:=fun z=>by rw[←z,I.free] at hP;cases hP
 refine PySem.W.kla_eval hdef ?_
 rw[hq]
 cases hf:codeAmong pos ps.toList with
 | none =>
  refine PySem.W.kla_makeFunction hcl I.ok.glob hg hcode CS hps htri hf hgP hbs fun c' ctv h' tk hx hge hlt hrec htb=>?_
  obtain⟨c2,oc,vs,t,e1,e2,e3,e4⟩:=hrec
  cases e1
  have Hc:H c'=none:=I.hok.fresh hge
  have hk2:∀b o,b≠P→s.heap.get? b=some o→(h'.push (oq q params body scope clos ((X.mg "__name__").getD .none) (.ref c') ctv)).get? b=some o:=fun b o n e=>Heap.get?_push_of_some _ (hx b o n e)
  have nP:∀b,H b=none→b≠P:=fun b n z=>by rw[z,hP] at n;cases n
  have ltb:∀b o,s.heap.get? b=some o→b≠c':=fun b o e=>xlH (xlB (Heap.lt_size e) hge)
  have ext:∀a o,H a=some o→upd H c' (.frz oc (.own c')) a=some o:=fun a o e=>by rw[xW (xF e Hc)];exact e
  have Hg:upd H c' (.frz oc (.own c')) h'.objs.size=none:=by
   rw[xW (xlG hlt)]
   exact I.hok.fresh (xly hge (xlv hlt))
  refine k h'.objs.size (upd H c' (.frz oc (.own c'))) _ (.ref c') ctv _ ?_ ext (Heap.get?_push_size _ rfl) Hg (xly hge (xlv hlt)) ⟨c',oc,vs,t,rfl,xZ,e3,e4⟩ (fun a o v e _ n=>hk2 a o (nP a n) e)
  refine I.step (g':=s.gens) (d':=s.drawn) (ch:=[]) (fun b z=>absurd z (by simp)) (fun b o _ _ _ e n=>hk2 b o (nP b n) e) (fun b o _ _ _ e n=>⟨o.slots,hk2 b o (nP b n) e⟩) (fun b o _ e n=>by rw[xW (ltb b o e)];exact n)
   (fun b o _ e=>?_) (fun b xs e=>ext _ _ e) (fun b o u e=>ext _ _ e) (fun b p e=>⟨#[],by rw[ext _ _ e];simp⟩) (fun m hm=>?_) (fun b u e=>?_) I.bare
  ·by_cases z:b=P
   ·exact⟨_,by rw[z];exact Heap.get?_push_of_some _ htb⟩
   ·exact⟨o,hk2 b o z e⟩
  ·obtain⟨o,es,ep,ho,r⟩:=hm
   exact⟨o,es,ep,hk2 _ o LP ho,r⟩
  ·by_cases zc:b=c'
   ·subst zc
    rw[xZ] at e;cases e
    exact⟨Heap.get?_push_of_some _ e2,_,Heap.get?_push_of_some _ e2⟩
   ·rw[xW zc] at e
    by_cases zP:b=P
    ·subst zP
     rw[hP] at e;cases e
     refine⟨_,Heap.get?_push_of_some _ htb,?_,fun pos' cv e'=>?_⟩
     ·rw[xjF]
      exact xeF _ (xlw _) htri (by unfold TriplesOk;unfold TriplesOk;trivial)
     ·rw[xjF] at e'
      rcases xb4 _ (xlw _) htri e' with z | z
      ·obtain⟨c3,o3,v3,t3,y1,y2,y3⟩:=hcodes pos' cv z
       exact⟨c3,o3,v3,t3,y1,ext _ _ y2,y3⟩
      ·have z:codeAmong pos' [rawInt pos.line,rawInt pos.col,.ref c']=some cv:=z
       unfold codeAmong rawInt at z
       dsimp only at z
       split at z
       ·cases z;exact⟨c',oc,vs,t,rfl,xZ,e3,e4⟩
       ·unfold codeAmong at z;cases z
    ·refine(I.hok b u e).stay (fun a v ha y=>hk2 a v ?_ y) (fun a y=>ext _ _ y) (fun a xs y=>ext _ _ y) fun a o u y=>ext _ _ y
     rcases ha with z | z
     ·rw[z];exact zP
     ·rintro rfl;rw[hP] at z;cases z
 | some cv =>
  refine PySem.W.kla_makeFunctionHit hcl I.ok.glob hg hcode CS hps htri hf hbs fun ctv h' tk hk hsz=>?_
  have hk2:∀b o,s.heap.get? b=some o→(h'.push (oq q params body scope clos ((X.mg "__name__").getD .none) cv ctv)).get? b=some o:=fun b o e=>Heap.get?_push_of_some _ (hk b o e)
  refine k h'.objs.size H _ cv ctv _ ?_ (fun _ _ e=>e) (Heap.get?_push_size _ rfl) (I.hok.fresh hsz) hsz (hcodes pos cv hf) (fun a o v e _ _=>hk2 a o e)
  exact I.step (g':=s.gens) (d':=s.drawn) (ch:=[]) (fun b z=>absurd z (by simp)) (fun b o _ _ _ e _=>hk2 b o e) (fun b o _ _ _ e _=>⟨o.slots,hk2 b o e⟩) (fun b o _ _ n=>n) (fun b o _ e=>⟨o,hk2 b o e⟩) (fun _ _ e=>e) (fun _ _ _ e=>e)
   (fun b p e=>⟨#[],by rw[e];simp⟩) (fun m hm=>hm.keeps hk2) (I.hok.kept hk2) I.bare
end
end L2
namespace L2
open PySem PySem.Spec PySem.Calls PyProof.Rows
def xa5 (h:Heap)(H:Hp)(fs:List Addr):Heap:=PySem.W.hideAll h (trk h H++fs)
theorem fw (e:h.get? b=some o)(n:H b=none)(nf:b∉fs):(xa5 h H fs).get? b=some o:=PySem.W.hideAll_get _ e (fun z=>by
 rcases xk2.mp z with z | z
 ·obtain⟨_,z⟩:=xk8.mp z
  rw[n] at z;cases z
 ·exact nf z)
theorem xdr (e:(xa5 h H fs).get? b=some o):h.get? b=some o∧H b=none:=by
 have e1:=PySem.W.of_hideAll _ e
 refine⟨e1,?_⟩
 cases q:H b with
 | none=>rfl
 | some u =>
  have:b∈trk h H++fs:=xk3 _ (xk8.mpr ⟨xlf.mpr (Heap.lt_size e1),by rw[q];rfl⟩)
  rw[xa5,PySem.W.hideAll_none _ this] at e;cases e
theorem Mod.keeps {K:PySem.W.Frag}{mg:Str→Option Value}{base base':Heap}(m:Mod K mg base)(k:∀b o,base.get? b=some o→base'.get? b=some o):Mod K mg base' :=
 ⟨m.kin.keeps k,m.glob.keeps k,let ⟨mb,h1,h2⟩:=m.blt;⟨mb,h1.keeps k,h2⟩,m.nolimit.keeps k⟩
section
variable {X:Cx} {pins:List (Addr×Obj)} {σ:St} {H:Hp} {s:Shared}
theorem Inv.nstk (I:Inv X pins σ H s)(e:X.base.get? b=some o):b∉frs X.stack:=fun z=>by
 rcases xk5.mp (I.stkSub b z) with z | z
 ·exact I.old (I.ok.bs b o e).1 z
 ·exact I.ok.nofr e z
theorem Inv.restE (I:Inv X pins σ H s):xc7 X.prog X.w X.K X.mg (xa5 s.heap H (frs X.stack)) X.A X.stack s H :=
 ⟨I.ok.frames,I.ok.mod.keeps fun b o e=>fw (I.bs b o e).1 (I.bs b o e).2 (I.nstk e),fun b o e=>xdr e,Nat.le_of_eq (PySem.W.hideAll_size _ _),PySem.W.funFrames_hide I.stack (fun env he a ha=>xk4 _ (xk9.mpr ⟨env,he,ha⟩)),I.stkFree,I.hok,I.bare⟩
def xd_ (XN:List Str)(xs ls:Scope)(N:List Str)(tau:List Nat)(cn:List Str):Bool :=
 N.length == tau.length&&((N.zip tau).all fun p=>XN[p.2]? == some p.1&&xs.names.lookup p.1 == some .cell&&ls.names.lookup p.1 == some .free&&cn.contains p.1)&&ls.names.all (fun p=>p.2 != .cell&&(p.2 != .free || cn.contains p.1)) &&
  ls.kind == .function&&!ls.isCoroutine&&!ls.isGenerator
def xhf (cells:List (Str×Addr)):List (Str×Addr)→Prop
 | []=>True
 | p::r=>cells.lookup p.1=some p.2∧xhf cells r
theorem xhf.get:∀ {cl:List (Str×Addr)} {x:Str} {c:Addr},xhf cells cl→cl.lookup x=some c→cells.lookup x=some c
 | [],_,_,_,e=>by cases e
 | (y,d)::r,x,c,h,e=>by
  rw[xkU] at e
  split at e
  ·rename_i q
   cases e
   rw[xlM.mp q];exact h.1
  ·exact xhf.get h.2 e
theorem qi {cl:List (Str×Addr)}{x:Str}(h:(cl.map (·.1)).contains x=true):∃c,cl.lookup x=some c:=by
 induction cl with
 | nil=>cases h
 | cons p r ih =>
  obtain⟨y,d⟩:=p
  rw[xkU]
  split
  ·exact⟨d,rfl⟩
  ·rename_i q
   refine ih ?_
   rw[xkX,List.contains_cons] at h
   have q':(x == y)=false:=by simpa using q
   rw[q',Bool.false_or] at h
   exact h
def ny (P:Program)(w:World)(K:PySem.W.Frag)(mg:Str→Option Value)(base:Heap)(k:Nat)(g C:Addr)(H:Hp)(KX:Hp→Prop):Prop :=
 ∀A outer s,kL k A→xc7 P w K mg base A outer s H→codeAny (model P w) A (.call (.ref g) ⟨[],[]⟩) (CR (CXE P w) outer P w H s (fun _ _=>False) fun c _ H'=>c=.ref C∧KX H') s
def xdi (P:Program)(w:World)(K:PySem.W.Frag)(mg:Str→Option Value)(base:Heap)(k:Nat)(C:Addr)(j:Int):Sp:=fun vs H Q _=>∃g KX,vs=[.ref g]∧PySem.W.FnAt g base∧ny P w K mg base k g C H KX ∧
 ∀H' H2 a,KX H'→(∀b o,H' b=some o→H2 b=some o)→H' a=none→H2 a=some (.lst [.int j])→Q (.ref a) H2
def xia (P:Addr)(q:Str)(tau:List Nat)(te:XK→TE)(C:Addr)(j:Int):TE:=fun σ H Q=>H P=some (.tb q)∧∃vs:List V,vs.length=tau.length∧(∀(i t:Nat) (v:V),tau[i]? = some t→vs[i]? = some v→σ[t]? = some (some v)) ∧
 ∀H1,(∀a o,H a=some o→H1 a=some o)→∃KX:Hp→Prop,(∀E:XK,(∀H',KX H'→E (.ref C) none H')→te E (vs.map some) H1 fun _ _=>False) ∧
  ∀H' H2 a,KX H'→(∀b o,H' b=some o→H2 b=some o)→H' a=none→H2 a=some (.lst [.int j])→Q (.ref a) H2
theorem sH {k kl jx:Nat}{c P C:Addr}{j:Int}{N cn:List Str}{tau:List Nat}{q x:Str}{params:Arguments}{body:Expr}{scope:Scope}{lp np cp:Pos}{clos:List (Str×Addr)}{te:XK→TE}
  (o:∀base,Mod X.K X.mg base→Own X.prog X.w X.K X.mg base jx x ["_law_call"] (xdi X.prog X.w X.K X.mg base kl C j)) (hr:kL k X.A)
  (hb:∀base g cdv cl A outer s H E,Mod X.K X.mg base→kL (kl-1) (A.deeper (PySem.W.envX q scope s.heap.objs.size g cdv cl))→PE (xaH X.prog X.w X.K X.mg base N q scope g cdv cl A outer s H E) body (te E))
  (hq:X.env.qual ++ "<lambda>" = q) (hcode:X.env.code=.ref c) (C0:PySem.W.CodeHd X.base c P) (hgP:mainGlobals≠P) (hbl:X.base.BuiltinsAt X.mg P) (hdef:defaultsOf params X.env=([],[])) (hcl:closureFor scope X.env=pure clos)
  (hcn:clos.map (·.1)=cn) (hchk:xd_ X.N X.env.scope scope N tau cn=true) (hac:xhf X.env.cells clos) (hfn:∀y,X.fn y=true)
  (hpar:∀pm cdv ct,bindArgs (PySem.W.kla_fn "<lambda>" q params body scope clos pm cdv ct) ⟨[],[]⟩=pure []) (hjk:jx≤k) (hk1:1≤kl) (hg:Gl X x) (hdb:(x == ("__debug__" : Str))=false)
  (he:starEach [.Lambda params body scope lp] X.env=[(false,eval (.Lambda params body scope lp) X.env)]) :
  PE X (.Call (.Name x np) [.Lambda params body scope lp] [] cp) (xia P q tau te C j):=by
 intro pins s σ H Q I h
 obtain⟨hP,vs,hvl,hvs,hh⟩:=h
 simp only[xd_,xjH,xlM,xki,xjK,xjL,bne_iff_ne,ne_eq] at hchk
 obtain⟨⟨⟨⟨⟨c1,c2⟩,c3⟩,c4⟩,c5⟩,c6⟩:=hchk
 obtain⟨fr,fdr,_,_,kpr,mr⟩:=(o X.base I.ok.mod).ex
 refine wpAny_Call_Name_kw (hZ I hg mr ?_ hdb)
 refine PySem.W.callWith_K (h₀:=X.base) I.ok.mod.kin kpr ?_ he rfl
 rw[he]
 refine Calls.spliced_cons (xds (q:=q) (clos:=clos) I hq hcode C0 hP hgP hbl hdef hcl fun g H1 s1 cdv ct pm I1 ext hgo hg0 hgs hck hcells=>?_)
 refine Calls.spliced_nil ⟨I1.kIn,?_⟩
 obtain⟨KX,hE,hQ⟩:=hh H1 ext
 let B:=xa5 s1.heap H1 (frs X.stack)
 have e0:xc7 X.prog X.w X.K X.mg B X.A X.stack s1 H1:=I1.restE
 obtain⟨f,fd,F,b,kp,m⟩:=((o B e0.mod).mono hjk).ex
 have ef:f=fr:=by rw[mr] at m;cases m;rfl
 subst ef
 have gns:g∉frs X.stack:=fun z=>by
  rcases xk5.mp (I.stkSub g z) with z | z
  ·have:=I.lt;rw[←z] at this;exact absurd (xlB this hgs) (xlz _)
  ·exact I.nofs hgs z
 have gB:B.get? g=some (oq q params body scope clos pm cdv ct):=fw hgo hg0 gns
 have cellB:∀y c',X.env.cells.lookup y=some c'→∀v,s1.heap.IsCell c' v→B.IsCell c' v:=fun y c' e v ⟨o',ho,hd⟩=>by
  refine⟨o',fw ho (I1.freeC y c' e) fun z=>?_,hd⟩
  rcases xk5.mp (I1.stkSub c' z) with z | z
  ·exact I1.cne y c' e z
  ·obtain⟨_,o2,ho2,_⟩:=I1.ok.funs.mem z
   exact absurd (xlB (Heap.lt_size ho2) (I1.ok.cab y c' (hfn y) e)) (xlz _)
 have L:xhu B scope clos N vs:=by
  refine⟨c4,c5,c6,fun y hy=>(c3 y hy).1,fun y hy=>?_,fun y z c' h1 h2=>I.ok.inj y z c' (hac.get h1) (hac.get h2),fun y c' e=>?_,fun i y v h1 h2=>?_,by rw[hvl,c1]⟩
  ·have:=(c3 _ (PySem.mem_of_lookup hy)).2
   rcases this with z | z
   ·exact absurd rfl z
   ·rw[←hcn] at z;exact qi z
  ·obtain⟨v,q'⟩:=I1.cell y c' (hac.get e)
   exact⟨v,cellB y c' (hac.get e) v q'⟩
  ·have il:i<tau.length:=by rw[←hvl];exact(xkF.mp h2).1
   have ht:tau[i]? = some tau[i]:=xkD il
   have hz:(y,tau[i])∈N.zip tau:=by
    refine xlc (i:=i) ?_
    rw[List.getElem?_zip_eq_some]
    exact⟨h1,ht⟩
   obtain⟨⟨⟨k1,k2⟩,k3⟩,k4⟩:=c2 _ hz
   obtain⟨m,_,hl⟩:=I1.loc
   obtain⟨u,r,l⟩:=hl tau[i] y v k1 (hvs i _ v ht h2) (.inr (.inl k2))
   rw[←hcn] at k4
   obtain⟨c',hc'⟩:=qi k4
   refine⟨k3,c',u,hc',r,?_⟩
   rcases l with ⟨z,_⟩ | ⟨_,c2',z1,z2⟩
   ·rw[show X.env.kindOf y=some .cell from k2] at z;cases z
   ·have:=hac.get hc'
    rw[z1] at this;cases this
    exact cellB y _ z1 _ z2
 have lr:ny X.prog X.w X.K X.mg B kl g C H1 KX:=fun A outer s2 hr2 e2=>by
  obtain⟨k0,rfl⟩:∃k0,kl=k0+1:=⟨kl-1,by omega⟩
  exact xe4 (E:=fun c _ H'=>c=.ref C∧KX H') e2 hr2 gB (hck.rec e2.hok) (hpar _ _ _) L (hb B g cdv clos A outer s2 H1 _ e2.mod (hr2.deeper _)) (hE _ fun H' q=>⟨rfl,q⟩)
 have sp:xdi X.prog X.w X.K X.mg B kl C j [.ref g] H1 Q E0:=⟨g,KX,rfl,⟨_,_,_,_,gB⟩,lr,hQ⟩
 refine wpAny_call (codeAny_mono (F.run X.A X.stack s1 H1 ⟨[.ref g],[]⟩ [.ref g] [.ref g] Q E0 hr e0 ?_ (.cons rfl .nil) sp) fun r s' hq=>?_)
 ·exact b s1 [.ref g] I1.kIn rfl
 ·cases r with
  | error e=>exact False.elim hq
  | ok fl =>
   cases fl with
   | ret u=>exact I1.after hq
   | next=>exact False.elim hq
   | brk=>exact False.elim hq
   | cont=>exact False.elim hq
end
end L2
namespace L2
open PySem PySem.Spec PyProof.Rows
def spX (n:Nat)(C:Addr)(R:List Tr→Prop):Sp:=fun vs H _ E=>∃(F S:Addr→Prop) (ts:List Tr) (us:List V),vs=us∧(∀a,F a→H a≠none)∧(∀a,S a→F a)∧(∀a,S a→nZ a H)∧zM F H ts us∧ts.length=n∧R ts ∧
 ∀H',(∀a o,H a=some o→¬S a→H' a=some o)→(∀a,S a→nZ a H')→E (.ref C) none H'
section
variable {K:PySem.W.Frag} {B:FB} {φ:Phi} {σ:St} {τ:TSt} {H H' H'':Hp} {EX:Hp→Prop}
def RXE (K:PySem.W.Frag)(B:FB)(te:TE)(D:TSt→Prop):Prop:=∀ φ σ τ H Q,RS K B φ σ τ H→D τ→te σ H Q
def RXA (K:PySem.W.Frag)(B:FB)(ta:TA)(D:TSt→Prop):Prop:=∀ φ σ τ H Q,RS K B φ σ τ H→D τ→ta σ H Q
def RXS (K:PySem.W.Frag)(B:FB)(T:TS)(D:TSt→Prop):Prop:=∀ φ σ τ H E,RS K B φ σ τ H→D τ→T E σ H
theorem pE.on (R:RS K B φ σ τ H)(k:∀a o,H a=some o→¬SA B φ τ a→H' a=some o)(st:∀a,SA B φ τ a→nZ a H'):pE B H':=(R.hx ⟨k,st⟩).extB
theorem xe6 (hE:∀H',pE B H'→E (.ref C) none H')(ha:OkA K b n ta da):RXE K B (xcT (spX n C R) E ta) (fun τ=>da τ R):=fun φ σ τ H Q R' hd =>
 ha B φ σ τ H _ _ R' hd fun ts vs H1 x1 k1 l1 r1=>⟨AvB b B φ τ,SA B φ τ,ts,vs,rfl,fun a z=>(R'.hx x1).domB z,fun a z=>R'.sB z,x1.st,r1,l1,k1,fun H2 k st=>hE _ (pE.on (R'.hx x1) k st)⟩
theorem xcU (h:RXE K B te D):RXA K B (uo te ta) D:=fun φ σ τ H Q R hd=>h φ σ τ H _ R hd
theorem xgS (h:RXE K B te D):RXS K B (xcj te g) D:=fun φ σ τ H E R hd=>h φ σ τ H _ R hd
theorem xhw (h:RXE K B te D):RXS K B (xgR te) D:=fun φ σ τ H E R hd=>h φ σ τ H _ R hd
theorem rT (hE:∀H',pE B H'→E (.ref C) none H')(ha:OkA K true n ta da)(hn:n≤100:=by decide):RXS K B (xdL E C ta) (fun τ=>da τ fun _=>True):=fun φ σ τ H G R hd =>
 ha B φ σ τ H _ _ R hd fun ts vs H1 x1 k1 l1 r1=>⟨by rw[←r1.len,l1];exact xly hn (by decide),hE _ (R.hx x1).extB⟩
theorem mS (h1:OkS K fr T1 D1)(h2:RXS K B T2 D2):RXS K B (xfX T1 T2) (fun τ=>D1 { nx:=D2,rt:=fun _=>False } τ):=fun φ σ τ H E R hd =>
 h1 B φ σ τ H _ _ R hd ⟨fun φ' σ' τ' H' R' k=>h2 φ' σ' τ' H' _ R' k,fun _ _ _ _ _ z=>z.elim,fun _ _ _ _ _ z=>z.elim,fun _ _ _ _ _ z=>z.elim⟩
theorem oD (h:RXS K B T1 D):RXS K B (xfX T1 T2) D:=fun φ σ τ H E R hd=>h φ σ τ H _ R hd
theorem xfb (hc:OkT K tc dc)(h1:RXS K B T1 D1)(h2:RXS K B T2 D2):RXS K B (xik tc T1 T2) (fun τ=>dc τ fun b=>if b=true then D1 τ else D2 τ):=fun φ σ τ H E R hd =>
 hc B φ σ τ H _ _ R hd fun b H1 x1 k=>by
  cases b with
  | true=>exact lV (h1 φ σ τ H1 _ (R.hx x1) (by simpa using k))
  | false=>exact bV (h2 φ σ τ H1 _ (R.hx x1) (by simpa using k))
theorem rW:RXS K B oM (fun _=>False):=fun _ _ _ _ _ _ h=>h.elim
def dOb (j:Nat)(ea:Addr)(b:Bool):DE:=fun τ KK=>nth τ j=.ob ea∧KK (.bl b)
theorem qZ:OkE K true (tCB (xhC ea c b) (uo (sZ j) (uo (tC c) bW))) (dOb j ea b):=fun B φ σ τ H Q KK R hd q=>by
 obtain⟨h1,h2⟩:=hd
 have en:=R.ent j
 rw[h1] at en
 exact⟨.ref ea,en,rfl,q _ _ H (HX.refl R) h2 rfl⟩
def bnd:TV→Bool
 | .fz _=>true
 | .st=>true
 | _=>false
def xgC (i:Nat)(tau:List Nat)(da:DA)(R:List Tr→Prop)(j:Int):DE:=fun τ KK=>(∃ns,nth τ i=.sc ns)∧(tau.all fun t=>bnd (nth τ t))=true∧da (j6 (tau.map some) τ) R∧KK (.lst [.int j])
theorem xfI (R:RS K B φ σ τ H)(h:bnd (nth τ t)=true):∃v,σ[t]? = some (some v):=by
 have en:=R.ent t
 cases e:nth τ t with
 | fz u=>rw[e] at en;obtain⟨v,h1,_⟩:=en;exact⟨v,h1⟩
 | st=>rw[e] at en;obtain⟨p,h1,_⟩:=en;exact⟨_,h1⟩
 | _=>rw[e] at h;cases h
theorem mh (ht:xfR K=some (P,q))(ha:OkA K b n ta da) :
  OkF K (xia P q tau (fun E=>xcT (spX n C R) E ta) C j) (xgC ix tau da R j):=fun B φ σ τ H Q KK R' hd qq=>by
 obtain⟨⟨ns,h0⟩,hb,hda,hk⟩:=hd
 have en:=R'.ent ix
 rw[h0] at en
 obtain⟨_,_,_,_,tb⟩:=en
 have all:∀t∈tau,∃v,σ[t]? = some (some v):=fun t h=>xfI R' (xki.mp hb t h)
 refine⟨tb P q ht,tau.map fun t=>((σ[t]?).getD none).getD .non,by rw[xkP],fun i t v e1 e2=>?_,fun H1 ext=>?_⟩
 ·rw[xkG,e1] at e2
  obtain⟨v',e3⟩:=all t (xlc e1)
  simp only[Option.map_some,e3,xlK] at e2;cases e2
  exact e3
 have x01:HX B φ τ H H1:=⟨fun a o e _=>ext a o e,fun a s=>by
  obtain⟨m,c,e,z⟩:=R'.sst a s
  exact⟨m,c,ext _ _ e,z⟩⟩
 have R1:=R'.hx x01
 have RI:=R1.inner (tau:=tau.map some)
 have es:g_ (tau.map some) σ=(tau.map fun t=>((σ[t]?).getD none).getD .non).map some:=by
  unfold g_
  rw[xkZ,xkZ]
  refine xkW fun t ht'=>?_
  obtain⟨v,e⟩:=all t ht'
  simp only[Function.comp,e,xlK]
 rw[es] at RI
 have hsa:∀a,SA (B.inner φ τ H1) (si (tau.map some) φ τ) (j6 (tau.map some) τ) a→SA B φ τ a:=fun a z=>by
  rcases z with z | ⟨i,z,hj⟩
  ·exact z
  ·have en:=RI.ent i
   rw[hj] at en
   obtain⟨p,e1,e2,e3⟩:=en
   rw[z] at e2;cases e2
   rcases e3 with e3 | e3
   ·exact e3
   ·exact absurd e3 (RI.sst a (.inr ⟨i,z,hj⟩)).ne_none
 refine⟨fun H'=>(∀a o,H1 a=some o→¬SA B φ τ a→H' a=some o)∧∀a,SA B φ τ a→nZ a H',fun E hE=>?_,fun H' H2 a hkx e1 e2 e3=>?_⟩
 ·refine xe6 (B:=B.inner φ τ H1) (E:=E) (C:=C) (fun H' x=>hE H' ⟨fun a o e n=>x.ext a o e n,fun a s=>x.st a s⟩) ha _ _ _ H1 _ RI hda
 ·have x02:HX B φ τ H H2:=⟨fun a o e n=>e1 a o (hkx.1 a o (ext a o e) n),fun a s=>by
   obtain⟨m,c,e,z⟩:=hkx.2 a s
   exact⟨m,c,e1 _ _ e,z⟩⟩
  refine qq [.int j] a [.int j] H2 x02 hk ?_ e3 ⟨.int j,[],rfl,rfl,rfl⟩
  cases e:H a with
  | none=>rfl
  | some o =>
   by_cases s:SA B φ τ a
   ·exact absurd e2 (hkx.2 a s).ne_none
   ·rw[hkx.1 a o (ext a o e) s] at e2;cases e2
def xjh (tau:List Nat)(da:DA)(R:List Tr→Prop)(j:Int):DE:=xgC 0 tau da R j
theorem fJ (ht:xfR K=some (P,q))(ha:OkA K b n ta da):OkF K (xia P q tau (fun E=>xcT (spX n C R) E ta) C j) (xjh tau da R j):=mh ht ha
end
section
variable {P:Program} {w:World} {K:PySem.W.Frag} {mg:Str→Option Value} {base:Heap} {k n:Nat} {x qual:Str} {st:Stmt} {f:Addr} {fd:FuncData} {N ps:List Str} {C:Addr} {R:List Tr→Prop}
theorem nq (F:Fun K x qual st f fd)(S:xC N ps (xf st))(mgx:mg x=some (.ref f))(b:Binds K fd ps [])(hn:ps.length=n)
  (body:∀(cdv:Value) (A:Around) (outer:List Env) (s:Shared) (H:Hp) (E:XK),kL k (A.deeper (envOfC qual (xf st) s.heap.objs.size f cdv)) →
   ∃T,PSs (gU (CXE P w) P w K mg base N qual (xf st) f cdv A outer s H E) (yZ st) T∧∀B:FB,(∀H',pE B H'→E (.ref C) none H')→∃D,RXS K B T D∧∀ts,ts.length=n→R ts→D (startT N false ts)) :
  oH P w K mg base (k+1) x ps (spX n C R):=by
 have hpl:ps.length≤N.length:=by have:=xlN List.length S.pre;rw[xkT] at this;omega
 refine xaT F S mgx b (fun vs H Q E h=>?_) (fun cdv A outer s H vs Q E hr h=>?_)
 ·obtain⟨F',S',ts,us,e,_,_,_,r,l,_⟩:=h
  subst e
  rw[←r.len,l,hn]
 ·obtain⟨F',S',ts,us,e,hF,hS,hst,r,l,hR,q⟩:=h
  subst e
  obtain⟨T,ht,h⟩:=body cdv A outer s H E hr
  obtain⟨D,hd,hD⟩:=h ⟨F',S',H,[]⟩ fun H' x=>q H' x.ext x.st
  exact⟨T,ht,hd _ _ _ H _ (fW hF hS hst r (by omega)) (hD ts l hR)⟩
end
section
variable {K:PySem.W.Frag}
theorem tu:bootBuiltins "ValueError" = some (.type "ValueError"):=by decide +kernel
theorem xho (hd:OkS K true T D)(h:D { nx:=fun _=>False,rt:=fun t=>t=.lst [.int j] } [.un,.ob ea,.un,.un])
  (q:∀H2 a,(∀b o,H b=some o→H2 b=some o)→H a=none→H2 a=some (.lst [.int j])→Q (.ref a) H2):T { nx:=fun _ H'=>Q .non H',rt:=Q } [some g,some (.ref ea),none,none] H:=by
 refine hd ⟨fun _=>False,fun _=>False,H,[]⟩ (fun _=>none) _ _ H _ _ ⟨fun _ z=>z.elim,fun _ z=>z.elim,fun a o e _=>e,fun a z=>?_,fun i j a ts _ z=>(nomatch z),fun i a z=>(nomatch z),rfl,fun i=>?_,fun p z=>absurd z (by simp)⟩ h ⟨fun _ _ _ _ _ z=>z.elim,fun _ _ _ _ _ z=>z.elim,fun _ _ _ _ _ z=>z.elim,fun t v H2 r x e fl=>?_⟩
 ·rcases z with z | ⟨i,z,_⟩
  ·exact z.elim
  ·cases z
 ·match i with
  | 0=>trivial
  | 1=>rfl
  | 2=>trivial
  | 3=>trivial
  | n+4=>trivial
 ·obtain⟨a,ts,ws,rfl,rfl,h1,h2,h3⟩:=fl rfl
  cases e
  obtain⟨v,vs,rfl,e1,e2⟩:=h3
  cases e1;cases e2
  exact q H2 a (fun b o e=>x.ext b o e fun z=>z) h1 h2
end
section
variable {X:Cx} {ea C D:Addr}
theorem zO (hp:(ea,oe)∈X.pn)(hc:oe.cls=.ref C)(Z:lA X.K C)(e:PySem.W.kitOne X.K (.ref C) (.ref D)=some b):uk X (.builtin "isinstance") (xhC ea (.ref D) b) :=
 pq hp hc Z fun u r=>by cases (show u=Value.ref D from r);exact e
theorem xbQ (hp:(ea,oe)∈X.pn)(hc:oe.cls=.ref C)(Z:lA X.K C)(e:PySem.W.kitOne X.K (.ref C) (.type n)=some b):uk X (.builtin "isinstance") (xhC ea (.ty n) b) :=
 pq hp hc Z fun u r=>by cases (show u=Value.type n from r);exact e
end
end L2
namespace L2
open PySem PySem.Spec PyProof.Rows
theorem o6 {K:PySem.W.Frag}{h:Heap}{mg:Str→Option Value}{x:Str}{C:Addr}{bm:List Value}{newId:String}(X:K.In h)(e:mg x=some (.ref C))(q:PySem.W.excIn K C bm newId=true):OwnCls x C bm newId mg h:=by
 refine⟨e,?_⟩
 unfold PySem.W.excIn at q
 split at q
 case h_2=>cases q
 rename_i dd cd sl ho
 split at q
 case h_2=>cases q
 rename_i C' tl k0 k1 k2 k3 n k5 hm hs
 simp only[xjH,xlM,xjK] at q
 obtain⟨⟨⟨⟨⟨e1,e2⟩,hdel⟩,ht⟩,hok⟩,hni⟩:=q
 subst e1 e2
 have get:=X _ _ ho
 obtain⟨nm,bs,mro,ns,qn,hd,sn,sub,ab,col,del⟩:=cd
 obtain⟨sl⟩:=sl
 dsimp only at hm hdel hok hni hs
 subst hm hdel hs
 exact⟨tl,ns,nm,qn,bs,hd,sn,sub,ab,col,dd,k0,k1,k2,k3,k5,_,get,.of_isNs (PySem.W.isNs_of_in X hok),PySem.W.nsMap_none_of_in X hok hni,PySem.W.tail_of_in X ht⟩
theorem t_ {K:PySem.W.Frag}{h:Heap}{mg:Str→Option Value}{x:Str}{C:Addr}{bm:List Value}{newId:String}(M:Mod K mg h)(e:mg x=some (.ref C))(q:PySem.W.excIn K C bm newId=true):OwnCls x C bm newId mg h:=o6 M.kin e q
abbrev xil:List Value:=[.type "ValueError", .type "Exception", .type "BaseException", .type "object"]
def fY (K:PySem.W.Frag):Sp:=fun vs H Q _=>∃(a:Addr) (ns:List Int),vs=[.ref a]∧(xgF H∧xfU K H)∧SqL K H a (ns.map V.int)∧ns.length≤63∧∀H',(∀b o,H b=some o→H' b=some o)→Q (.bl true) H'
section
variable {P:Program} {w:World} {K:PySem.W.Frag} {mg:Str→Option Value} {base:Heap} {k:Nat} {x qual:Str} {st:Stmt} {f:Addr} {fd:FuncData} {N ps:List Str}
theorem xaE (F:Fun K x qual st f fd)(hfd:fd.code=.ref c)(S:xC N ps (xf st))(hn:ps.length=1)
  (body:∀(A:Around) (outer:List Env) (s:Shared) (H:Hp) (E:XK),kL k (A.deeper (envOfC qual (xf st) s.heap.objs.size f (.ref c))) →
   ∃T D,PSs (gU CX0 P w K mg base N qual (xf st) f (.ref c) A outer s H E).nox (yZ st) T∧OkS K false T D∧∀ns:List Int,ns.length≤63→D { nx:=fun _=>False,rt:=fun t=>t=.bl true } (.sc ns::List.replicate (N.length-1) .un)) :
  sY P w K mg base CX0 (k+1) f fd ps (fY K):=by
 have hpl:ps.length≤N.length:=by have:=xlN List.length S.pre;rw[xkT] at this;omega
 obtain⟨oc,od,kV,doc,pm,an,cdv,ct,osl,rfl,lk,hcd⟩:=F.ex
 cases (show cdv=.ref c from hfd)
 refine xeE lk hcd S (fun vs H Q E h=>?_) fun A outer s H vs Q E hr h=>?_
 ·obtain⟨a,ns,rfl,_⟩:=h
  exact hn.symm
 ·obtain⟨a,ns,rfl,⟨hO,hT⟩,hS,hl,q⟩:=h
  obtain⟨T,D,ht,hd,h⟩:=body A outer s H E hr
  have so:xcL K H a ns:=by
   refine⟨?_,hT⟩
   rcases hS with (z | ⟨o,z⟩) | z
   ·exfalso
    rcases hO a with (y | ⟨o,xs,y⟩) | ⟨_,y⟩
    ·rw[y] at z;cases z
    ·rw[y] at z;cases z
    ·rw[y] at z;cases z
   ·exact .inl ⟨o,z⟩
   ·exact .inr fun _=>.inr z
  have R:RS K ⟨fun _=>False,fun _=>False,H,[]⟩ (fun _=>none) (start N [.ref a]) (.sc ns::List.replicate (N.length-1) .un) H:=by
   refine⟨fun _ z=>z.elim,fun _ z=>z,fun _ _ e _=>e,fun a s=>?_,fun i j a us _ e=>(by cases e),fun i a e=>(by cases e),?_,fun i=>?_,fun p hp=>absurd hp (by simp)⟩
   ·rcases s with s | ⟨i,s,_⟩
    ·exact s.elim
    ·cases s
   ·rw[fx (by simp;omega)]
    simp;omega
   ·cases i with
    | zero=>exact⟨a,jW rfl,hl,so⟩
    | succ i =>
     show Ent K _ _ H (i+1) _ (nth (List.replicate (N.length-1) .un) i)
     rcases j8 (ts:=[]) (n:=N.length-1) (i:=i) rfl with e | ⟨t,h,e⟩
     ·rw[xk0,xlh] at e
      rw[e];trivial
     ·simp at h
  refine⟨T,ht.nox,hd _ _ _ _ H _ _ R (h ns hl) ⟨fun _ _ _ _ _ z=>z.elim,fun _ _ _ _ _ z=>z.elim,fun _ _ _ _ _ z=>z.elim,fun t v H1 r1 x k fl=>?_⟩⟩
  cases (show t=.bl true from k)
  cases (show v=.bl true from r1)
  exact q H1 fun b o e=>x.ext b o e fun z=>z
end
theorem xat {P:Program}{w:World}{K:PySem.W.Frag}{mg mb:Str→Option Value}{k:Nat}{fa a T:Addr}{q:Str}{fd:FuncData}{x:Str}{s₁:Shared}{vs:List Value}{ns:List Int}
  (KX:K.In s₁.heap) (hns:s₁.heap.Ns mainGlobals mg) (hb:s₁.heap.Ns builtinsNs mb) (hbb:∀x:Str,x ≠ "__name__" → mb x=bootBuiltins x) (hlim:s₁.heap.NoLimit) (hg:s₁.gens = #[])
  (ha:s₁.heap.get? a=some { cls:=.type "list", data:=.seq vs.toArray }) (hi:IntsAre vs ns) (hl:ns.length≤63) (hr:kL k callerA)
  (hT:xfR K=some (T,q)) (hT0:s₁.heap.get? T=some { cls:=.none,data:=.fields #[] }) (hTK:K.lookup T=none) (hTC:isCodeTable s₁.heap T)
  (F:∀base:Heap,Mod K mg base→sY P w K mg base CX0 k fa fd [x] (fY K)) (hbind:∀(s:Shared) (u:Value),BindsTo s fd ⟨[u],[]⟩ [(x,u)]) :
  codeAny (model P w) callerA (.call (.ref fa) ⟨[.ref a],[]⟩) (fun r s'=>r=.ok (.ret (.bool true))∧OldK s₁.heap s'.heap∧s'.os=s₁.os∧AllBare s'.gens) s₁:=by
 have rv:=fG hi
 have lenV:=hi.length
 have hl2:ns.length≤sizeLine:=xly hl (by decide)
 have aT:a≠T:=fun z=>by subst z;rw[ha] at hT0;cases hT0
 have core:∀H:Hp,xgF H→SqL K H a (ns.map V.int)→HOk P w H s₁.heap→(∀b,H b≠none→b=a∨b=T)→H T=some (.tb q)→(H a≠none→K.lookup a=none) →
   codeAny (model P w) callerA (.call (.ref fa) ⟨[.ref a],[]⟩) (fun r s'=>r=.ok (.ret (.bool true))∧OldK s₁.heap s'.heap∧s'.os=s₁.os∧AllBare s'.gens) s₁:=by
  intro H hO hS hok hA hHT hK
  have base_of:∀ {b:Addr} {o:Obj},s₁.heap.get? b=some o→H b=none→(pj s₁.heap H).get? b=some o:=fun e n=>pR e n
  have noA:∀ {b:Addr} {o:Obj} {es:Array DictEntry} {ep:Nat},s₁.heap.get? b=some o→o.data=.dict es ep→H b=none:=fun {b o es ep} e d=>by
   cases q:H b with
   | none=>rfl
   | some u =>
    rcases hA b (by rw[q];simp) with e' | e'
    ·subst e'
     rw[ha] at e;cases e
     cases (show Data.seq vs.toArray _=Data.dict es ep from d)
    ·subst e'
     rw[hT0] at e;cases e
     cases (show Data.fields #[]=Data.dict es ep from d)
  have nsK:∀ {b:Addr} {m:Str→Option Value},s₁.heap.Ns b m→(pj s₁.heap H).Ns b m:=fun {b m} ⟨o,es,ep,e,d,r⟩=>⟨o,es,ep,base_of e (noA e d),d,r⟩
  have hKb:K.In (pj s₁.heap H):=fun b o e=>base_of (KX b o e) (by
   cases q:H b with
   | none=>rfl
   | some u =>
    rcases hA b (by rw[q];simp) with e' | e'
    ·subst e'
     rw[hK (by rw[q];simp)] at e;cases e
    ·subst e'
     rw[hTK] at e;cases e)
  have hM:Mod K mg (pj s₁.heap H):=⟨hKb,nsK hns,⟨mb,nsK hb,hbb⟩,let ⟨mc,h1,h2⟩:=hlim;⟨mc,nsK h1,h2⟩⟩
  have e0:xc7 P w K mg (pj s₁.heap H) callerA [] s₁ H:=⟨rfl,hM,fun b o e=>lW e,Nat.le_of_eq (tY _ _),trivial,fun b hb=>absurd (show b∈([]:List Addr) from hb) (by simp),hok,.of_eq hg⟩
  have tab:xfU K H:=fun T' q' e=>by rw[hT] at e;cases e;exact hHT
  have sp:fY K [.ref a] H (fun v H'=>v=.bl true∧∀b o,H b=some o→H' b=some o) (fun _ _ _=>False):=⟨a,ns,rfl,⟨hO,tab⟩,hS,hl,fun H' k=>⟨rfl,k⟩⟩
  refine codeAny_mono ((F _ hM).run callerA [] s₁ H ⟨[.ref a],[]⟩ [.ref a] [.ref a] _ _ hr e0 (hbind s₁ (.ref a)) (.cons rfl .nil) sp) fun r s' h=>?_
  cases r with
  | error e=>exact False.elim h
  | ok fl =>
   cases fl with
   | next=>exact False.elim h
   | brk=>exact False.elim h
   | cont=>exact False.elim h
   | ret u =>
    obtain⟨v,H',os,bare,un,hok',r',qv,qk⟩:=h
    subst qv
    obtain rfl:u=Value.bool true:=r'
    refine⟨rfl,⟨fun b o e=>?_,fun b o e=>un.there b o e (by simp)⟩,os,bare⟩
    cases q:H b with
    | none=>exact .inl (un.keep b o e q (by intro z;exact absurd (show b∈([]:List Addr) from z) (by simp)) (by simp))
    | some u =>
     rcases hO b with (z | ⟨ob,xs,z⟩) | ⟨q',z⟩
     ·rw[q] at z;cases z
     ·have z2:=un.frzs b ob _ z
      obtain⟨e1,_⟩:=hok b _ z
      obtain⟨e2,_⟩:=hok' b _ z2
      rw[e] at e1;cases e1
      exact .inl e2
     ·have ebT:b=T:=by
       rcases hA b (by rw[q];simp) with y | y
       ·subst y
        obtain⟨ps,e1,_⟩:=hok b _ z
        rw[ha] at e1;cases e1
       ·exact y
      subst ebT
      obtain⟨ps,e1,_⟩:=hok' b _ (qk b _ z)
      rw[hT0] at e;cases e
      exact .inr (.inl ⟨hTC,rfl,#[],ps,rfl,by rw[e1];simp⟩)
 have okT:∀H:Hp,wj P w H s₁.heap T (.tb q):=fun H=>⟨#[],hT0,trivial,fun pos cv e=>by cases e⟩
 cases hk:K.lookup a with
 | some o =>
  have e:=KX a o hk
  rw[ha] at e
  cases e
  refine core (fun b=>if b=T then some (.tb q) else none) (fun b=>?_) (.inr ⟨_,vs.toArray,_,hk,rfl,rfl,rfl,by rw[xln,lenV];exact hl2,by simpa using rv⟩) (fun b u z=>?_) (fun b z=>?_) (if_pos rfl) fun z=>absurd (if_neg aT) z
  ·by_cases hb:b=T
   ·exact .inr ⟨q,if_pos hb⟩
   ·exact .inl (.inl (if_neg hb))
  ·by_cases hb:b=T
   ·have z':=(if_pos hb).symm.trans z
    cases z'
    subst hb
    exact okT _
   ·have z':=(if_neg hb).symm.trans z
    cases z'
  ·by_cases hb:b=T
   ·exact .inr hb
   ·exact absurd (if_neg hb) z
 | none =>
  have eT:(fun b=>if b=T then some (HO.tb q) else if b=a then some (.frz { cls:=.type "list", data:=.seq vs.toArray } (.lst (ns.map V.int))) else none) T=some (.tb q):=if_pos rfl
  have ea:(fun b=>if b=T then some (HO.tb q) else if b=a then some (.frz { cls:=.type "list", data:=.seq vs.toArray } (.lst (ns.map V.int))) else none) a=some (.frz { cls:=.type "list", data:=.seq vs.toArray } (.lst (ns.map V.int))):=by
   show(if a=T then _ else _)=_
   rw[if_neg aT,if_pos rfl]
  have en:∀b,b≠T→b≠a→(fun b=>if b=T then some (HO.tb q) else if b=a then some (.frz { cls:=.type "list", data:=.seq vs.toArray } (.lst (ns.map V.int))) else none) b=none:=fun b n1 n2=>by
   show(if b=T then _ else _)=_
   rw[if_neg n1,if_neg n2]
  generalize (fun b=>if b=T then some (HO.tb q) else if b=a then some (.frz { cls:=.type "list", data:=.seq vs.toArray } (.lst (ns.map V.int))) else none)=H at eT ea en
  refine core H (fun b=>?_) (.inl (.inr ⟨{ cls:=.type "list", data:=.seq vs.toArray },ea⟩)) (fun b u z=>?_) (fun b z=>?_) eT fun _=>hk
  ·by_cases hb:b=T
   ·subst hb;exact .inr ⟨q,eT⟩
   ·by_cases hb2:b=a
    ·subst hb2;exact .inl (.inr ⟨_,_,ea⟩)
    ·exact .inl (.inl (en b hb hb2))
  ·by_cases hb:b=T
   ·subst hb
    rw[eT] at z;cases z
    exact okT _
   ·by_cases hb2:b=a
    ·subst hb2
     rw[ea] at z;cases z
     exact⟨ha,by rw[xkP];exact hl2,vs,_,rv,ha⟩
    ·rw[en b hb hb2] at z;cases z
  ·by_cases hb:b=T
   ·exact .inr hb
   ·by_cases hb2:b=a
    ·exact .inl hb2
    ·exact absurd (en b hb hb2) z
theorem xdq {l:PySem.W.OpenLaw}{k:Nat}{p:Program}{loose:List Str}{XP:(Str→Option Value)→Heap→Prop}{YP:World→Heap→Prop}{d:DefRec}{K:Params→PySem.W.Frag}{x q:Str}{T:Addr}
  (hn:l.most=some 63) (hdf:d.params.defaults=[]) (hr:kL k callerA)
  (hY:∀(w:World) (h:Heap),YP w h→(K w.params).In h) (hT:∀P,xfR (K P)=some (T,q)) (hT0:∀(w:World) (h:Heap),YP w h→h.get? T=some { cls:=.none,data:=.fields #[] }) (hTK:∀P,(K P).lookup T=none)
  (hTC:∀(w:World) (h:Heap),(K w.params).In h→isCodeTable h T)
  (F:∀(w:World) (mg:Str→Option Value) (fa:Addr) (h:Heap),(K w.params).In h→h.Ns mainGlobals mg→mg d.name=some (.ref fa) →
   ∃fd:FuncData,(∀(s:Shared) (u:Value),BindsTo s fd ⟨[u],[]⟩ [(x,u)]) ∧
    ∀base:Heap,Mod (K w.params) mg base→sY l.prog w (K w.params) mg base CX0 k fa fd [x] (fY (K w.params))) :
  PySem.W.WalkO p loose XP YP l.row.toRowW d [] (fun f vs=>PySem.call f vs):=by
 refine Att.fv hn hdf fun w s₀ s₁ mg mb fa o pm cd doc a vs ns G Y ho hd hcd hmg hobj hints hlen hg=>?_
 have KX:=hY w _ Y
 obtain⟨fd,hb,hF⟩:=F w mg fa _ KX G.T.g hmg
 exact xat KX G.T.g G.T.b G.T.builtins G.T.nolimit hg hobj hints hlen hr (hT _) (hT0 w _ Y) (hTK _) (hTC w _ KX) hF hb
end L2
theorem PySem.W.CodeHd.isTable {h:PySem.Heap}{c P:PySem.Addr}(x:PySem.W.CodeHd h c P):PySem.isCodeTable h P:=let ⟨o,vs,_,_,_,_,_,_,_,h1,h2,h3,h4,_⟩:=x;⟨c,o,vs,h1,h2,h3,h4⟩
namespace L2
open PySem PySem.Spec PyProof.Rows
section
variable {X:Cx} {pos:Pos}
end
section
variable {K:PySem.W.Frag} {fr:Bool}
end
def xgm:List V→Hp→VK→Prop:=fun xs H Q=>(∃i,xs=[.int i]∧Q (.int i) H)∨∃k,xs=[.bl k]∧Q (.int (if k then 1 else 0)) H
theorem ng:uk X (.type "int") xgm:=xbS
def xfv (xs:List Tr)(KK:Tr→Prop):Prop:=match xs with | [.int i]=>KK (.int i) | [.bl k]=>KK (.int (if k then 1 else 0)) | _=>False
theorem xdU:CbS xgm xfv:=by
 intro F H vs ts KK Q r hf q
 unfold xfv at hf
 split at hf
 ·obtain⟨v,rfl,h⟩:=vo r
  cases (show v=_ from h)
  exact .inl ⟨_,rfl,q _ _ rfl hf⟩
 ·obtain⟨v,rfl,h⟩:=vo r
  cases (show v=_ from h)
  exact .inr ⟨_,rfl,q _ _ rfl hf⟩
 ·exact hf.elim
end L2
namespace L2
open PySem PySem.Spec PySem.Calls PyProof.Rows
section
variable {X:Cx} {pins:List (Addr×Obj)} {σ:St} {H H':Hp} {s s':Shared} {ea C:Addr}
end
end L2
namespace L2
open PySem PySem.Spec PyProof.Rows
section
variable {X:Cx} {a b:Expr} {rest:List Expr} {ta tb:TE} {pos:Pos}
end
section
variable {K:PySem.W.Frag} {fr:Bool}
end
section
variable {P:Program} {w:World} {K:PySem.W.Frag} {mg:Str→Option Value} {base:Heap} {k n:Nat} {x qual:Str} {st:Stmt} {f:Addr} {fd:FuncData} {N ps:List Str} {fr:Bool} {sp:TSp}
end
end L2
namespace L2
open PySem PySem.Spec PyProof.Rows
open Builtin.Str (glued occurrences partsBetween strKind)
section
variable {X:Cx}
theorem nS:∀ {ss:List Str} {us:List Value},zf (ss.map V.str) us→∃l:List (Str×Tok),us=strValues l∧l.map (·.1)=ss
 | [],_,.nil=>⟨[],rfl,rfl⟩
 | x::ss,_,.cons r t=>by
  obtain⟨tk,rfl⟩:=r
  obtain⟨l,e1,e2⟩:=nS t
  exact⟨(x,tk)::l,by rw[e1];rfl,by rw[xkX,e2]⟩
theorem tJ:∀(l:List (Str×Tok)),zf ((l.map (·.1)).map V.str) (strValues l)
 | []=>.nil
 | p::l=>.cons ⟨p.2,rfl⟩ (tJ l)
def rJoin (K:PySem.W.Frag):V→List V→Hp→VK→Prop:=fun x vs H Q=>∃sep p ss,x=.str sep∧vs=[.ref p]∧SqL K H p (ss.map V.str)∧ss.toArray.foldl (· + ·.length+sep.length) 0≤sizeLine∧(glued sep ss).length≤sizeLine∧Q (.str (glued sep ss)) H
theorem xeX:MtR X "str.join" (rJoin X.K):=by
 intro pins s σ H x vs v us Q I rx rv h
 obtain⟨sep,p,ss,rfl,rfl,hl,hz,hz2,q⟩:=h
 obtain⟨t,rfl⟩:=rx
 obtain⟨u,rfl,ru⟩:=rv.one
 cases ru
 obtain⟨its,r,pl,_⟩:=I.list hl
 obtain⟨l,rfl,e⟩:=nS r
 subst e
 refine call_meets F.slot_str_join (typeIs_str s sep t) F.entry_str_join (F.args_str_join_2 _ _) (meets_str_join_list sep t p l (by unfold Builtin.Str.tooLong;exact xlP (by omega))) ⟨pl.isList,?_⟩
 rcases l with _ | ⟨a,_ | ⟨b,l⟩⟩
 ·exact⟨hz2,⟨.str _,H,I.tok _,⟨_,rfl⟩,q⟩⟩
 ·exact⟨.str _,H,I,⟨_,rfl⟩,q⟩
 ·exact⟨hz2,⟨.str _,H,I.tok _,⟨_,rfl⟩,q⟩⟩
theorem jB (K:PySem.W.Frag)(e:X.K=K:=by rfl):MtR X "str.join" (rJoin K):=e▸xeX
def xdw:V→List V→Hp→VK→Prop:=fun x vs H Q=>∃z y,x=.str z∧vs=[.str y]∧(y.length == 0)=false∧z.length≤sizeLine∧(partsBetween z (occurrences z y 0 z.length (z.length+1)) y.length).length≤sizeLine∧∀p,H p=none→Q (.ref p) (upd H p (.lst ((Txt.split z y).map V.str)))
theorem u5:MtR X "str.split" xdw:=by
 intro pins s σ H x vs v us Q I rx rv h
 obtain⟨z,y,rfl,rfl,hy,hz,hn,q⟩:=h
 obtain⟨t,rfl⟩:=rx
 obtain⟨u',rfl,ru⟩:=rv.one
 obtain⟨u,rfl⟩:=ru
 have done:∀(l:List (Str×Tok)) (tk:Nat),l.map (·.1)=Txt.split z y→l.length≤sizeLine →
   EP X pins σ Q (.ref s.heap.objs.size) { s with toks:=tk,heap:=s.heap.push { cls:=.type "list", data:=.seq (strValues l).toArray } }:=fun l tk e hl=>by
  refine⟨.ref s.heap.objs.size,_,I.laid (t':=tk) (o:=.lst ((Txt.split z y).map V.str)) (fun b ob q=>Heap.get?_push_of_some _ q) (xlw _) ?_,rfl,q _ (I.hok.fresh (xlw _))⟩
  refine⟨by rw[←e,xkP,xkP];exact hl,strValues l,0,by rw[←e];exact tJ l,Heap.get?_push_size _ rfl⟩
 cases h1:(decide (z.length<y.length) || decide (strKind z<strKind y))
 ·cases hf:(occurrences z y 0 z.length (z.length+1)).isEmpty
  ·refine call_meets F.slot_str_split (typeIs_str s z t) F.entry_str_split (F.args_str_split_2 _ _) (meets_str_split_sep z y t u h1 hy hf hz hn) ?_
   show EP X pins σ Q _ { s with toks:=_,heap:=s.heap.push { cls:=.type "list", data:=.seq (strsFrom s.toks (partsBetween z (occurrences z y 0 z.length (z.length+1)) y.length)).toArray } }
   rw[strsFrom_eq]
   exact done (numbered s.toks _) _ ((numbered_texts _ _).trans ((if_neg (ne_true_of_eq_false h1)).trans (if_neg (ne_true_of_eq_false hf))).symm) (by rw[←xkP (f:=(·.1)),numbered_texts];exact hn)
  ·exact call_meets F.slot_str_split (typeIs_str s z t) F.entry_str_split (F.args_str_split_2 _ _) (meets_str_split_not_found z y t u h1 hy hf) (done [(z,t)] s.toks ((if_neg (ne_true_of_eq_false h1)).trans (if_pos hf)).symm (by show 1≤sizeLine;decide))
 ·exact call_meets F.slot_str_split (typeIs_str s z t) F.entry_str_split (F.args_str_split_2 _ _) (meets_str_split_cannot_occur z y t u h1) (done [(z,t)] s.toks (if_pos h1).symm (by show 1≤sizeLine;decide))
def xbq:V→List V→Hp→VK→Prop:=fun x vs H Q=>∃z y,x=.str z∧vs=[.str y]∧Q (.bl (decide (0+y.length≤z.length)&&Builtin.Str.subAt z y 0)) H
theorem mR:MtR X "str.startswith" xbq:=by
 intro pins s σ H x vs v us Q I rx rv h
 obtain⟨z,y,rfl,rfl,q⟩:=h
 obtain⟨t,rfl⟩:=rx
 obtain⟨u',rfl,ru⟩:=rv.one
 obtain⟨u,rfl⟩:=ru
 exact call_meets F.slot_str_startswith (typeIs_str s z t) F.entry_str_startswith (F.args_str_startswith_2 _ _) (gives_str_startswith z y t u).meets ⟨.bl _,H,I,rfl,q⟩
def xi6:V→Option Int→Option Int→Hp→VK→Prop:=fun x lo hi H Q=>∃z,x=.str z∧z.length≤sizeLine∧Q (.str (Txt.slice z lo hi)) H
theorem kO:SlR X xi6:=by
 intro pins s σ H x v vl vu lo hi sl Q I rx hs pl pu h
 obtain⟨z,rfl,hz,q⟩:=h
 obtain⟨t,rfl⟩:=rx
 refine⟨"str", _,F.slot_str_getitem.lookup,typeIs_str s z t,?_⟩
 have fin:∀(l u:Option (Int×Tok)),s.heap.IsSlice sl l u none→l.map (·.1)=lo→u.map (·.1)=hi→wpAny (model X.prog X.w) X.A (getItem (.str z t) (.ref sl)) (EP X pins σ Q) X.xe s:=fun l u h1 e1 e2=>by
  subst e1 e2
  exact wpAny_getItem_str_slice h1 rfl (post_val_or_str ⟨xly (Txt.slice_le z _ _) hz,fun t' k=>⟨.str _,H,I.tok _,⟨t',rfl⟩,q⟩⟩)
 cases pl with
 | none =>
  cases pu with
  | none=>exact fin none none hs rfl rfl
  | int j tj=>exact fin none (some (j,tj)) hs rfl rfl
 | int i ti =>
  cases pu with
  | none=>exact fin (some (i,ti)) none hs rfl rfl
  | int j tj=>exact fin (some (i,ti)) (some (j,tj)) hs rfl rfl
theorem nh:uk X (.type "int") (fun xs H Q=>∃z n,xs=[.str z]∧PySem.intText? z=some n∧z.length≤640∧Q (.int n) H):=by
 intro pins s σ H xs us Q I r h
 obtain⟨z,n,rfl,hn,hl,q⟩:=h
 obtain⟨u,rfl,t,rfl⟩:=vals1 r
 exact PySem.W.KIN.call_text hn hl ⟨.int n,H,I.tok _,⟨_,rfl⟩,q⟩
def Its (x:Str):It:=⟨fun i _=>i<x.cps.size,fun i H v H'=>H'=H∧∃c,x.cps[i]? = some c∧v=.str ⟨#[c]⟩,fun i _=>x.cps.size≤i⟩
theorem xc3 {K:PySem.W.Frag}(it:Addr)(x:Str)(t:Tok):Turn P w K tg (Its x) [it] it (fun i h=>h.IsStrIter it "str_ascii_iterator" x t i) where
 mem:=by simp
 obj:=fun i h st b hb=>by
  have e:b=it:=by simpa using hb
  subst e
  obtain⟨o,e,c,d⟩:=st
  exact⟨o,e,fun v z=>by rw[d] at z;cases z⟩
 keep:=fun i h h' st k=>let ⟨o,ho,r⟩:=st;⟨o,k it (by simp) o ho,r⟩
 item:=by
  intro X hP hw hK hc i pins s σ H E I hf st hg
  subst hP hw hK
  have hg:i<x.cps.size:=hg
  obtain⟨f0,f1,f2,f3,f4,f5⟩:=hf it (by simp)
  refine wpAny_pyNext_ascii_item st (c:=x.cps[i]) (by simp[hg]) fun h' st' sb=>?_
  have I1:Inv X pins σ H { s with heap:=h',toks:=s.toks+1 }:=I.turned (fun b o hb e=>(sb.2 b hb).trans e) f0 f1 f3 f4 f5
  obtain⟨o,e,c,d⟩:=id st'
  exact⟨_,rfl,xdt (s:={ s with heap:=h',toks:=s.toks+1 }) e c d (by decide) ⟨.str ⟨#[x.cps[i]]⟩,H,I1,⟨_,rfl⟩,⟨rfl,x.cps[i],by simp[hg],rfl⟩,st',fun b hb=>(hf b hb).1⟩⟩
 done:=by
  intro X hP hw hK hc i pins s σ H E I hf st hg
  subst hP hw hK
  have hg:x.cps.size≤i:=hg
  obtain⟨f0,f1,f2,f3,f4,f5⟩:=hf it (by simp)
  exact wpAny_pyNext_ascii_end (I.ok.hd hc) st (by simp[hg]) fun h' eb=>⟨rfl,I.turned (t':=s.toks) (fun b o hb e=>eb b o hb e) f0 f1 f3 f4 f5⟩
 self:=fun _ _ _ _ _ st h=>wpAny_pyIter_striter_ascii st h
def xi0 (tl:TE):TI:=fun σ H R=>tl σ H fun x H1=>∃z,x=.str z∧z.cps.all (· < 128)=true∧R (Its z) H1
theorem xbD (hl:PE X l tl):PI X tg l (xi0 tl):=by
 intro pins s σ H R I h
 refine thn (@hl pins s σ H _ I h) fun v s1 ⟨x,H1,I1,r1,q1⟩=>?_
 obtain⟨z,e,ha,q⟩:=q1
 subst e
 obtain⟨t,rfl⟩:=r1
 refine wpAny_pyIter_ascii ha ?_
 refine⟨s1.heap.objs.size,[s1.heap.objs.size],_,_,H1,rfl,I1.kept (t':=s1.toks) fun b o e=>Heap.get?_push_of_some _ e,xc3 _ z t,⟨_,Heap.get?_push_size _ rfl,rfl,rfl⟩,fun b hb=>?_,q⟩
 have e:b=s1.heap.objs.size:=by simpa using hb
 subst e
 exact I1.fpOk (xlw _) (I1.hok.fresh (xlw _))
def xfH (K:PySem.W.Frag)(xs:List V)(H:Hp)(Q:VK):Prop:=∃(p:Addr) (bs:List Bool),xs=[.ref p]∧SqL K H p (bs.map V.bl)∧Q (.bl (bs.any id)) H
theorem aH {bs:List Bool}:(List.range bs.length).any (fun i=>(bs[i]?).getD false)=bs.any id:=by
 rw[xjI]
 simp only[xkl,xlf,id]
 constructor
 ·rintro⟨i,hi,h⟩
  rw[xkD hi] at h
  exact⟨_,xkJ hi,h⟩
 ·rintro⟨b,hb,h⟩
  obtain⟨i,hi,rfl⟩:=xk_.mp hb
  exact⟨i,hi,by rw[xkD hi];exact h⟩
theorem xbZ (hc:X.calm=true):uk X (.builtin "any") (xfH X.K):=by
 intro pins s σ H xs us Q I r h
 obtain⟨p,bs,rfl,hl,q⟩:=h
 obtain⟨u,rfl,ru⟩:=vals1 r
 cases ru
 obtain⟨its,rv,pl,hz⟩:=I.list hl
 have e:=j_ rv
 subst e
 have hl':=pl.isList
 refine call_any_walk (wpAny_pyIter_list hl' ?_)
 have hlt:p<s.heap.objs.size:=by obtain⟨o,ho,_⟩:=id hl';exact Heap.lt_size ho
 have hne:p≠s.heap.objs.size:=xlH hlt
 refine⟨_,_,_,_,_,_,fun i=>(bs[i]?).getD false,rfl,Walks.list (A:=X.A.in1) (I.ok.hd hc) _ p hne (bs.map Value.bool).toArray,⟨⟨_,Heap.get?_push_size _ rfl,rfl,rfl⟩,hl'.at fun o e=>Heap.get?_push_of_some _ e⟩,?_,fun h' tk hk=>?_⟩
 ·intro i v s' Q' E' hP hq
  have hP':(bs.map Value.bool)[i]? = some v:=by simpa using hP
  rw[xkG] at hP'
  cases eb:bs[i]? with
  | none=>rw[eb] at hP';cases hP'
  | some b =>
   rw[eb] at hP'
   cases hP'
   simp only[eb,xlK] at hq
   exact wpAny_truthy_bool hq
 ·have hk':=old_kept (l:=p) hk
  refine⟨.bl (bs.any id),H,I.kept hk',?_,q⟩
  show Value.bool _=Value.bool _
  have:(bs.map Value.bool).toArray.size=bs.length:=by simp
  rw[this,aH]
theorem aa (K:PySem.W.Frag)(hc:X.calm=true)(e:X.K=K:=by rfl):uk X (.builtin "any") (xfH K):=e▸xbZ hc
theorem xea:bootBuiltins "any" = some (.builtin "any"):=by decide +kernel
end
section
variable {K:PySem.W.Frag}
def BmS (r:V→List V→Hp→VK→Prop)(f:Tr→List Tr→(Tr→Prop)→Prop):Prop:=∀(F G:Addr→Prop) (H:Hp) (x:V) (vs:List V) (t:Tr) (ts:List Tr) (KK:Tr→Prop) (Q:VK),Rep F H t x→zM G H ts vs→f t ts KK→(∀w v,bS w=some v→KK w→Q v H)→r x vs H Q
def xiY:Tr→Prop
 | .str _=>True
 | _=>False
def dBm (f:Tr→List Tr→(Tr→Prop)→Prop)(d:DE)(da:DA):DE:=fun τ KK=>d τ fun t=>xiY t∧da τ fun ts=>f t ts KK
theorem fq (hr:BmS r f)(ho:OkE K b to d)(ha:OkA K c n ta da):OkE K true (tBM K "str" r to ta) (dBm f d da):=fun B φ σ τ H Q KK R hd q =>
 ho B φ σ τ H _ _ R hd fun t v H1 x1 k1 r1=>by
  obtain⟨ht,k1⟩:=k1
  cases t with
  | str z =>
   cases (show v=.str z from r1)
   exact⟨rfl,ha B φ σ τ H1 _ _ (R.hx x1) k1 fun ts vs H2 x2 k2 l2 r2=>hr (fun _=>False) _ H2 (.str z) vs (.str z) ts KK Q rfl r2 k2 fun w v e k=>q w v H2 (x1.trans x2) k (vd e)⟩
  | _=>exact ht.elim
theorem nW:∀ {ss:List Str} {ws:List V},zM F H (ss.map Tr.str) ws→ws=ss.map V.str
 | [],_,h=>h
 | n::ns,_,⟨w,r,e,h1,h2⟩=>by
  cases (show w=.str n from h1)
  rw[e,nW h2];rfl
def xhW (t:Tr)(ts:List Tr)(KK:Tr→Prop):Prop:=∃sep ss,t=.str sep∧ts=[.lst (ss.map Tr.str)]∧ss.toArray.foldl (· + ·.length+sep.length) 0≤sizeLine∧(glued sep ss).length≤sizeLine∧KK (.str (glued sep ss))
theorem dB:BmS (rJoin K) xhW:=by
 intro F G H x vs t ts KK Q rx rv hf q
 obtain⟨sep,ss,rfl,rfl,h1,h2,k⟩:=hf
 obtain⟨v,rfl,a,ws,e,n,ha,rl⟩:=vo rv
 rw[nW rl] at ha
 exact⟨sep,a,ss,rx,by rw[e],SqL.of ha,h1,h2,q _ _ rfl k⟩
def xe1 (t:Tr)(ts:List Tr)(KK:Tr→Prop):Prop:=∃z y,t=.str z∧ts=[.str y]∧KK (.bl (decide (0+y.length≤z.length)&&Builtin.Str.subAt z y 0))
theorem tS:BmS xbq xe1:=by
 intro F G H x vs t ts KK Q rx rv hf q
 obtain⟨z,y,rfl,rfl,k⟩:=hf
 obtain⟨v,rfl,e⟩:=vo rv
 exact⟨z,y,rx,by rw[show v=.str y from e],q _ _ rfl k⟩
def xgy (d:DE)(da:DA):DE:=fun τ KK=>d τ fun t=>xiY t∧da τ fun ts=>∃z y,t=.str z∧ts=[.str y]∧(y.length == 0)=false∧z.length≤sizeLine∧(partsBetween z (occurrences z y 0 z.length (z.length+1)) y.length).length≤sizeLine∧KK (.lst ((Txt.split z y).map Tr.str))
theorem ay:∀ss:List Str,zM F H (ss.map Tr.str) (ss.map V.str)
 | []=>rfl
 | s::ss=>⟨_,_,rfl,rfl,ay ss⟩
theorem uc (ho:OkE K b to d)(ha:OkA K c n ta da):OkF K (tBM K "str" xdw to ta) (xgy d da):=fun B φ σ τ H Q KK R hd q =>
 ho B φ σ τ H _ _ R hd fun t v H1 x1 k1 r1=>by
  obtain⟨ht,k1⟩:=k1
  cases t with
  | str z =>
   cases (show v=.str z from r1)
   refine⟨rfl,ha B φ σ τ H1 _ _ (R.hx x1) k1 fun ts vs H2 x2 k2 l2 r2=>?_⟩
   obtain⟨z',y,e,rfl,hy,hz,hn,k⟩:=k2
   cases e
   obtain⟨v,rfl,e⟩:=vo r2
   have x:=x1.trans x2
   exact⟨z,y,rfl,by rw[show v=.str y from e],hy,hz,hn,fun p hp=>q _ _ _ _ (x.trans (HX.new (R.hx x) hp _)) k (x.none hp) xZ (ay _)⟩
  | _=>exact ht.elim
def xjd (d:DE)(dl dh:DO):DE:=fun τ KK=>d τ fun x=>dl τ fun lo=>dh τ fun hi=>match x with | .str z=>z.length≤sizeLine∧KK (.str (Txt.slice z lo hi)) | _=>False
theorem kR {b:Bool}{te:TE}{tl th:TO}{d:DE}{dl dh:DO}(h:OkE K b te d)(hl:OkO K tl dl)(hh:OkO K th dh):OkE K true (tSl xi6 te tl th) (xjd d dl dh):=fun B φ σ τ H Q KK R hd q =>
 h B φ σ τ H _ _ R hd fun t v H1 x1 k1 r1=>hl B φ σ τ H1 _ _ (R.hx x1) k1 fun lo H2 x2 k2=>hh B φ σ τ H2 _ _ (R.hx (x1.trans x2)) k2 fun hi H3 x3 k3=>by
  have x:=(x1.trans x2).trans x3
  cases t with
  | str z =>
   cases (show v=.str z from r1)
   exact⟨z,rfl,k3.1,q _ _ H3 x k3.2 rfl⟩
  | _=>exact k3.elim
def xhV (xs:List Tr)(KK:Tr→Prop):Prop:=∃z,xs=[.str z]∧z.length≤sizeLine∧KK (.int z.length)
theorem cq:CbS (fun xs H Q=>∃z,xs=[.str z]∧z.length≤sizeLine∧Q (.int z.length) H) xhV:=by
 intro F H vs ts KK Q r hf q
 obtain⟨z,rfl,hz,k⟩:=hf
 obtain⟨v,rfl,e⟩:=vo r
 exact⟨z,by rw[show v=.str z from e],hz,q _ _ rfl k⟩
def xhU (xs:List Tr)(KK:Tr→Prop):Prop:=∃z n,xs=[.str z]∧PySem.intText? z=some n∧z.length≤640∧KK (.int n)
theorem xbt:CbS (fun xs H Q=>∃z n,xs=[.str z]∧PySem.intText? z=some n∧z.length≤640∧Q (.int n) H) xhU:=by
 intro F H vs ts KK Q r hf q
 obtain⟨z,n,rfl,h1,h2,k⟩:=hf
 obtain⟨v,rfl,e⟩:=vo r
 exact⟨z,n,by rw[show v=.str z from e],h1,h2,q _ _ rfl k⟩
def xhM (xs:List Tr)(KK:Tr→Prop):Prop:=∃i:Int,xs=[.int i]∧i.natAbs.log2<1920∧KK (.str (toString i))
theorem cJ:CbS (fun xs H Q=>∃i:Int,xs=[.int i]∧i.natAbs.log2<1920∧Q (.str (toString i)) H) xhM:=by
 intro F H vs ts KK Q r hf q
 obtain⟨i,rfl,h1,k⟩:=hf
 obtain⟨v,rfl,e⟩:=vo r
 exact⟨i,by rw[show v=.int i from e],h1,q _ _ rfl k⟩
def xin (xs:List Tr)(KK:Tr→Prop):Prop:=∃bs:List Bool,xs=[.lst (bs.map Tr.bl)]∧KK (.bl (bs.any id))
theorem lX:CbS (xfH K) xin:=by
 intro F H vs ts KK Q r hf q
 obtain⟨ns,rfl,h1⟩:=hf
 obtain⟨v,rfl,a,ws,e,n,ha,rl⟩:=vo r
 rw[rq rl] at ha
 exact⟨a,ns,by rw[e],SqL.of ha,q _ _ rfl h1⟩
def xgs (x y:Tr)(KK:Tr→Prop):Prop:=match x,y with | .str i,.str j=>i.length+j.length≤sizeLine∧KK (.str (i++j)) | _,_=>False
theorem fA:OpS (fun x y H Q=>∃i j,x=.str i∧y=.str j∧i.length+j.length≤sizeLine∧Q (.str (i++j)) H) xgs:=fun F G H x y t u KK Q r1 r2 hf q=>by
 unfold xgs at hf
 split at hf
 ·rename_i i j
  cases (show x=.str i from r1);cases (show y=.str j from r2)
  exact⟨i,j,rfl,rfl,hf.1,q _ _ rfl hf.2⟩
 ·exact hf.elim
def xhg (x y:Tr)(KK:Tr→Prop):Prop:=match x,y with | .str i,.str j=>KK (.bl (!(!(occurrences j i 0 j.length 1).isEmpty))) | _,_=>False
theorem bG:OpS (fun x y H Q=>∃i j,x=.str i∧y=.str j∧Q (.bl (!(!(occurrences j i 0 j.length 1).isEmpty))) H) xhg:=fun F G H x y t u KK Q r1 r2 hf q=>by
 unfold xhg at hf
 split at hf
 ·rename_i i j
  cases (show x=.str i from r1);cases (show y=.str j from r2)
  exact⟨i,j,rfl,rfl,q _ _ rfl hf⟩
 ·exact hf.elim
def gL (x:Str):List Tr:=x.cps.toList.map fun c=>.str ⟨#[c]⟩
theorem xe9:ItL (Its x) (gL x) [] where
 go:=fun F H i s hi=>by unfold gL at hi;rw[xkP,xjE] at hi;exact hi
 stop:=fun F H s=>by unfold gL;rw[xkP,xjE];exact xlw _
 yld:=fun F i H x' H' s d hi y=>by
  obtain⟨rfl,c,hc,rfl⟩:=y
  refine⟨.inl rfl,.str ⟨#[c]⟩,?_,rfl⟩
  unfold gL
  rw[xkG,xjC,hc]
  rfl
def xh9 (d:DE):DI:=fun τ KK=>d τ fun t=>match t with | .str z=>z.cps.all (· < 128)=true∧KK (gL z) | _=>False
theorem bP (h:OkE K b tl d):OkI K true (xi0 tl) (xh9 d):=fun B φ σ τ H R KK Rs hd q =>
 h B φ σ τ H _ _ Rs hd fun t v H1 x1 k1 r1=>by
  split at k1
  ·rename_i z
   exact⟨z,r1,k1.1,q _ _ [] H1 x1 k1.2 xe9 fun p hp=>absurd hp (by simp)⟩
  ·exact k1.elim
end
end L2
namespace Tx
open PySem
open Builtin.Str (glued occurrences partsBetween strSub subAt)
def gl (y:List Nat):List (List Nat)→List Nat
 | []=>[]
 | [q]=>q
 | q::r=>q++(y++gl y r)
def bg (w:Nat):Nat→List (List Nat)→List Nat
 | _,[]=>[]
 | _,[_]=>[]
 | a,q::r=>(a+q.length)::bg w (a+q.length+w) r
theorem wN (h:r≠[]):gl y (q::r)=q++(y++gl y r):=by
 cases r with
 | nil=>exact absurd rfl h
 | cons p r=>rfl
theorem jU (h:r≠[]):bg w a (q::r)=(a+q.length)::bg w (a+q.length+w) r:=by
 cases r with
 | nil=>exact absurd rfl h
 | cons p r=>rfl
theorem cf:∀(qs:List (List Nat)) (a:Nat),∀s∈bg w a qs,a≤s
 | [],_,_,h=>by cases h
 | [_],_,_,h=>by cases h
 | q::p::r,a,s,h=>by
  rcases xk5.mp (show s∈(a+q.length)::bg w (a+q.length+w) (p::r) from h) with e | h
  ·omega
  ·have:=cf (p::r) _ s h;omega
theorem oP:∀(qs:List (List Nat)) (a:Nat),(bg w a qs).Pairwise fun s t=>s+w≤t
 | [],_=>.nil
 | [_],_=>.nil
 | q::p::r,a=>by
  show((a+q.length)::bg w (a+q.length+w) (p::r)).Pairwise _
  rw[List.pairwise_cons]
  exact⟨fun t ht=>cf (p::r) _ t ht,oP (p::r) _⟩
theorem xae (hd:y[d]? = some c)(hu:∀e,y[e]? = some c→e=d):∀(qs:List (List Nat)) (a:Nat),(∀q∈qs,c∉q)→∀j,(gl y qs)[j]? = some c→∃s∈bg y.length a qs,a+j=s+d
 | [],_,_,j,h=>by simp[gl] at h
 | [q],a,hq,j,h=>absurd (xlc h) (hq q xk7)
 | q::p::r,a,hq,j,h=>by
  rw[wN (by simp)] at h
  rw[jU (by simp)]
  by_cases h1:j<q.length
  ·rw[xkA h1] at h
   exact absurd (xlc h) (hq q xk7)
  ·rw[xkB (by omega)] at h
   by_cases h2:j-q.length<y.length
   ·rw[xkA h2] at h
    have:=hu _ h
    exact⟨_,xk7,by omega⟩
   ·rw[xkB (by omega)] at h
    obtain⟨s,hs,e⟩:=xae hd hu (p::r) (a+q.length+y.length) (fun x hx=>hq x (xk6 _ hx)) _ h
    exact⟨s,xk6 _ hs,by omega⟩
theorem mF:∀(qs:List (List Nat)) (a:Nat),∀s∈bg y.length a qs,((gl y qs).drop (s-a)).take y.length=y∧s-a+y.length≤(gl y qs).length
 | [],_,_,h=>by cases h
 | [_],_,_,h=>by cases h
 | q::p::r,a,s,h=>by
  rw[jU (by simp)] at h
  rw[wN (by simp)]
  rcases xk5.mp h with e | h
  ·subst e
   rw[show a+q.length-a=q.length by omega,xkq,List.take_left]
   exact⟨rfl,by simp⟩
  ·have ge:=cf _ _ s h
   obtain⟨e,l⟩:=mF (p::r) (a+q.length+y.length) s h
   have e1:s-a=q.length+(y.length+(s-(a+q.length+y.length))):=by omega
   rw[e1,←List.drop_drop,xkq,←List.drop_drop,xkq]
   exact⟨e,by simp only[xkL];omega⟩
theorem tE (hy:0<y.length):∀(n k:Nat) (st:Array Nat×Nat) (rest:List Nat),(rest.Pairwise fun s t=>s+y.length≤t)→(∀s∈rest,k≤s∧s<k+n∧st.2≤s∧s+y.length≤hi∧subAt x y s=true) →
  (∀i,k≤i→i+y.length≤hi→subAt x y i=true→i∈rest)→st.1.size+rest.length≤limit→((forIn (List.range' k n) st (StrLaws.occBody x y hi limit):Id (Array Nat×Nat))).run.fst.toList=st.1.toList++rest
 | 0,k,st,rest,_,h,_,_=>by
  have:rest=[]:=by
   cases rest with
   | nil=>rfl
   | cons s r=>have:=h s xk7;omega
  subst this
  simp
 | n+1,k,st,rest,hp,h,ha,hl=>by
  rw[List.range'_succ,xky]
  unfold StrLaws.occBody
  by_cases c:((st.fst.size<limit∧st.snd≤k)∧k+y.length≤hi)∧subAt x y k=true
  ·rw[if_pos c]
   have mem:=ha k (xlw _) c.1.2 c.2
   cases rest with
   | nil=>simp at mem
   | cons s r =>
    rw[List.pairwise_cons] at hp
    have es:s=k:=by
     rcases xk5.mp mem with e | e
     ·exact e.symm
     ·have:=hp.1 k e
      have:=(h s xk7).1
      omega
    subst es
    refine(tE hy n (s+1) (st.1.push s,s+y.length) r hp.2 (fun t ht=>?_) (fun i hi1 hi2 hi3=>?_) ?_).trans ?_
    ·have a1:=hp.1 t ht
     obtain⟨b1,b2,b3,b4,b5⟩:=h t (xk6 _ ht)
     exact⟨by omega,by omega,a1,b4,b5⟩
    ·rcases xk5.mp (ha i (by omega) hi2 hi3) with e | e
     ·omega
     ·exact e
    ·rw[Array.size_push];simp only[xkM] at hl;omega
    ·simp
  ·rw[if_neg c]
   have out:∀s∈rest,s≠k:=fun s hs e=>by
    subst e
    obtain⟨b1,b2,b3,b4,b5⟩:=h s hs
    have:0<rest.length:=List.length_pos_of_mem hs
    exact c ⟨⟨⟨by omega,b3⟩,b4⟩,b5⟩
   refine tE hy n (k+1) (st.1,st.2) rest hp (fun t ht=>?_) (fun i hi1 hi2 hi3=>ha i (by omega) hi2 hi3) hl
   obtain⟨b1,b2,b3,b4,b5⟩:=h t ht
   have:=out t ht
   exact⟨by omega,by omega,b3,b4,b5⟩
theorem sP:∀(qs:List Str) (pre:List Nat),qs≠[]→x.cps.toList=pre++gl y (qs.map fun q=>q.cps.toList)→StrLaws.partsFrom x y.length pre.length (bg y.length pre.length (qs.map fun q=>q.cps.toList))=qs
 | [],_,h,_=>absurd rfl h
 | [q],pre,_,e=>by
  show[strSub x pre.length x.length]=[q]
  congr 1
  apply Str.ext'
  apply xjG.mp
  have hx:x.length=x.cps.toList.length:=by simp[Str.length]
  rw[StrLaws.strSub_toList,hx,e]
  show List.take ((pre++q.cps.toList).length-pre.length) ((pre++q.cps.toList).drop pre.length)=_
  rw[xkq,xkL]
  exact xlr (by omega)
 | q::p::r,pre,_,e=>by
  rw[xkX,wN (by simp)] at e
  rw[xkX,jU (by simp)]
  show strSub x pre.length (pre.length+q.cps.toList.length)::StrLaws.partsFrom x y.length (pre.length+q.cps.toList.length+y.length) (bg y.length (pre.length+q.cps.toList.length+y.length) ((p::r).map fun q=>q.cps.toList))=q::p::r
  have ih:=sP (x:=x) (y:=y) (p::r) (pre++(q.cps.toList++y)) (by simp) (by rw[e];simp only[xkm])
  rw[show(pre++(q.cps.toList++y)).length=pre.length+q.cps.toList.length+y.length by simp only[xkL];omega] at ih
  rw[ih]
  congr 1
  apply Str.ext'
  apply xjG.mp
  rw[StrLaws.strSub_toList,e,xkq,show pre.length+q.cps.toList.length-pre.length=q.cps.toList.length by omega,List.take_left]
theorem yQ (y:Str):∀qs:List Str,(glued y qs).cps.toList=gl y.cps.toList (qs.map fun q=>q.cps.toList):=by
 have go:∀(r:List Str) (acc:Array Nat),(r.foldl (fun acc p=>acc++y.cps++p.cps) acc).toList=acc.toList++(match r with | []=>[] | _=>y.cps.toList++gl y.cps.toList (r.map fun q=>q.cps.toList)):=fun r=>by
  induction r with
  | nil=>intro acc;simp
  | cons p r ih =>
   intro acc
   rw[xkx,ih]
   cases r with
   | nil=>simp[gl]
   | cons p' r =>
    show(acc++y.cps++p.cps).toList++(y.cps.toList++gl y.cps.toList ((p'::r).map fun q=>q.cps.toList))=acc.toList++(y.cps.toList++gl y.cps.toList ((p::p'::r).map fun q=>q.cps.toList))
    rw[show gl y.cps.toList ((p::p'::r).map fun q=>q.cps.toList)=p.cps.toList++(y.cps.toList++gl y.cps.toList ((p'::r).map fun q=>q.cps.toList)) from wN (by simp)]
    simp only[xjF,xkm]
 intro qs
 cases qs with
 | nil=>rfl
 | cons q r =>
  show(r.foldl (fun acc p=>acc++y.cps++p.cps) q.cps).toList=_
  rw[go]
  cases r with
  | nil=>simp[gl]
  | cons p r=>exact(wN (q:=q.cps.toList) (r:=(p::r).map fun q=>q.cps.toList) (by simp)).symm
theorem j2 (h:∀c∈x.cps.toList,c<128):Builtin.Str.strKind x=1:=by
 unfold Builtin.Str.strKind
 rw[if_pos]
 rw[xjA]
 intro i hi
 have:=h _ (xjD hi)
 exact xlR (by omega)
theorem bF {y:Str}{qs:List Str}{c d:Nat}(hy:0<y.length)(hd:y.cps.toList[d]? = some c)(hu:∀e,y.cps.toList[e]? = some c→e=d)(hq:∀q∈qs,c∉q.cps.toList)(ne:qs≠[])(hk:Builtin.Str.strKind y=1)(h2:qs.length≤(glued y qs).length+1)(ly:2≤qs.length→y.length≤(glued y qs).length) :
  Txt.split (glued y qs) y=qs:=by
 have gx:=yQ y qs
 have yl:y.length=y.cps.toList.length:=by simp[Str.length]
 have hx:(glued y qs).length=(glued y qs).cps.toList.length:=by simp[Str.length]
 generalize glued y qs=x at *
 have hm:∀q∈qs.map (fun q=>q.cps.toList),c∉q:=fun q hq'=>by
  obtain⟨p,hp,rfl⟩:=xla.mp hq'
  exact hq p hp
 have sl:∀(l:List (List Nat)) (a:Nat),(bg y.cps.toList.length a l).length=l.length-1:=fun l=>by
  induction l with
  | nil=>exact fun _=>rfl
  | cons q r ih =>
   intro a
   cases r with
   | nil=>rfl
   | cons p r=>rw[jU (by simp),xkM,ih];rfl
 have occ:occurrences x y 0 x.length (x.length+1)=bg y.cps.toList.length 0 (qs.map fun q=>q.cps.toList):=by
  rw[StrLaws.occ_eq]
  refine(tE hy (x.length+1-0) 0 (#[],0) (bg y.cps.toList.length 0 (qs.map fun q=>q.cps.toList)) (by rw[yl];exact oP _ _) (fun s hs=>?_) (fun i _ h1 h2=>?_) ?_).trans (by simp)
  ·obtain⟨e,l⟩:=mF _ 0 s hs
   rw[←gx] at e l
   rw[xlI] at e l
   refine⟨xlJ _,by omega,xlJ _,by omega,?_⟩
   rw[StrLaws.subAt_eq,yl,e]
   exact beq_self_eq_true _
  ·rw[StrLaws.subAt_eq] at h2
   have e:=eq_of_beq h2
   have dl:d<y.cps.toList.length:=(xkF.mp hd).1
   have:x.cps.toList[i+d]? = some c:=by
    rw[←hd,←e,List.getElem?_take,if_pos (by omega),xkC]
   rw[gx] at this
   obtain⟨s,hs,es⟩:=xae hd hu _ 0 hm _ this
   have:s=i:=by omega
   rw[←this];exact hs
  ·rw[sl,xkP]
   show 0+_≤_
   omega
 unfold Txt.split
 have kx:1≤Builtin.Str.strKind x:=by unfold Builtin.Str.strKind;split<;>(try split)<;>decide
 by_cases one:qs.length=1
 ·obtain⟨q,rfl⟩:=List.length_eq_one_iff.mp one
  have ex:x=q:=by
   apply Str.ext'
   apply xjG.mp
   rw[gx];rfl
  rw[occ,ex]
  split
  ·rfl
  ·exact if_pos rfl
 ·have two:2≤qs.length:=by
   have:qs.length≠0:=fun z=>ne (xkO.mp z)
   omega
  rw[if_neg (by
   have:=ly two
   simp only[xjL,xlS,not_or]
   omega),occ]
  have:(bg y.cps.toList.length 0 (qs.map fun q=>q.cps.toList)).isEmpty=false:=by
   rw[List.isEmpty_eq_false_iff,←xkQ,sl,xkP]
   omega
  rw[if_neg (by rw[this];exact xjJ),StrLaws.partsBetween_eq,yl]
  exact sP qs [] ne gx
end Tx
namespace L2
open PySem PySem.Spec PyProof.Rows
section
variable {prog:Program} {w:World} {A:Around} {E:Value→Shared→Prop} {s:Shared}
theorem m_ (hne:t≠it):∀(n i:Nat) (s:Shared) (Q:List Value→Shared→Prop),s.heap.IsListIter it t i→s.heap.IsList t items→i+n≤items.size →
  (∀h',h'.IsListIter it t (i+n)→Heap.SameBut it s.heap h'→Q ((items.toList.drop i).take n) { s with heap:=h' })→wpAny (model prog w) A (draw (.ref it) n) Q E s
 | 0,i,s,Q,hit,_,_,hQ=>by
  show wpAny _ _ (pure []) Q E s
  exact wpAny_pure (by simpa using hQ s.heap hit (Heap.SameBut.refl ..))
 | n+1,i,s,Q,hit,ht,hle,hQ=>by
  have hlt:i<items.size:=by omega
  show wpAny _ _ (pyNext (.ref it) >>= _) Q E s
  refine wpAny_bind (wpAny_pyNext_list_item hit ht (x:=items[i]) (by simp[hlt]) fun h₁ hit₁ hs₁=>?_)
  refine wpAny_bind (wpAny_holding (m_ hne n (i+1) _ _ hit₁ (ht.extBut hs₁.extBut hne) (by omega) fun h₂ hit₂ hs₂=>wpAny_pure ?_))
  have hd:items.toList.drop i=items[i]::items.toList.drop (i+1):=by simp[xkp,hlt]
  have:=hQ h₂ (by rw[show i+(n+1)=i+1+n by omega];exact hit₂) (hs₁.trans hs₂)
  rw[hd,List.take_succ_cons] at this
  exact this
theorem gM (hh:A.handled=none)(ht:s.heap.IsList t items)
  (hQ:∀h',Heap.ExtBut s.heap.objs.size s.heap h'→Q items.toList { s with heap:=h' }):wpAny (model prog w) A (unpackItems (.ref t) items.size none) Q E s:=by
 have hlt:t≠s.heap.objs.size:=by obtain⟨o,ho,_⟩:=ht;exact xlH (Heap.lt_size ho)
 unfold unpackItems
 refine wpAny_bind ?_
 ·unfold notIterableAtAll
  refine wpAny_bind (wpAny_specialOf ht.typeIs slot_list_iter.lookup ?_)
  refine wpAny_pure ?_
  simp only[Bool.false_eq_true,if_false]
  refine wpAny_bind (wpAny_holding (wpAny_pyIter_list ht ?_))
  refine wpAny_bind (wpAny_holding (m_ hlt items.size 0 _ _ ⟨_,Heap.get?_push_size _ rfl,rfl,rfl⟩ (ht.push _) (by omega) fun h₁ hit₁ hs₁=>?_))
  have hall:List.take items.size (List.drop 0 items.toList)=items.toList:=by
   rw[xkr];exact xlr (by simp)
  rw[hall]
  rw[if_neg (by simp)]
  have ht₁:h₁.IsList t items:=(ht.push _).extBut hs₁.extBut hlt
  refine wpAny_bind (wpAny_holding (wpAny_pyNext_list_end hh hit₁ ht₁ (by simp) fun h₂ he₂=>?_))
  simp only[Option.isSome_none,Bool.false_eq_true,if_false]
  refine wpAny_pure (hQ h₂ fun b o hb e=>he₂ b o hb (hs₁.extBut b o hb (Heap.get?_push_of_some _ e)))
theorem bL (hh:A.handled=none)(ht:s.heap.IsList t items)
  (hn:targets.length=items.size) (hstar:targets.findIdx? (·.1)=none)
  (h:∀h',Heap.ExtBut s.heap.objs.size s.heap h'→wpAny (model prog w) A (assignInOrder (targets.map (·.2)) items.toList) Q E { s with heap:=h' }) :
  wpAny (model prog w) A (unpack (.ref t) targets) Q E s:=by
 unfold unpack
 rw[hn,hstar]
 exact wpAny_bind (wpAny_holding (gM hh ht h))
theorem gk (hh:A.handled=none)(ht:s.heap.IsList t items)
  (hn:(assignEach elts env).length=items.size) (hstar:(assignEach elts env).findIdx? (·.1)=none)
  (h:∀h',Heap.ExtBut s.heap.objs.size s.heap h'→wpAny (model prog w) A (assignInOrder ((assignEach elts env).map (·.2)) items.toList) Q E { s with heap:=h' }) :
  wpAny (model prog w) A (assign (.Tuple elts x1 pos) env (.ref t)) Q E s:=by
 rw[assign_Tuple]
 exact wpAny_bind (wpAny_standAt (bL hh ht hn hstar h))
end
def xiM (K:PySem.W.Frag)(n:Nat)(t:TGs):TG:=fun v σ H Q=>∃a xs,v=.ref a∧SqL K H a xs∧xs.length=n∧t xs σ H Q
section
variable {X:Cx}
theorem xfo (K:PySem.W.Frag)(hc:X.calm=true)(h:PGs X es t)
  (hn:(assignEach es X.env).length=n:=by rfl) (hst:(assignEach es X.env).findIdx? (·.1)=none:=by rfl) (e:X.K=K:=by rfl):PG X (.Tuple es k pos) (xiM K n t):=by
 subst e
 intro pins s σ H v u Q I r hw
 obtain⟨a,xs,e1,hq,hl,hw⟩:=hw
 subst e1
 cases r
 obtain⟨its,rv,⟨o,m,ho,hcl,hd,hs⟩,hz⟩:=I.list hq
 refine gk (I.ok.hd hc) (items:=its.toArray) ⟨o,ho,hcl,m,hs⟩ (by simp[hn,←hl,rv.length]) hst fun h' hx=>?_
 have I1:Inv X pins σ H { s with heap:=h' }:=I.kept (t':=s.toks) fun b o e=>hx b o (xlH (Heap.lt_size e)) e
 exact @h pins _ σ H xs _ Q I1 (by simpa using rv) hw
end
section
variable {K:PySem.W.Frag}
def xjv (n:Nat)(d:DGs):DG:=fun t τ KK=>match t with | .lst ts=>ts.length=n∧d ts τ KK | _=>False
theorem xeU (h:xg1 K gs ds):OkN K (xiM K n gs) (xjv n ds):=fun B φ σ τ H F t v Q KK R hF r hd q=>by
 cases t with
 | lst ts =>
  obtain⟨a,ws,e,n,ha,rl⟩:=r
  exact⟨a,ws,e,SqL.of ha,by rw[←rl.len];exact hd.1,h B φ σ τ H F ts ws Q KK R hF rl hd.2 q⟩
 | _=>exact hd.elim
def xf5 (i:Nat)(db:DE):DE:=fun τ KK=>match nth τ i with | .ow ts=>db τ fun y=>xh5 (.lst ts) y KK | _=>False
theorem oU (hb:OkE K true tb db):OkF K (tOp xhB (sZ i) tb) (xf5 i db):=fun B φ σ τ H Q KK R hd q=>by
 have en:=R.ent i
 unfold xf5 at hd
 revert en hd
 cases hi:nth τ i with
 | ow ts =>
  intro hd ⟨a,ws,e1,e2,e3,e4,r⟩
  refine⟨_,e1,hb B φ σ τ H _ _ R hd fun u w H2 x2 k2 r2=>?_⟩
  obtain⟨ws',e4',r',_⟩:=v8 R x2 hi e1
  cases u with
  | lst us =>
   obtain⟨a2,ws2,e2,n2,ha2,rl2⟩:=r2
   exact⟨a,a2,ws',ws2,rfl,e2,e4',ha2,by rw[←r'.len,←rl2.len];exact k2.1,fun p hp=>q _ _ _ _ (x2.trans (HX.new (R.hx x2) hp _)) k2.2 (x2.none hp) xZ (jG hp (r'.app rl2))⟩
  | _=>exact k2.elim
 | _=>exact fun z _=>z.elim
end
theorem xU {b:Bool}{A B:Prop}(h1:b=true→A)(h0:b=false→B):if b=true then A else B:=by
 cases b with
 | true=>exact lV (h1 rfl)
 | false=>exact bV (h0 rfl)
end L2
namespace Pol
abbrev R3:=Int×Int×Int
def val (r p:R3):Int:=r.1*p.1+r.2.1*p.2.1-r.2.2*p.2.2
def det (u v w:R3):Int:=u.1*(v.2.1*w.2.2-v.2.2*w.2.1)-u.2.1*(v.1*w.2.2-v.2.2*w.1)+u.2.2*(v.1*w.2.1-v.2.1*w.1)
def add (u v:R3):R3:=(u.1+v.1,u.2.1+v.2.1,u.2.2+v.2.2)
def mul (k:Int)(u:R3):R3:=(k*u.1,k*u.2.1,k*u.2.2)
theorem ext3 {u v:R3}(h1:u.1=v.1)(h2:u.2.1=v.2.1)(h3:u.2.2=v.2.2):u=v:=Prod.ext h1 (Prod.ext h2 h3)
theorem val_add (r p q:R3):val r (add p q)=val r p+val r q:=by simp only[val,add];grind
theorem val_mul (r p:R3)(k:Int):val r (mul k p)=k*val r p:=by simp only[val,mul];grind
theorem wO (u v w:R3):det u v w=det v w u:=by simp only[det];grind
theorem aF (u v w:R3):det u w v = - det u v w:=by simp only[det];grind
theorem vW (u v:R3):det u v v=0:=by simp only[det];grind
theorem qI (u v:R3):det u u v=0:=by simp only[det];grind
theorem qz (u v:R3):det u v u=0:=by simp only[det];grind
theorem aW (u v p q:R3):det u v (add p q)=det u v p+det u v q:=by simp only[det,add];grind
theorem qb (u v p:R3)(k:Int):det u v (mul k p)=k*det u v p:=by simp only[det,mul];grind
theorem four (r a b c d:R3):det b c d*val r a+det a b d*val r c=det a c d*val r b+det a b c*val r d:=by simp only[det,val];grind
theorem xd3 (u v w p:R3):mul (det u v w) p=add (mul (det p v w) u) (add (mul (det u p w) v) (mul (det u v p) w)):=by
 apply ext3<;>simp only[det,mul,add]<;>grind
theorem xdu (r u w z p:R3)(hu:val r u=0)(hw:val r w=0):val r p*det u w z=val r z*det u w p:=by
 have h:=xlN (val r) (xd3 u w z p)
 rw[val_mul,val_add,val_add,val_mul,val_mul,val_mul,hu,hw] at h
 rw[xj1 (val r p)]
 rw[h];grind
theorem pp {a b:Int}(h:0<a)(k:0<b):0<a*b:=xj_ h k
theorem pz {a b:Int}(h:0≤a)(k:0≤b):0≤a*b:=Int.mul_nonneg h k
theorem pn {a b:Int}(h:0≤a)(k:b≤0):a*b≤0:=Int.mul_nonpos_of_nonneg_of_nonpos h k
theorem np {a b:Int}(h:a≤0)(k:0≤b):a*b≤0:=Int.mul_nonpos_of_nonpos_of_nonneg h k
theorem nn {a b:Int}(h:a≤0)(k:b≤0):0≤a*b:=Int.mul_nonneg_of_nonpos_of_nonpos h k
theorem wt {a b:Int}(h:0<a)(k:0<a*b):0<b:=by
 rcases xjZ 0 b with z | z
 ·exact z
 ·have:=pn (xjV h) z;omega
theorem zw {a b:Int}(h:0<a)(k:0≤a*b):0≤b:=by
 rcases xjZ b 0 with z | z
 ·have:=xj9 h z;omega
 ·exact z
theorem my {a b:Int}(h:0<a)(k:a*b≤0):b≤0:=by
 rcases xjZ 0 b with z | z
 ·have:=pp h z;omega
 ·exact z
theorem sL {a b:Int}(h:0<a)(k:a*b=0):b=0:=(xj4.mp k).resolve_left (by omega)
inductive Cn (l:List R3):R3→Prop
 | zero:Cn l (0,0,0)
 | mem {v}:v∈l→Cn l v
 | add {p q}:Cn l p→Cn l q→Cn l (add p q)
theorem Cn.nsmul {l:List R3}{p:R3}(h:Cn l p):∀k:Nat,Cn l (mul k p)
 | 0=>by
  have:mul ((0:Nat):Int) p=(0,0,0):=by apply ext3<;>simp[mul]
  rw[this];exact .zero
 | k+1=>by
  have:mul ((k+1:Nat):Int) p=Pol.add (mul k p) p:=by apply ext3<;>simp only[mul,Pol.add]<;>grind
  rw[this];exact(h.nsmul k).add h
theorem Cn.smul (h:Cn l p)(hk:0≤k):Cn l (mul k p):=by
 have:=h.nsmul k.toNat
 rwa [Int.toNat_of_nonneg hk] at this
theorem Cn.mono (h:Cn l p)(hl:∀v∈l,Cn l' v):Cn l' p:=by
 induction h with
 | zero=>exact .zero
 | mem m=>exact hl _ m
 | add _ _ h1 h2=>exact h1.add h2
theorem Cn.lin (h:Cn l p)(g:R3→Int)(g0:g (0,0,0)=0)(ga:∀p q,g (Pol.add p q)=g p+g q)(hl:∀v∈l,0≤g v):0≤g p:=by
 induction h with
 | zero=>omega
 | mem m=>exact hl _ m
 | add _ _ h1 h2=>rw[ga];omega
theorem Cn.valGe (h:Cn l p)(r:R3)(hl:∀v∈l,0≤Pol.val r v):0≤Pol.val r p :=
 h.lin (Pol.val r) (by simp[Pol.val]) (val_add r) hl
theorem Cn.det (h:Cn l p)(u v:R3)(hl:∀w∈l,0≤Pol.det u v w):0≤Pol.det u v p :=
 h.lin (Pol.det u v) (by simp[Pol.det]) (aW u v) hl
theorem Cn.bot {l:List R3}{p:R3}(h:Cn l p)(hl:∀v∈l,0<v.2.2):p=(0,0,0)∨0<p.2.2:=by
 induction h with
 | zero=>exact .inl rfl
 | mem m=>exact .inr (hl _ m)
 | @add p q _ _ h1 h2 =>
  rcases h1 with rfl | h1
  ·have:Pol.add (0,0,0) q=q:=by apply ext3<;>simp[Pol.add]
   rw[this];exact h2
  ·right
   show 0<p.2.2+q.2.2
   rcases h2 with rfl | h2
   ·simpa using h1
   ·omega
theorem Cn.zeros (h:Cn l p)(r:R3)(hl:∀v∈l,0≤Pol.val r v)(h0:Pol.val r p≤0):Cn (l.filter fun v=>Pol.val r v=0) p:=by
 induction h with
 | zero=>exact .zero
 | @mem v m=>exact .mem (xk8.mpr ⟨m,by have:=hl v m;simp;omega⟩)
 | @add p q hp hq h1 h2 =>
  rw[val_add] at h0
  have a:=hp.valGe r hl
  have b:=hq.valGe r hl
  exact(h1 (by omega)).add (h2 (by omega))
theorem Cn.pair {u v p:R3}(h:Cn [u,v] p):∃a b:Int,0≤a∧0≤b∧p=Pol.add (mul a u) (mul b v):=by
 induction h with
 | zero=>exact⟨0,0,by omega,by omega,by apply ext3<;>simp[Pol.add,mul]⟩
 | mem m =>
  simp only[xk5,xlk,xlW] at m
  rcases m with rfl | rfl
  ·exact⟨1,0,by omega,by omega,by apply ext3<;>simp[Pol.add,mul]⟩
  ·exact⟨0,1,by omega,by omega,by apply ext3<;>simp[Pol.add,mul]⟩
 | add _ _ h1 h2 =>
  obtain⟨a,b,a0,b0,rfl⟩:=h1
  obtain⟨c,d,c0,d0,rfl⟩:=h2
  exact⟨a+c,b+d,by omega,by omega,by apply ext3<;>simp only[Pol.add,mul]<;>grind⟩
def InC (l:List R3)(p:R3):Prop:=∃m:Int,0<m∧Cn l (mul m p)
structure Ccw (l:List R3):Prop where
 tri:∀u v w:R3,List.Sublist [u,v,w] l→0<det u v w
 nd:l.Nodup
theorem xd5 (h:[u,v,w]=l1++l2):(l1=[]∧l2=[u,v,w])∨(l1=[u]∧l2=[v,w])∨(l1=[u,v]∧l2=[w])∨(l1=[u,v,w]∧l2=[]):=by
 cases l1 with
 | nil=>exact .inl ⟨rfl,h.symm⟩
 | cons a t =>
  injection h with h1 h2
  subst h1
  cases t with
  | nil=>exact .inr (.inl ⟨rfl,h2.symm⟩)
  | cons b t =>
   injection h2 with h1 h2
   subst h1
   cases t with
   | nil=>exact .inr (.inr (.inl ⟨rfl,h2.symm⟩))
   | cons c t =>
    injection h2 with h1 h2
    subst h1
    have:=List.append_eq_nil_iff.mp h2.symm
    rw[this.1,this.2]
    exact .inr (.inr (.inr ⟨rfl,rfl⟩))
theorem Ccw.rot (h:Ccw (a++b)):Ccw (b++a):=by
 refine⟨fun u v w s=>?_,?_⟩
 ·obtain⟨l1,l2,e,s1,s2⟩:=xlo.mp s
  have s3:=List.Sublist.append s2 s1
  rcases xd5 e with ⟨rfl,rfl⟩ | ⟨rfl,rfl⟩ | ⟨rfl,rfl⟩ | ⟨rfl,rfl⟩
  ·exact h.tri _ _ _ (by simpa using s3)
  ·have:=h.tri _ _ _ (show List.Sublist [v,w,u] (a++b) by simpa using s3)
   rw[wO];exact this
  ·have:=h.tri _ _ _ (show List.Sublist [w,u,v] (a++b) by simpa using s3)
   rw[←wO];exact this
  ·exact h.tri _ _ _ (by simpa using s3)
 ·have:=h.nd
  rw[xli] at this ⊢
  exact⟨this.2.1,this.1,fun x hx y hy e=>this.2.2 y hy x hx e.symm⟩
theorem Ccw.alt {l:List R3}(h:Ccw l)(r:R3){a b c d:R3}(s:List.Sublist [a,b,c,d] l):¬(0<val r a∧val r b≤0∧0<val r c∧val r d≤0)∧¬(val r a≤0∧0<val r b∧val r c≤0∧0<val r d):=by
 have h1:=h.tri b c d (xkf (List.Sublist.cons _ (xke _)) s)
 have h2:=h.tri a b d (xkf (by simp) s)
 have h3:=h.tri a c d (xkf (by simp) s)
 have h4:=h.tri a b c (xkf (by simp) s)
 have e:=four r a b c d
 constructor
 ·rintro⟨x1,x2,x3,x4⟩
  have:=pp h1 x1
  have:=pp h2 x3
  have:=pn (xjV h3) x2
  have:=pn (xjV h4) x4
  omega
 ·rintro⟨x1,x2,x3,x4⟩
  have:=pn (xjV h1) x1
  have:=pn (xjV h2) x3
  have:=pp h3 x2
  have:=pp h4 x4
  omega
theorem bI (f:R3→Bool):∀l:List R3,l=l.takeWhile f++l.dropWhile f:=fun l=>(List.takeWhile_append_dropWhile (p:=f) (l:=l)).symm
theorem xb5:∀ {l:List R3},x∈l.takeWhile f→f x=true:=fun {l} h=>by
 induction l with
 | nil=>simp at h
 | cons a t ih =>
  rw[List.takeWhile_cons] at h
  split at h
  ·rcases xk5.mp h with rfl | h
   ·assumption
   ·exact ih h
  ·simp at h
theorem bD:∀ {l:List R3},l.dropWhile f=x::t→f x=false:=fun {l} h=>by
 induction l with
 | nil=>simp at h
 | cons a l ih =>
  rw[List.dropWhile_cons] at h
  split at h
  ·exact ih h
  ·rename_i hn
   injection h with h1 h2
   subst h1
   simpa using hn
theorem Ccw.parts (h:Ccw l)(r:R3):∃a b P Q,l=a++b∧b++a=P++Q∧(∀v∈P,0<val r v)∧∀v∈Q,val r v≤0:=by
 have e1:=bI (fun v=>decide (val r v≤0)) l
 have m1:∀v∈l.takeWhile fun v=>decide (val r v≤0),val r v≤0:=fun v hv=>xlV (xb5 hv)
 revert e1 m1
 generalize l.takeWhile (fun v=>decide (val r v≤0))=N1
 cases hd:l.dropWhile (fun v=>decide (val r v≤0)) with
 | nil =>
  intro e1 m1
  rw[xkn] at e1
  exact⟨[],l,[],l,rfl,by simp,fun v hv=>absurd hv (by simp),fun v hv=>m1 v (e1▸hv)⟩
 | cons p R =>
  intro e1 m1
  have hp:0<val r p:=by
   have:=bD hd
   have:=xlU this
   omega
  have e2:=bI (fun v=>decide (0<val r v)) R
  have m2:∀v∈R.takeWhile fun v=>decide (0<val r v),0<val r v:=fun v hv=>xlV (xb5 hv)
  revert e2 m2
  generalize R.takeWhile (fun v=>decide (0<val r v))=P1
  cases hd2:R.dropWhile (fun v=>decide (0<val r v)) with
  | nil =>
   intro e2 m2
   rw[xkn] at e2
   subst e2
   refine⟨N1,p::R,p::R,N1,e1,rfl,fun v hv=>?_,m1⟩
   rcases xk5.mp hv with rfl | hv
   ·exact hp
   ·exact m2 v hv
  | cons q S =>
   intro e2 m2
   have hq:val r q≤0:=by
    have:=bD hd2
    have:=xlU this
    omega
   have mp:∀v∈p::P1,0<val r v:=fun v hv=>by
    rcases xk5.mp hv with rfl | hv
    ·exact hp
    ·exact m2 v hv
   cases N1 with
   | cons n0 N =>
    refine⟨n0::N,p::R,p::P1,q::S++(n0::N),e1,by rw[e2];simp,mp,fun v hv=>?_⟩
    rcases xk2.mp hv with hv | hv
    ·rcases xk5.mp hv with rfl | hv
     ·exact hq
     ·rcases xjZ 0 (val r v) with z | z
      ·exfalso
       have s:List.Sublist [n0,p,q,v] l:=by
        rw[e1,e2]
        have s1:List.Sublist [v] S:=xlm.mpr hv
        have s2:List.Sublist [q,v] (q::S):=s1.cons_cons q
        have s3:List.Sublist [q,v] (P1++q::S):=s2.trans (xlp _ _)
        have s4:List.Sublist [p,q,v] (p::(P1++q::S)):=s3.cons_cons p
        have s5:List.Sublist [n0] (n0::N):=xlm.mpr xk7
        exact s5.append s4
       exact(h.alt r s).2 ⟨m1 n0 xk7,hp,hq,z⟩
      ·exact z
    ·exact m1 v hv
   | nil =>
    have e3:=bI (fun v=>decide (val r v≤0)) S
    have m3:∀v∈S.takeWhile fun v=>decide (val r v≤0),val r v≤0:=fun v hv=>xlV (xb5 hv)
    have hd3:∀v∈S.dropWhile (fun v=>decide (val r v≤0)),0<val r v:=fun v hv=>by
     cases hc:S.dropWhile (fun v=>decide (val r v≤0)) with
     | nil=>rw[hc] at hv;simp at hv
     | cons p2 S2 =>
      have hp2:0<val r p2:=by
       have:=bD hc
       have:=xlU this
       omega
      rw[hc] at hv
      rcases xk5.mp hv with rfl | hv
      ·exact hp2
      ·rcases xjZ 0 (val r v) with z | z
       ·exact z
       ·exfalso
        have s:List.Sublist [p,q,p2,v] l:=by
         rw[e1,xlh,e2,e3,hc]
         have s1:List.Sublist [v] S2:=xlm.mpr hv
         have s2:List.Sublist [p2,v] (p2::S2):=s1.cons_cons p2
         have s3:=s2.trans (xlp (S.takeWhile fun v=>decide (val r v≤0)) _)
         have s4:=s3.cons_cons q
         have s5:=s4.trans (xlp P1 _)
         exact s5.cons_cons p
        exact(h.alt r s).1 ⟨hp,hq,hp2,z⟩
    refine⟨p::P1++q::S.takeWhile (fun v=>decide (val r v≤0)),S.dropWhile (fun v=>decide (val r v≤0)),S.dropWhile (fun v=>decide (val r v≤0))++p::P1,q::S.takeWhile (fun v=>decide (val r v≤0)),?_,?_,fun v hv=>?_,fun v hv=>?_⟩
    ·rw[e1,xlh,e2]
     conv=>lhs;rw[e3]
     simp
    ·simp
    ·rcases xk2.mp hv with hv | hv
     ·exact hd3 v hv
     ·exact mp v hv
    ·rcases xk5.mp hv with rfl | hv
     ·exact hq
     ·exact m3 v hv
end Pol
namespace Pol
def xm:R3→List R3→R3
 | p,[]=>p
 | _,x::xs=>xm x xs
theorem vq (u v w:R3):det u v w=det w u v:=by simp only[det];grind
theorem xcV (u v w:R3):det u v w = - det v u w:=by simp only[det];grind
theorem dJ (p q:R3):∀(xs ys:List R3),xm p (xs++q::ys)=xm q ys
 | [],_=>rfl
 | x::xs,ys=>dJ x q xs ys
theorem ao (p q:R3)(xs:List R3):xm p (xs++[q])=q:=dJ p q xs []
theorem yk (p:R3):∀(xs:List R3),xm p xs∈p::xs
 | []=>by simp[xm]
 | x::xs=>xk6 _ (yk x xs)
theorem fm (p:R3):∀(xs:List R3),∃ys,p::xs=ys++[xm p xs]
 | []=>⟨[],rfl⟩
 | x::xs=>by
  obtain⟨ys,e⟩:=fm x xs
  exact⟨p::ys,xlN (p::·) e⟩
def chain:R3→List R3→List (R3×R3)
 | _,[]=>[]
 | p,x::xs=>(p,x)::chain x xs
theorem jM (p:R3):∀(xs ys:List R3),chain p (xs++ys)=chain p xs++chain (xm p xs) ys
 | [],_=>rfl
 | x::xs,ys=>by
  show(p,x)::chain x (xs++ys)=(p,x)::(chain x xs++chain (xm x xs) ys)
  rw[jM x xs ys]
def cyc:List R3→List (R3×R3)
 | []=>[]
 | x::xs=>chain (xm x xs) (x::xs)
theorem gc:cyc ((x::xs)++(y::ys))=chain (xm y ys) (x::xs)++chain (xm x xs) (y::ys):=by
 show chain (xm x (xs++y::ys)) ((x::xs)++(y::ys))=_
 rw[dJ,jM];rfl
theorem xa7 (a b:List R3):∃c d,cyc (a++b)=c++d∧cyc (b++a)=d++c:=by
 cases a with
 | nil=>exact⟨[],cyc b,by simp,by simp⟩
 | cons x xs =>
  cases b with
  | nil=>exact⟨[],cyc (x::xs),by simp,by simp⟩
  | cons y ys=>exact⟨_,_,gc,gc⟩
theorem cB (h:p∈cyc (b++a)):p∈cyc (a++b):=by
 obtain⟨c,d,e1,e2⟩:=xa7 a b
 rw[e2] at h
 rw[e1]
 exact xk2.mpr ((xk2.mp h).symm)
theorem jz:∀ {p:R3} {l:List R3},(x,y)∈chain p l→∃s t,p::l=s++x::y::t
 | _,[],h=>by simp[chain] at h
 | p,z::l,h=>by
  rcases xk5.mp h with e | h
  ·injection e with e1 e2
   subst e1 e2
   exact⟨[],l,rfl⟩
  ·obtain⟨s,t,e⟩:=jz h
   exact⟨p::s,t,by rw[e];rfl⟩
theorem dM:∀ {s:List R3} {p:R3} {l t:List R3},p::l=s++x::y::t→(x,y)∈chain p l
 | [],p,l,t,h=>by
  injection h with h1 h2
  subst h1 h2
  exact xk7
 | a::s,p,l,t,h=>by
  injection h with h1 h2
  subst h1
  cases l with
  | nil=>cases s<;>cases h2
  | cons z l=>exact xk6 _ (dM (s:=s) h2)
theorem Ccw.edge (h:Ccw l)(he:(u,v)∈cyc l)(hw:w∈l):0≤det u v w:=by
 cases l with
 | nil=>simp at hw
 | cons x xs =>
  have he:(u,v)∈(xm x xs,x)::chain x xs:=he
  rcases xk5.mp he with e | he
  ·injection e with e1 e2
   subst e1 e2
   obtain⟨ys,e⟩:=fm v xs
   generalize xm v xs=L at e ⊢
   cases ys with
   | nil =>
    injection e with e1 e2
    rw[←e1,qI];exact xjX _
   | cons y ys =>
    injection e with e1 e2
    subst e1
    have e2:xs=ys++[L]:=e2
    rw[e2] at hw
    rcases xk5.mp hw with rfl | hw
    ·rw[vW];exact xjX _
    ·rcases xk2.mp hw with hw | hw
     ·have:=h.tri v w L (by
       rw[e2]
       exact((xlm.mpr hw).append (xke [L])).cons_cons v)
      rw[vq] at this;exact xjV this
     ·have:w=L:=by simpa using hw
      rw[this,qz];exact xjX _
  ·obtain⟨s,t,e⟩:=jz he
   rw[e] at hw
   rcases xk2.mp hw with hw | hw
   ·have:=h.tri w u v (by
     rw[e]
     exact(xlm.mpr hw).append ((xke [u,v]).trans (by simp)))
    rw[wO] at this;omega
   ·rcases xk5.mp hw with rfl | hw
    ·rw[qz];exact xjX _
    ·rcases xk5.mp hw with rfl | hw
     ·rw[vW];exact xjX _
     ·have:=h.tri u v w (by
       rw[e]
       exact((((xlm.mpr hw).cons_cons v).cons_cons u)).trans (xlp s _))
      omega
theorem fan (x:R3)(p:R3):∀(y:R3) (ys:List R3),(∀u v,(u,v)∈chain y ys→0<det x u v∧0≤det u v p)→0≤det x y p→det x (xm y ys) p≤0→ys≠[]→∃u v,(u,v)∈chain y ys∧0≤det x u p∧det x v p≤0
 | y,[],_,_,_,h=>absurd rfl h
 | y,z::ys,hc,h0,h1,_=>by
  rcases xjZ 0 (det x z p) with c | c
  ·cases ys with
   | nil=>exact absurd h1 (by show ¬det x z p≤0;omega)
   | cons a ys =>
    obtain⟨u,v,m,h2,h3⟩:=fan x p z (a::ys) (fun u v m=>hc u v (xk6 _ m)) (xjV c) h1 (by simp)
    exact⟨u,v,xk6 _ m,h2,h3⟩
  ·exact⟨y,z,xk7,h0,c⟩
theorem Ccw.incone (h:Ccw l)(h3:3≤l.length)(hp:∀u v,(u,v)∈cyc l→0≤det u v p):InC l p:=by
 match l,h,h3,hp with
 | x::y::z::t,h,_,hp =>
  have he:∀u v,(u,v)∈chain y (z::t)→0<det x u v∧0≤det u v p:=fun u v m=>by
   obtain⟨s,s2,e⟩:=jz m
   refine⟨h.tri x u v ?_,hp u v (xk6 _ (xk6 _ m))⟩
   rw[e]
   exact(((xke [u,v]).trans (show List.Sublist [u,v] (u::v::s2) by simp)).trans (xlp s _)).cons_cons x
  have h0:0≤det x y p:=hp x y (xk6 _ xk7)
  have h1:0≤det (xm x (y::z::t)) x p:=hp _ _ xk7
  have h1':det x (xm y (z::t)) p≤0:=by
   have e:det x (xm y (z::t)) p = - det (xm x (y::z::t)) x p:=xcV _ _ _
   omega
  obtain⟨u,v,m,h2,h3⟩:=fan x p y (z::t) he h0 h1' (by simp)
  obtain⟨d1,d2⟩:=he u v m
  have mem:∀w,w=u∨w=v→w∈x::y::z::t:=fun w hw=>by
   obtain⟨s,s2,e⟩:=jz m
   have:w∈y::z::t:=by
    rw[e]
    rcases hw with rfl | rfl<;>simp
   exact xk6 _ this
  refine⟨det x u v,d1,?_⟩
  rw[xd3 x u v p]
  have c1:0≤det p u v:=by rw[wO];exact d2
  have c2:0≤det x p v:=by rw[aF];omega
  exact((Cn.mem xk7).smul c1).add (((Cn.mem (mem u (.inl rfl))).smul c2).add ((Cn.mem (mem v (.inr rfl))).smul h2))
end Pol
namespace Pol
def turn (r s:R3):Int:=r.1*s.2.1-r.2.1*s.1
def uW (w:R3):Nat:=Int.gcd (Int.gcd w.1 w.2.1:Int) w.2.2
def red (w:R3):R3:=(w.1 / uW w,w.2.1 / uW w,w.2.2 / uW w)
theorem pe (w:R3):(uW w:Int) ∣ w.1∧(uW w:Int) ∣ w.2.1∧(uW w:Int) ∣ w.2.2:=by
 have h1:(uW w:Int) ∣ (Int.gcd w.1 w.2.1:Int):=Int.gcd_dvd_left ..
 exact⟨Int.dvd_trans h1 (Int.gcd_dvd_left ..),Int.dvd_trans h1 (Int.gcd_dvd_right ..),Int.gcd_dvd_right ..⟩
theorem xc1 (h1:d ∣ w.1)(h2:d ∣ w.2.1)(h3:d ∣ w.2.2):d ∣ (uW w:Int):=xjN (xjN h1 h2) h3
theorem kA (h:0<w.2.2):0<(uW w:Int):=by
 have:=xjU (Int.gcd w.1 w.2.1:Int) (show w.2.2≠0 by omega)
 unfold uW;omega
theorem rY:mul (uW w) (red w)=w:=by
 obtain⟨h1,h2,h3⟩:=pe w
 exact ext3 (xj3 h1) (xj3 h2) (xj3 h3)
theorem xbe (h:0<w.2.2):0<(red w).2.2:=by
 have e:(uW w:Int)*(red w).2.2=w.2.2:=xlN (·.2.2) (rY (w:=w))
 exact wt (kA h) (by rw[e];exact h)
theorem xcW (h:0<w.2.2):uW (red w)=1:=by
 obtain⟨h1,h2,h3⟩:=pe (red w)
 have g:=kA h
 have d:(uW w:Int)*(uW (red w):Int) ∣ (uW w:Int):=by
  have e:=rY (w:=w)
  refine xc1 ?_ ?_ ?_
  ·conv=>rhs;rw[←e]
   exact xj2 _ h1
  ·conv=>rhs;rw[←e]
   exact xj2 _ h2
  ·conv=>rhs;rw[←e]
   exact xj2 _ h3
 have d2:(uW (red w):Int) ∣ 1:=by
  have:(uW w:Int)*(uW (red w):Int) ∣ (uW w:Int)*1:=by rw[Int.mul_one];exact d
  exact Int.dvd_of_mul_dvd_mul_left (by omega) this
 have:=Int.le_of_dvd (by decide) d2
 have p:=kA (xbe h)
 omega
theorem gD (hg:uW v=1)(hz:0<v.2.2)(hs:val s v=0)(ht:val t v=0)(hn:turn s t≠0) :
  v.2.2≤(turn s t).natAbs∧v.1.natAbs≤(s.2.2*t.2.1-t.2.2*s.2.1).natAbs∧v.2.1.natAbs≤(t.2.2*s.1-s.2.2*t.1).natAbs:=by
 have e1:turn s t*v.1=v.2.2*(s.2.2*t.2.1-t.2.2*s.2.1):=by
  have:turn s t*v.1=v.2.2*(s.2.2*t.2.1-t.2.2*s.2.1)+t.2.1*val s v-s.2.1*val t v:=by simp only[turn,val];grind
  rw[hs,ht] at this;rw[this];grind
 have e2:turn s t*v.2.1=v.2.2*(t.2.2*s.1-s.2.2*t.1):=by
  have:turn s t*v.2.1=v.2.2*(t.2.2*s.1-s.2.2*t.1)+s.1*val t v-t.1*val s v:=by simp only[turn,val];grind
  rw[hs,ht] at this;rw[this];grind
 have dv:v.2.2 ∣ turn s t:=by
  have h1:v.2.2 ∣ turn s t*v.1:=⟨_,e1⟩
  have h2:v.2.2 ∣ turn s t*v.2.1:=⟨_,e2⟩
  have h3:v.2.2 ∣ turn s t*v.2.2:=Int.dvd_mul_left ..
  have g12:v.2.2 ∣ turn s t*(Int.gcd v.1 v.2.1:Int):=by
   have:=xjN h1 h2
   rw[xjT] at this
   have h4:((turn s t).natAbs*Int.gcd v.1 v.2.1:Nat)=((turn s t*(Int.gcd v.1 v.2.1:Int)).natAbs:Nat):=by rw[xka];rfl
   rw[h4] at this
   exact xjO.mp this
  have g3:=xjN g12 h3
  rw[xjT] at g3
  have hg':Int.gcd (Int.gcd v.1 v.2.1:Int) v.2.2=1:=hg
  rw[hg',Nat.mul_one] at g3
  exact xjO.mp g3
 have zl:v.2.2≤(turn s t).natAbs:=by
  have h:=Int.le_of_dvd (show(0:Int)<((turn s t).natAbs:Int) by omega) (xjO.mpr dv)
  exact h
 refine⟨zl,?_,?_⟩
 ·have h:=xlN Int.natAbs e1
  rw[xka,xka] at h
  rcases Nat.lt_or_ge (s.2.2*t.2.1-t.2.2*s.2.1).natAbs v.1.natAbs with c | c
  ·exfalso
   have h1:v.2.2.natAbs≤(turn s t).natAbs:=by omega
   have h2:0<v.2.2.natAbs:=by omega
   have h3:v.2.2.natAbs*(s.2.2*t.2.1-t.2.2*s.2.1).natAbs<v.2.2.natAbs*v.1.natAbs:=Nat.mul_lt_mul_of_pos_left c h2
   have h4:v.2.2.natAbs*v.1.natAbs≤(turn s t).natAbs*v.1.natAbs:=xlF _ h1
   omega
  ·exact c
 ·have h:=xlN Int.natAbs e2
  rw[xka,xka] at h
  rcases Nat.lt_or_ge (t.2.2*s.1-s.2.2*t.1).natAbs v.2.1.natAbs with c | c
  ·exfalso
   have h1:v.2.2.natAbs≤(turn s t).natAbs:=by omega
   have h2:0<v.2.2.natAbs:=by omega
   have h3:v.2.2.natAbs*(t.2.2*s.1-s.2.2*t.1).natAbs<v.2.2.natAbs*v.2.1.natAbs:=Nat.mul_lt_mul_of_pos_left c h2
   have h4:v.2.2.natAbs*v.2.1.natAbs≤(turn s t).natAbs*v.2.1.natAbs:=xlF _ h1
   omega
  ·exact c
def abs (i:Int):Int:=if i<0 then -i else i
def cw (r u v:R3):R3:=add (mul (abs (val r v)) u) (mul (abs (val r u)) v)
def xo (r u v:R3):R3:=red (cw r u v)
theorem xch (r u v:R3):cw r u v=cw r v u:=by apply ext3<;>simp only[cw,add]<;>omega
structure Bt (u v x:R3)(a b g:Int):Prop where
 pa:0<a
 pb:0<b
 pg:0<g
 e:mul g x=add (mul a u) (mul b v)
theorem kF (hu:0<u.2.2)(hv:0<v.2.2)(h:val r u*val r v<0):Bt u v (xo r u v) (abs (val r v)) (abs (val r u)) (uW (cw r u v))∧val r (xo r u v)=0∧0<(xo r u v).2.2∧uW (xo r u v)=1:=by
 have sg:(val r u<0∧0<val r v)∨(0<val r u∧val r v<0):=by
  rcases xj0 (val r u) 0 with c | c | c
  ·rcases xjZ 0 (val r v) with d | d
   ·exact .inl ⟨c,d⟩
   ·have:=nn (xjV c) d;omega
  ·rw[c] at h;simp at h
  ·rcases xjZ (val r v) 0 with d | d
   ·exact .inr ⟨c,d⟩
   ·have:=pz (xjV c) d;omega
 have p1:0<abs (val r v):=by unfold abs;split<;>omega
 have p2:0<abs (val r u):=by unfold abs;split<;>omega
 have hz:0<(cw r u v).2.2:=by
  show 0<abs (val r v)*u.2.2+abs (val r u)*v.2.2
  have:=pp p1 hu
  have:=pp p2 hv
  omega
 have v0:val r (cw r u v)=0:=by
  unfold cw
  rw[val_add,val_mul,val_mul]
  rcases sg with ⟨c,d⟩ | ⟨c,d⟩
  ·have e1:abs (val r v)=val r v:=by unfold abs;rw[if_neg (by omega)]
   have e2:abs (val r u) = - val r u:=by unfold abs;rw[if_pos c]
   rw[e1,e2];grind
  ·have e1:abs (val r v) = - val r v:=by unfold abs;rw[if_pos d]
   have e2:abs (val r u)=val r u:=by unfold abs;rw[if_neg (by omega)]
   rw[e1,e2];grind
 refine⟨⟨p1,p2,kA hz,rY⟩,?_,xbe hz,xcW hz⟩
 have:=xlN (val r) (rY (w:=cw r u v))
 rw[val_mul,v0] at this
 exact sL (kA hz) this
theorem Bt.val (h:Bt u v x a b g)(r:R3):g*Pol.val r x=a*Pol.val r u+b*Pol.val r v:=by
 have:=xlN (Pol.val r) h.e
 rwa [val_mul,val_add,val_mul,val_mul] at this
theorem Bt.det (h:Bt u v x a b g)(p q:R3):g*Pol.det p q x=a*Pol.det p q u+b*Pol.det p q v:=by
 have:=xlN (Pol.det p q) h.e
 rwa [qb,aW,qb,qb] at this
theorem Bt.kept (h:Bt u v x a b g)(hu:Pol.val r u≤0)(hv:Pol.val r v≤0):Pol.val r x≤0:=by
 have:=h.val r
 have:=pn (xjV h.pa) hu
 have:=pn (xjV h.pb) hv
 exact my h.pg (by omega)
theorem Bt.tight (h:Bt u v x a b g)(hu:Pol.val r u=0)(hv:Pol.val r v=0):Pol.val r x=0:=by
 have:=h.val r
 rw[hu,hv] at this
 exact sL h.pg (by omega)
theorem unlike (hs:s.1≠0∨s.2.1≠0)(hu:0<u.2.2)(hv:0<v.2.2)(su:val s u=0)(sv:val s v=0)(h:val r u*val r v<0):turn s r≠0:=by
 intro z
 have e:s.1*(val r u*v.2.2-val r v*u.2.2)=r.1*(val s u*v.2.2-val s v*u.2.2)+turn s r*(u.2.1*v.2.2-v.2.1*u.2.2):=by simp only[val,turn];grind
 have e':s.2.1*(val r u*v.2.2-val r v*u.2.2)=r.2.1*(val s u*v.2.2-val s v*u.2.2)-turn s r*(u.1*v.2.2-v.1*u.2.2):=by simp only[val,turn];grind
 rw[z,su,sv] at e e'
 have k:val r u*v.2.2-val r v*u.2.2=0:=by
  rcases hs with c | c
  ·have e:s.1*(val r u*v.2.2-val r v*u.2.2)=0:=by rw[e];grind
   exact(xj4.mp e).resolve_left c
  ·have e':s.2.1*(val r u*v.2.2-val r v*u.2.2)=0:=by rw[e'];grind
   exact(xj4.mp e').resolve_left c
 rcases xj0 (val r u) 0 with c | c | c
 ·have d:0<val r v:=by
   rcases xjZ 0 (val r v) with d | d
   ·exact d
   ·have:=nn (xjV c) d;omega
  have:=xj8 c hv
  have:=pp d hu
  omega
 ·rw[c] at h;simp at h
 ·have d:val r v<0:=by
   rcases xjZ (val r v) 0 with d | d
   ·exact d
   ·have:=pz (xjV c) d;omega
  have:=xj8 d hu
  have:=pp c hv
  omega
end Pol
namespace Pol
def seg (r:R3)(p:R3×R3):List R3:=(if val r p.1*val r p.2<0 then[xo r p.1 p.2] else[])++(if val r p.2≤0 then[p.2] else[])
def bY (r:R3)(l:List R3):List R3:=(cyc l).flatMap (seg r)
theorem cR (r:R3)(a b:List R3):∃c d,bY r (a++b)=c++d∧bY r (b++a)=d++c:=by
 obtain⟨c,d,e1,e2⟩:=xa7 a b
 exact⟨c.flatMap (seg r),d.flatMap (seg r),by unfold bY;rw[e1,List.flatMap_append],by unfold bY;rw[e2,List.flatMap_append]⟩
theorem fE:∀ {p:R3} {P:List R3},0<val r p→(∀v∈P,0<val r v)→(chain p P).flatMap (seg r)=[]
 | p,[],_,_=>rfl
 | p,x::P,hp,h=>by
  have hx:=h x xk7
  show seg r (p,x)++(chain x P).flatMap (seg r)=[]
  rw[fE hx fun v hv=>h v (xk6 _ hv),xkn]
  unfold seg
  rw[if_neg (show ¬val r p*val r x<0 by have:=pp hp hx;omega),if_neg (show ¬val r x≤0 by omega)];rfl
theorem fN:∀ {p:R3} {Q:List R3},val r p≤0→(∀v∈Q,val r v≤0)→(chain p Q).flatMap (seg r)=Q
 | p,[],_,_=>rfl
 | p,x::Q,hp,h=>by
  have hx:=h x xk7
  show seg r (p,x)++(chain x Q).flatMap (seg r)=x::Q
  rw[fN hx fun v hv=>h v (xk6 _ hv)]
  unfold seg
  rw[if_neg (show ¬val r p*val r x<0 by have:=nn hp hx;omega),if_pos (show val r (p,x).2≤0 from hx)];rfl
def bef (r p q:R3):List R3:=if val r q<0 then[xo r p q] else[]
theorem xgi (hp:0<val r p)(hq:val r q≤0):seg r (p,q)=bef r p q++[q]:=by
 unfold seg bef
 rw[if_pos (show val r (p,q).2≤0 from hq)]
 by_cases c:val r q<0
 ·rw[if_pos c,if_pos (show val r (p,q).1*val r (p,q).2<0 from xj9 hp c)]
 ·rw[if_neg c,if_neg (show ¬val r (p,q).1*val r (p,q).2<0 from by
   have e:val r q=0:=by omega
   show ¬val r p*val r q<0
   rw[e];simp)]
theorem xfi (hp:0<val r p)(hq:val r q≤0):seg r (q,p)=bef r p q:=by
 unfold seg bef
 rw[if_neg (show ¬val r (q,p).2≤0 from by show ¬val r p≤0;omega),xkn]
 by_cases c:val r q<0
 ·rw[if_pos c,if_pos (show val r (q,p).1*val r (q,p).2<0 from xj8 c hp)]
  unfold xo;rw[xch]
 ·rw[if_neg c,if_neg (show ¬val r (q,p).1*val r (q,p).2<0 from by
   have e:val r q=0:=by omega
   show ¬val r q*val r p<0
   rw[e];simp)]
theorem sG (hP:∀v∈p1::P,0<val r v)(hQ:∀v∈q1::Q,val r v≤0) :
  bY r ((p1::P)++(q1::Q))=bef r p1 (xm q1 Q)++(bef r (xm p1 P) q1++q1::Q):=by
 unfold bY
 rw[gc,List.flatMap_append]
 have h1:=hP p1 xk7
 have h2:=hQ q1 xk7
 have h3:=hQ _ (yk q1 Q)
 have h4:=hP _ (yk p1 P)
 have e1:(chain (xm q1 Q) (p1::P)).flatMap (seg r)=bef r p1 (xm q1 Q):=by
  show seg r (xm q1 Q,p1)++(chain p1 P).flatMap (seg r)=_
  rw[fE h1 fun v hv=>hP v (xk6 _ hv),xkn,xfi h1 h3]
 have e2:(chain (xm p1 P) (q1::Q)).flatMap (seg r)=bef r (xm p1 P) q1++q1::Q:=by
  show seg r (xm p1 P,q1)++(chain q1 Q).flatMap (seg r)=_
  rw[fN h2 fun v hv=>hQ v (xk6 _ hv),xgi h4 h2,xkm];rfl
 rw[e1,e2]
structure Good (Ls l:List R3):Prop where
 ccw:Ccw l
 bot:∀v∈l,0<v.2.2
 prim:∀v∈l,uW v=1
 kept:∀v∈l,∀s∈Ls,val s v≤0
 edge:∀u v,(u,v)∈cyc l→u≠v→∃s∈Ls,val s u=0∧val s v=0
 two:∀v∈l,∃s∈Ls,∃t∈Ls,val s v=0∧val t v=0∧turn s t≠0
 all:∀p:R3,0<p.2.2→(∀s∈Ls,val s p≤0)→InC l p
theorem Good.rot (h:Good Ls (a++b)):Good Ls (b++a) where
 ccw:=h.ccw.rot
 bot:=fun v hv=>h.bot v (by simpa [or_comm] using hv)
 prim:=fun v hv=>h.prim v (by simpa [or_comm] using hv)
 kept:=fun v hv=>h.kept v (by simpa [or_comm] using hv)
 edge:=fun u v e=>h.edge u v (cB e)
 two:=fun v hv=>h.two v (by simpa [or_comm] using hv)
 all:=fun p h0 h1=>by
  obtain⟨m,hm,c⟩:=h.all p h0 h1
  exact⟨m,hm,c.mono fun v hv=>.mem (by simpa [or_comm] using hv)⟩
theorem xcI:∀ {l:List R3},List.Sublist [a,b] l→3≤l.length→∃c,List.Sublist [c,a,b] l∨List.Sublist [a,c,b] l∨List.Sublist [a,b,c] l
 | [],_,h=>absurd h (by simp)
 | x::l,s,h=>by
  cases s with
  | cons _ s =>
   exact⟨x,.inl (s.cons_cons x)⟩
  | cons_cons _ s =>
   have hl:2≤l.length:=by simpa using h
   have hb:b∈l:=xlm.mp s
   obtain⟨s1,s2,e⟩:=List.append_of_mem hb
   cases s1 with
   | cons c s1 =>
    refine⟨c,.inr (.inl ?_)⟩
    rw[e]
    have:List.Sublist [c,b] (c::s1++b::s2):=(xlm.mpr xk7).append (xlm.mpr xk7)
    exact this.cons_cons a
   | nil =>
    cases s2 with
    | nil=>rw[e] at hl;simp at hl
    | cons c s2 =>
     refine⟨c,.inr (.inr ?_)⟩
     rw[e]
     simp
theorem gG (h:∀u v w:R3,List.Sublist [u,v,w] l→0<det u v w)(h3:3≤l.length):l.Nodup:=by
 refine List.pairwise_iff_forall_sublist.mpr fun {a b} s e=>?_
 subst e
 obtain⟨c,s | s | s⟩:=xcI s h3
 ·have:=h _ _ _ s;rw[vW] at this;omega
 ·have:=h _ _ _ s;rw[qz] at this;omega
 ·have:=h _ _ _ s;rw[qI] at this;omega
end Pol
namespace Pol
theorem ni (h:P≠[]):List.Sublist [p,xm p P] (p::P):=by
 cases P with
 | nil=>exact absurd rfl h
 | cons y ys=>exact(xlm.mpr (show xm p (y::ys)∈y::ys from yk y ys)).cons_cons p
structure Bw (u v x:R3)(a b g:Int):Prop where
 pa:0≤a
 pb:0<b
 pg:0<g
 e:mul g x=add (mul a u) (mul b v)
theorem Bt.w (h:Bt u v x a b g):Bw u v x a b g:=⟨xjV h.pa,h.pb,h.pg,h.e⟩
theorem Bw.self (u v:R3):Bw u v v 0 1 1:=⟨by omega,by omega,by omega,by apply ext3<;>simp[mul,add]⟩
theorem Bw.det (h:Bw u v x a b g)(p q:R3):g*Pol.det p q x=a*Pol.det p q u+b*Pol.det p q v:=by
 have:=xlN (Pol.det p q) h.e
 rwa [qb,aW,qb,qb] at this
section
variable {Ls P Q:List R3} {r p1 q1:R3}
structure xdP (Ls:List R3)(r p1 q1:R3)(P Q:List R3):Prop where
 good:Good Ls ((p1::P)++(q1::Q))
 hP:∀v∈p1::P,0<val r v
 hQ:∀v∈q1::Q,val r v≤0
 three:P≠[]∨Q≠[]
 dir:∀s∈Ls,s.1≠0∨s.2.1≠0
namespace xdP
variable (S:xdP Ls r p1 q1 P Q)
include S
theorem q1le:val r q1≤0:=S.hQ q1 xk7
theorem qmle:val r (xm q1 Q)≤0:=S.hQ _ (yk q1 Q)
theorem p1gt:0<val r p1:=S.hP p1 xk7
theorem pkgt:0<val r (xm p1 P):=S.hP _ (yk p1 P)
theorem botQ (h:v∈q1::Q):0<v.2.2:=S.good.bot v (xk4 _ h)
theorem botP (h:v∈p1::P):0<v.2.2:=S.good.bot v (xk3 _ h)
theorem pqq (hp:p∈p1::P)(s:List.Sublist [x,y] (q1::Q)):0<det p x y:=S.good.ccw.tri p x y ((xlm.mpr hp).append s)
theorem ppq (hp:List.Sublist [p,p'] (p1::P))(hx:x∈q1::Q):0<det p p' x:=S.good.ccw.tri p p' x (hp.append (xlm.mpr hx))
theorem qqq (s:List.Sublist [x,y,z] (q1::Q)):0<det x y z:=S.good.ccw.tri x y z (s.trans (xlp _ _))
theorem q1xy (s:List.Sublist [x,y] (q1::Q)):0≤det q1 x y:=by
 cases s with
 | cons _ s=>exact xjV (S.qqq (s.cons_cons q1))
 | cons_cons _ s=>rw[qI];exact xjX _
theorem xyqm (s:List.Sublist [x,y] (q1::Q)):0≤det x y (xm q1 Q):=by
 obtain⟨ys,e⟩:=fm q1 Q
 have s':=s
 rw[e] at s'
 obtain⟨l1,l2,e2,s1,s2⟩:=xlo.mp s'
 cases l2 with
 | nil =>
  rw[xkn] at e2
  subst e2
  have:=S.qqq (x:=x) (y:=y) (z:=xm q1 Q) (by rw[e];exact s1.append (xke [xm q1 Q]))
  omega
 | cons b l2 =>
  have hb:b=xm q1 Q∧l2=[]:=by
   cases s2 with
   | cons _ s2=>cases s2
   | cons_cons _ s2=>cases s2;exact⟨rfl,rfl⟩
  obtain⟨hb,rfl⟩:=hb
  have:y=b:=by
   cases l1 with
   | nil=>cases e2
   | cons c l1 =>
    cases l1 with
    | nil=>injection e2 with _ e2;injection e2
    | cons d l1 =>
     injection e2 with _ e2
     injection e2 with _ e2
     simp at e2
  rw[this,hb,vW];exact xjX _
theorem nd:((p1::P)++(q1::Q)).Nodup:=S.good.ccw.nd
theorem p1pkx (hx:x∈q1::Q):0≤det p1 (xm p1 P) x∧(P≠[]→0<det p1 (xm p1 P) x):=by
 by_cases h:P=[]
 ·subst h
  exact⟨by show 0≤det p1 p1 x;rw[qI];exact xjX _,fun z=>absurd rfl z⟩
 ·have:=S.ppq (ni h) hx
  exact⟨by omega,fun _=>this⟩
theorem pq1x (hp:p∈p1::P)(hx:x∈q1::Q):0≤det p q1 x∧(x≠q1→0<det p q1 x):=by
 rcases xk5.mp hx with rfl | hx
 ·exact⟨by rw[vW];exact xjX _,fun z=>absurd rfl z⟩
 ·have:=S.pqq hp ((xlm.mpr hx).cons_cons q1)
  exact⟨by omega,fun _=>this⟩
theorem pxqm (hp:p∈p1::P)(hx:x∈q1::Q):0≤det p x (xm q1 Q)∧(x≠xm q1 Q→0<det p x (xm q1 Q)):=by
 obtain⟨ys,e⟩:=fm q1 Q
 rw[e] at hx
 rcases xk2.mp hx with hx | hx
 ·have:=S.pqq (x:=x) (y:=xm q1 Q) hp (by rw[e];exact(xlm.mpr hx).append (xke [xm q1 Q]))
  exact⟨by omega,fun _=>this⟩
 ·have:x=xm q1 Q:=by simpa using hx
  rw[this]
  exact⟨by rw[vW];exact xjX _,fun z=>absurd rfl z⟩
theorem q1xqm (hx:x∈q1::Q):0≤det q1 x (xm q1 Q):=by
 rcases xk5.mp hx with rfl | hx
 ·rw[qI];exact xjX _
 ·exact S.xyqm ((xlm.mpr hx).cons_cons q1)
theorem q1ne (h:Q≠[]):q1≠xm q1 Q:=by
 have s:=ni (p:=q1) h
 have nd:=(xli.mp S.nd).2.1
 exact List.pairwise_iff_forall_sublist.mp nd s
def w1 (r p1 q1:R3)(P:List R3):R3:=if val r q1<0 then xo r (xm p1 P) q1 else q1
def u1 (r p1 q1:R3)(Q:List R3):R3:=if val r (xm q1 Q)<0 then xo r p1 (xm q1 Q) else xm q1 Q
theorem X1 (h:val r q1<0):Bt (xm p1 P) q1 (xo r (xm p1 P) q1) (abs (val r q1)) (abs (val r (xm p1 P))) (uW (cw r (xm p1 P) q1))∧val r (xo r (xm p1 P) q1)=0∧0<(xo r (xm p1 P) q1).2.2∧uW (xo r (xm p1 P) q1)=1 :=
 kF (S.botP (yk p1 P)) (S.botQ xk7) (xj9 S.pkgt h)
theorem X2 (h:val r (xm q1 Q)<0):Bt p1 (xm q1 Q) (xo r p1 (xm q1 Q)) (abs (val r (xm q1 Q))) (abs (val r p1)) (uW (cw r p1 (xm q1 Q)))∧val r (xo r p1 (xm q1 Q))=0∧0<(xo r p1 (xm q1 Q)).2.2∧uW (xo r p1 (xm q1 Q))=1 :=
 kF (S.botP xk7) (S.botQ (yk q1 Q)) (xj9 S.p1gt h)
theorem w1b:∃a b g,Bw (xm p1 P) q1 (w1 r p1 q1 P) a b g∧(val r q1<0→0<a)∧val r (w1 r p1 q1 P)=0:=by
 unfold w1
 by_cases h:val r q1<0
 ·rw[if_pos h]
  obtain⟨b,z,_⟩:=S.X1 h
  exact⟨_,_,_,b.w,fun _=>b.pa,z⟩
 ·rw[if_neg h]
  exact⟨_,_,_,Bw.self _ _,fun z=>absurd z h,by have:=S.q1le;omega⟩
theorem u1b:∃a b g,Bw p1 (xm q1 Q) (u1 r p1 q1 Q) a b g∧(val r (xm q1 Q)<0→0<a)∧val r (u1 r p1 q1 Q)=0:=by
 unfold u1
 by_cases h:val r (xm q1 Q)<0
 ·rw[if_pos h]
  obtain⟨b,z,_⟩:=S.X2 h
  exact⟨_,_,_,b.w,fun _=>b.pa,z⟩
 ·rw[if_neg h]
  exact⟨_,_,_,Bw.self _ _,fun z=>absurd z h,by have:=S.qmle;omega⟩
theorem close (hc:val r q1<0∨Q≠[])(hp:val r p≤0):0≤det (u1 r p1 q1 Q) (w1 r p1 q1 P) p:=by
 obtain⟨a,b,g,bw,ha,hw⟩:=S.w1b
 obtain⟨c,d,g',bu,hcc,hu⟩:=S.u1b
 have e1:=bu.det p1 (w1 r p1 q1 P)
 rw[qz,Int.mul_zero,Int.zero_add] at e1
 have e2:=bw.det (xm q1 Q) p1
 have d1:det (xm q1 Q) p1 (xm p1 P)=det p1 (xm p1 P) (xm q1 Q):=wO _ _ _
 have d2:det (xm q1 Q) p1 q1=det p1 q1 (xm q1 Q):=wO _ _ _
 rw[d1,d2] at e2
 obtain⟨f1,f2⟩:=S.p1pkx (yk q1 Q)
 obtain⟨f3,f4⟩:=S.pq1x (p:=p1) xk7 (yk q1 Q)
 have k1:0<det (xm q1 Q) p1 (w1 r p1 q1 P):=by
  refine wt bw.pg ?_
  rw[e2]
  have n1:=pz bw.pa f1
  have n2:=pz (xjV bw.pb) f3
  by_cases hq:Q=[]
  ·have hp':P≠[]:=S.three.resolve_right (fun z=>z hq)
   have h0:val r q1<0:=hc.resolve_right (fun z=>z hq)
   have:=pp (ha h0) (f2 hp')
   omega
  ·have:=pp bw.pb (f4 (Ne.symm (S.q1ne hq)))
   omega
 have d3:det p1 (w1 r p1 q1 P) (xm q1 Q)=det (xm q1 Q) p1 (w1 r p1 q1 P):=vq _ _ _
 rw[d3] at e1
 have k2:0<det p1 (w1 r p1 q1 P) (u1 r p1 q1 Q):=by
  refine wt bu.pg ?_
  rw[e1];exact pp bu.pb k1
 have e3:=xdu r (u1 r p1 q1 Q) (w1 r p1 q1 P) p1 p hu hw
 have d4:det (u1 r p1 q1 Q) (w1 r p1 q1 P) p1 = - det p1 (w1 r p1 q1 P) (u1 r p1 q1 Q):=by
  rw[vq,aF]
 rw[d4] at e3
 refine zw S.p1gt ?_
 rw[←e3]
 exact nn hp (by omega)
def left (r p1 q1:R3)(P Q:List R3):List R3:=bef r (xm p1 P) q1++(q1::Q)++bef r p1 (xm q1 Q)
theorem mem_left (h:v∈left r p1 q1 P Q):(v∈q1::Q)∨(val r q1<0∧v=xo r (xm p1 P) q1)∨(val r (xm q1 Q)<0∧v=xo r p1 (xm q1 Q)):=by
 unfold left bef at h
 rcases xk2.mp h with h | h
 ·rcases xk2.mp h with h | h
  ·split at h
   ·exact .inr (.inl ⟨by assumption,by simpa using h⟩)
   ·simp at h
  ·exact .inl h
 ·split at h
  ·exact .inr (.inr ⟨by assumption,by simpa using h⟩)
  ·simp at h
theorem sub_bef (h:List.Sublist l (bef r p q)):l=[]∨(val r q<0∧l=[xo r p q]):=by
 unfold bef at h
 split at h
 ·cases h with
  | cons _ h=>cases h;exact .inl rfl
  | cons_cons _ h=>cases h;exact .inr ⟨by assumption,rfl⟩
 ·cases h;exact .inl rfl
theorem tri (s:List.Sublist [u,v,w] (left r p1 q1 P Q)):0<det u v w:=by
 unfold left at s
 rw[xkm] at s
 obtain⟨l1,l2,e,s1,s2⟩:=xlo.mp s
 obtain⟨l3,l4,e2,s3,s4⟩:=xlo.mp s2
 have b1:=S.sub_bef s1
 have b4:=S.sub_bef s4
 subst e2
 rcases b1 with rfl | ⟨h1,rfl⟩
 ·rcases b4 with rfl | ⟨h4,rfl⟩
  ·have:[u,v,w]=l3:=by simpa using e
   subst this
   exact S.qqq s3
  ·-- q q X2
   obtain⟨bt,_⟩:=S.X2 h4
   have:l3=[u,v]∧w=xo r p1 (xm q1 Q):=by
    rcases xd5 (show[u,v,w]=l3++[xo r p1 (xm q1 Q)] from e) with ⟨_,z⟩ | ⟨_,z⟩ | ⟨z1,z⟩ | ⟨_,z⟩
    ·cases z
    ·cases z
    ·cases z;exact⟨z1,rfl⟩
    ·cases z
   obtain⟨rfl,rfl⟩:=this
   have e3:=bt.det u v
   have k1:0<det u v p1:=by rw[vq];exact S.pqq xk7 s3
   have k2:=S.xyqm s3
   have:=pp bt.pa k1
   have:=pz (xjV bt.pb) k2
   exact wt bt.pg (by omega)
 ·obtain⟨bt,_⟩:=S.X1 h1
  rcases b4 with rfl | ⟨h4,rfl⟩
  ·have:u=xo r (xm p1 P) q1∧l3=[v,w]:=by
    injection e with e1 e2
    exact⟨e1,by simpa using e2.symm⟩
   obtain⟨rfl,rfl⟩:=this
   have e3:=bt.det v w
   have k1:0<det v w (xm p1 P):=by rw[vq];exact S.pqq (yk p1 P) s3
   have k2:0≤det v w q1:=by rw[vq];exact S.q1xy s3
   have:=pp bt.pa k1
   have:=pz (xjV bt.pb) k2
   rw[wO]
   exact wt bt.pg (by omega)
  ·obtain⟨bu,_⟩:=S.X2 h4
   have:u=xo r (xm p1 P) q1∧l3=[v]∧w=xo r p1 (xm q1 Q):=by
    injection e with e1 e
    have e:[v,w]=l3++[xo r p1 (xm q1 Q)]:=e
    cases l3 with
    | nil=>cases e
    | cons a l3 =>
     injection e with e2 e
     cases l3 with
     | nil=>injection e with e3 _;exact⟨e1,by rw[e2],e3⟩
     | cons b l3=>injection e with _ e;simp at e
   obtain⟨rfl,rfl,rfl⟩:=this
   have hv:v∈q1::Q:=xlm.mp s3
   have e3:=bu.det (xo r (xm p1 P) q1) v
   have e4:=bt.det v p1
   have e5:=bt.det v (xm q1 Q)
   have r1:det v p1 (xm p1 P)=det p1 (xm p1 P) v:=wO _ _ _
   have r2:det v p1 q1=det p1 q1 v:=wO _ _ _
   have r3:det v (xm q1 Q) (xm p1 P)=det (xm p1 P) v (xm q1 Q):=vq _ _ _
   have r4:det v (xm q1 Q) q1=det q1 v (xm q1 Q):=vq _ _ _
   rw[r1,r2] at e4
   rw[r3,r4] at e5
   obtain⟨f1,f2⟩:=S.p1pkx hv
   obtain⟨f3,f4⟩:=S.pq1x (p:=p1) xk7 hv
   obtain⟨f5,f6⟩:=S.pxqm (p:=xm p1 P) (yk p1 P) hv
   have f7:=S.q1xqm hv
   have n1:=pz (xjV bt.pa) f1
   have n2:=pz (xjV bt.pb) f3
   have n3:=pz (xjV bt.pa) f5
   have n4:=pz (xjV bt.pb) f7
   have g1:0≤det v p1 (xo r (xm p1 P) q1):=zw bt.pg (by omega)
   have g2:0≤det v (xm q1 Q) (xo r (xm p1 P) q1):=zw bt.pg (by omega)
   have some:0<det v p1 (xo r (xm p1 P) q1)∨0<det v (xm q1 Q) (xo r (xm p1 P) q1):=by
    by_cases hq:Q=[]
    ·have hp':P≠[]:=S.three.resolve_right (fun z=>z hq)
     left
     have:=pp bt.pa (f2 hp')
     exact wt bt.pg (by omega)
    ·by_cases hv1:v=q1
     ·right
      have:=pp bt.pa (f6 (by rw[hv1];exact S.q1ne hq))
      exact wt bt.pg (by omega)
     ·left
      have:=pp bt.pb (f4 hv1)
      exact wt bt.pg (by omega)
   have m1:det (xo r (xm p1 P) q1) v p1=det v p1 (xo r (xm p1 P) q1):=wO _ _ _
   have m2:det (xo r (xm p1 P) q1) v (xm q1 Q)=det v (xm q1 Q) (xo r (xm p1 P) q1):=wO _ _ _
   rw[m1,m2] at e3
   refine wt bu.pg ?_
   rw[e3]
   have t1:=pz (xjV bu.pa) g1
   have t2:=pz (xjV bu.pb) g2
   rcases some with z | z
   ·have:=pp bu.pa z;omega
   ·have:=pp bu.pb z;omega
end xdP
end
end Pol
namespace Pol
section
variable {Ls P Q:List R3} {r p1 q1:R3}
namespace xdP
variable (S:xdP Ls r p1 q1 P Q)
include S
theorem pairs (h:(u,v)∈cyc (left r p1 q1 P Q)):(u=u1 r p1 q1 Q∧v=w1 r p1 q1 P)∨(val r q1<0∧u=xo r (xm p1 P) q1∧v=q1)∨(val r (xm q1 Q)<0∧u=xm q1 Q∧v=xo r p1 (xm q1 Q))∨(u,v)∈chain q1 Q:=by
 unfold left bef at h
 unfold u1 w1
 by_cases h1:val r q1<0
 ·by_cases h2:val r (xm q1 Q)<0
  ·simp only[if_pos h1,if_pos h2,xko,xlh] at h ⊢
   have e:cyc (xo r (xm p1 P) q1::q1::(Q++[xo r p1 (xm q1 Q)]))=(xo r p1 (xm q1 Q),xo r (xm p1 P) q1)::(xo r (xm p1 P) q1,q1)::(chain q1 Q++[(xm q1 Q,xo r p1 (xm q1 Q))]):=by
    show(xm q1 (Q++[_]),_)::(_,q1)::chain q1 (Q++[_])=_
    rw[ao,jM];rfl
   rw[e] at h
   rcases xk5.mp h with h | h
   ·injection h with a b;exact .inl ⟨a,b⟩
   ·rcases xk5.mp h with h | h
    ·injection h with a b;exact .inr (.inl ⟨h1,a,b⟩)
    ·rcases xk2.mp h with h | h
     ·exact .inr (.inr (.inr h))
     ·have h:=xlg.mp h
      injection h with a b;exact .inr (.inr (.inl ⟨h2,a,b⟩))
  ·simp only[if_pos h1,if_neg h2,xko,xlh,xkn] at h ⊢
   have e:cyc (xo r (xm p1 P) q1::q1::Q)=(xm q1 Q,xo r (xm p1 P) q1)::(xo r (xm p1 P) q1,q1)::chain q1 Q:=rfl
   rw[e] at h
   rcases xk5.mp h with h | h
   ·injection h with a b;exact .inl ⟨a,b⟩
   ·rcases xk5.mp h with h | h
    ·injection h with a b;exact .inr (.inl ⟨h1,a,b⟩)
    ·exact .inr (.inr (.inr h))
 ·by_cases h2:val r (xm q1 Q)<0
  ·simp only[if_neg h1,if_pos h2,xko,xlh] at h ⊢
   have e:cyc (q1::(Q++[xo r p1 (xm q1 Q)]))=(xo r p1 (xm q1 Q),q1)::(chain q1 Q++[(xm q1 Q,xo r p1 (xm q1 Q))]):=by
    show(xm q1 (Q++[_]),_)::chain q1 (Q++[_])=_
    rw[ao,jM];rfl
   rw[e] at h
   rcases xk5.mp h with h | h
   ·injection h with a b;exact .inl ⟨a,b⟩
   ·rcases xk2.mp h with h | h
    ·exact .inr (.inr (.inr h))
    ·have h:=xlg.mp h
     injection h with a b;exact .inr (.inr (.inl ⟨h2,a,b⟩))
  ·simp only[if_neg h1,if_neg h2,xko,xlh,xkn] at h ⊢
   have e:cyc (q1::Q)=(xm q1 Q,q1)::chain q1 Q:=rfl
   rw[e] at h
   rcases xk5.mp h with h | h
   ·injection h with a b;exact .inl ⟨a,b⟩
   ·exact .inr (.inr (.inr h))
theorem old1:(xm p1 P,q1)∈cyc ((p1::P)++(q1::Q)):=by
 rw[gc];exact xk4 _ xk7
theorem old2:(xm q1 Q,p1)∈cyc ((p1::P)++(q1::Q)):=by
 rw[gc];exact xk3 _ xk7
theorem old3 (h:(u,v)∈chain q1 Q):(u,v)∈cyc ((p1::P)++(q1::Q)):=by
 rw[gc];exact xk4 _ (xk6 _ h)
theorem pk_ne:xm p1 P≠q1:=fun e=>by have:=S.pkgt;have:=S.q1le;rw[e] at *;omega
theorem p1_ne:xm q1 Q≠p1:=fun e=>by have:=S.p1gt;have:=S.qmle;rw[e] at *;omega
theorem len_left:(val r q1<0∨val r (xm q1 Q)<0∨2≤Q.length)→3≤(left r p1 q1 P Q).length:=by
 intro h
 unfold left bef
 by_cases hq:Q=[]
 ·subst hq
  have h':val r q1<0:=by
   rcases h with h | h | h
   ·exact h
   ·exact h
   ·simp at h
  rw[if_pos h',if_pos (show val r (xm q1 [])<0 from h')];simp
 ·have l1:1≤Q.length:=by
   cases Q with
   | nil=>exact absurd rfl hq
   | cons _ _=>simp
  rcases h with h | h | h
  ·rw[if_pos h];simp;omega
  ·rw[if_pos h];simp;omega
  ·simp;omega
theorem small (h:¬(val r q1<0∨val r (xm q1 Q)<0∨2≤Q.length)):left r p1 q1 P Q=q1::Q∧∀v∈q1::Q,val r v=0:=by
 have h1:¬val r q1<0:=fun z=>h (.inl z)
 have h2:¬val r (xm q1 Q)<0:=fun z=>h (.inr (.inl z))
 have h3:¬2≤Q.length:=fun z=>h (.inr (.inr z))
 refine⟨by unfold left bef;rw[if_neg h1,if_neg h2];simp,fun v hv=>?_⟩
 have a:=S.q1le
 have b:=S.qmle
 rcases xk5.mp hv with rfl | hv
 ·omega
 ·match Q,hv,h3,b,h2 with
  | [x],hv,_,b,h2 =>
   have:v=x:=by simpa using hv
   subst this
   have b:val r v≤0:=b
   have h2:¬val r v<0:=h2
   omega
  | _::_::_,_,h3,_,_=>exact absurd (by simp) h3
theorem good_left:Good (Ls++[r]) (left r p1 q1 P Q):=by
 have keptOld:∀s∈Ls,∀v∈(p1::P)++(q1::Q),val s v≤0:=fun s hs v hv=>S.good.kept v hv s hs
 have mP:∀ {v},v∈p1::P→v∈(p1::P)++(q1::Q):=fun h=>xk3 _ h
 have mQ:∀ {v},v∈q1::Q→v∈(p1::P)++(q1::Q):=fun h=>xk4 _ h
 refine⟨⟨fun u v w s=>S.tri s,?_⟩,fun v hv=>?_,fun v hv=>?_,fun v hv s hs=>?_,fun u v he hne=>?_,fun v hv=>?_,fun p h0 hp=>?_⟩
 ·by_cases c:val r q1<0∨val r (xm q1 Q)<0∨2≤Q.length
  ·exact gG (fun u v w s=>S.tri s) (S.len_left c)
  ·rw[(S.small c).1];exact(xli.mp S.nd).2.1
 ·rcases S.mem_left hv with hv | ⟨h,rfl⟩ | ⟨h,rfl⟩
  ·exact S.botQ hv
  ·exact(S.X1 h).2.2.1
  ·exact(S.X2 h).2.2.1
 ·rcases S.mem_left hv with hv | ⟨h,rfl⟩ | ⟨h,rfl⟩
  ·exact S.good.prim v (mQ hv)
  ·exact(S.X1 h).2.2.2
  ·exact(S.X2 h).2.2.2
 ·rcases xk2.mp hs with hs | hs
  ·rcases S.mem_left hv with hv | ⟨h,rfl⟩ | ⟨h,rfl⟩
   ·exact keptOld s hs v (mQ hv)
   ·exact(S.X1 h).1.kept (keptOld s hs _ (mP (yk p1 P))) (keptOld s hs _ (mQ xk7))
   ·exact(S.X2 h).1.kept (keptOld s hs _ (mP xk7)) (keptOld s hs _ (mQ (yk q1 Q)))
  ·have:s=r:=by simpa using hs
   subst this
   rcases S.mem_left hv with hv | ⟨h,rfl⟩ | ⟨h,rfl⟩
   ·exact S.hQ v hv
   ·rw[(S.X1 h).2.1];exact xjX _
   ·rw[(S.X2 h).2.1];exact xjX _
 ·rcases S.pairs he with ⟨rfl,rfl⟩ | ⟨h,rfl,rfl⟩ | ⟨h,rfl,rfl⟩ | h
  ·obtain⟨_,_,_,_,_,e1⟩:=S.w1b
   obtain⟨_,_,_,_,_,e2⟩:=S.u1b
   exact⟨r,by simp,e2,e1⟩
  ·obtain⟨s,hs,a,b⟩:=S.good.edge _ _ S.old1 S.pk_ne
   exact⟨s,xk3 _ hs,(S.X1 h).1.tight a b,b⟩
  ·obtain⟨s,hs,a,b⟩:=S.good.edge _ _ S.old2 S.p1_ne
   exact⟨s,xk3 _ hs,a,(S.X2 h).1.tight b a⟩
  ·obtain⟨s,hs,a,b⟩:=S.good.edge _ _ (S.old3 h) hne
   exact⟨s,xk3 _ hs,a,b⟩
 ·rcases S.mem_left hv with hv | ⟨h,rfl⟩ | ⟨h,rfl⟩
  ·obtain⟨s,hs,t,ht,a,b,c⟩:=S.good.two v (mQ hv)
   exact⟨s,xk3 _ hs,t,xk3 _ ht,a,b,c⟩
  ·obtain⟨s,hs,a,b⟩:=S.good.edge _ _ S.old1 S.pk_ne
   exact⟨s,xk3 _ hs,r,by simp,(S.X1 h).1.tight a b,(S.X1 h).2.1,unlike (S.dir s hs) (S.botP (yk p1 P)) (S.botQ xk7) a b (xj9 S.pkgt h)⟩
  ·obtain⟨s,hs,a,b⟩:=S.good.edge _ _ S.old2 S.p1_ne
   exact⟨s,xk3 _ hs,r,by simp,(S.X2 h).1.tight b a,(S.X2 h).2.1,unlike (S.dir s hs) (S.botP xk7) (S.botQ (yk q1 Q)) b a (xj9 S.p1gt h)⟩
 ·have hpL:∀s∈Ls,val s p≤0:=fun s hs=>hp s (xk3 _ hs)
  have hpr:val r p≤0:=hp r (by simp)
  obtain⟨m,hm,cn⟩:=S.good.all p h0 hpL
  by_cases c:val r q1<0∨val r (xm q1 Q)<0∨2≤Q.length
  ·have he:∀u v,(u,v)∈cyc ((p1::P)++(q1::Q))→0≤det u v p:=fun u v h=>by
    have:=cn.det u v fun w hw=>S.good.ccw.edge h hw
    rw[qb] at this
    exact zw hm this
   refine Ccw.incone ⟨fun u v w s=>S.tri s,gG (fun u v w s=>S.tri s) (S.len_left c)⟩ (S.len_left c) fun u v hm'=>?_
   rcases S.pairs hm' with ⟨e1,e2⟩ | ⟨h,e1,e2⟩ | ⟨h,e1,e2⟩ | h
   ·rw[e1,e2]
    refine S.close ?_ hpr
    rcases c with c | c | c
    ·exact .inl c
    ·by_cases hq:Q=[]
     ·subst hq;exact .inl c
     ·exact .inr hq
    ·right;intro z;subst z;simp at c
   ·rw[e1,e2]
    have bt:=(S.X1 h).1
    have e:=bt.det q1 p
    have r1:det q1 p (xm p1 P)=det (xm p1 P) q1 p:=vq _ _ _
    rw[r1,qz,Int.mul_zero,xjM] at e
    have k:=pz (xjV bt.pa) (he _ _ S.old1)
    rw[wO]
    exact zw bt.pg (by omega)
   ·rw[e1,e2]
    have bt:=(S.X2 h).1
    have e:=bt.det p (xm q1 Q)
    have r1:det p (xm q1 Q) p1=det (xm q1 Q) p1 p:=wO _ _ _
    rw[r1,vW,Int.mul_zero,xjM] at e
    have k:=pz (xjV bt.pa) (he _ _ S.old2)
    rw[vq]
    exact zw bt.pg (by omega)
   ·exact he u v (S.old3 h)
  ·obtain⟨e,z⟩:=S.small c
   refine⟨m,hm,?_⟩
   have ge:∀v∈(p1::P)++(q1::Q),0≤val r v:=fun v hv=>by
    rcases xk2.mp hv with hv | hv
    ·have:=S.hP v hv;omega
    ·have:=z v hv;omega
   have:=cn.zeros r ge (by rw[val_mul];exact pn (xjV hm) hpr)
   rw[e]
   refine this.mono fun v hv=>?_
   obtain⟨hv,hv0⟩:=xk8.mp hv
   have hv0:val r v=0:=by simpa using hv0
   rcases xk2.mp hv with hv | hv
   ·have:=S.hP v hv;omega
   ·exact .mem hv
end xdP
end
end Pol
namespace Pol
def yg (r:R3)(left:List R3)(p:R3×R3):List R3 :=
 let l1:=if val r p.1*val r p.2<0 then(if xo r p.1 p.2∈left then left else left++[xo r p.1 p.2]) else left
 if val r p.2≤0 then l1++[p.2] else l1
def yP (l:List R3)(r:R3):List R3:=(cyc l).foldl (yg r) []
theorem xcu (h:(acc++seg r p).Nodup):yg r acc p=acc++seg r p:=by
 unfold yg seg at *
 by_cases c:val r p.1*val r p.2<0
 ·rw[if_pos c] at h ⊢
  have hn:xo r p.1 p.2∉acc:=fun z=>by
   have:=(xli.mp h).2.2 _ z _ (xk3 _ (xlg.mpr rfl))
   exact this rfl
  simp only[if_neg hn]
  split<;>simp
 ·rw[if_neg c] at h ⊢
  simp only
  split<;>simp
theorem oy:∀ {ps:List (R3×R3)} {acc:List R3},(acc++ps.flatMap (seg r)).Nodup→ps.foldl (yg r) acc=acc++ps.flatMap (seg r)
 | [],acc,_=>by simp
 | p::ps,acc,h=>by
  have h':(acc++(seg r p++ps.flatMap (seg r))).Nodup:=h
  rw[←xkm] at h'
  rw[xkx,xcu (xli.mp h').1,oy h',xkm];rfl
theorem tZ (h:(bY r l).Nodup):yP l r=bY r l:=by
 unfold yP
 rw[oy (by simpa [bY] using h)];rfl
theorem qC (h:∀v∈l,val r v≤0):bY r l=l:=by
 cases l with
 | nil=>rfl
 | cons x xs=>exact fN (h _ (yk x xs)) h
theorem qM (h:∀v∈l,0<val r v):bY r l=[]:=by
 cases l with
 | nil=>rfl
 | cons x xs=>exact fE (h _ (yk x xs)) h
theorem jH (g:Good Ls l)(h:∀v∈l,val r v≤0):Good (Ls++[r]) l where
 ccw:=g.ccw
 bot:=g.bot
 prim:=g.prim
 kept:=fun v hv s hs=>by
  rcases xk2.mp hs with hs | hs
  ·exact g.kept v hv s hs
  ·have:s=r:=by simpa using hs
   subst this
   exact h v hv
 edge:=fun u v he hn=>by
  obtain⟨s,hs,a⟩:=g.edge u v he hn
  exact⟨s,xk3 _ hs,a⟩
 two:=fun v hv=>by
  obtain⟨s,hs,t,ht,a⟩:=g.two v hv
  exact⟨s,xk3 _ hs,t,xk3 _ ht,a⟩
 all:=fun p h0 hp=>g.all p h0 fun s hs=>hp s (xk3 _ hs)
theorem vO (g:Good Ls l)(h:∀v∈l,0≤val r v)(hs:List.Sublist l' l)(hl:l'.length≤1)(h0:∀v∈l',val r v=0)(h1:∀v∈l,val r v=0→v∈l'):Good (Ls++[r]) l' where
 ccw:=⟨fun u v w s=>by
  have:=s.length_le
  simp at this
  omega,g.ccw.nd.sublist hs⟩
 bot:=fun v hv=>g.bot v (hs.subset hv)
 prim:=fun v hv=>g.prim v (hs.subset hv)
 kept:=fun v hv s hs'=>by
  rcases xk2.mp hs' with h' | h'
  ·exact g.kept v (hs.subset hv) s h'
  ·have:s=r:=by simpa using h'
   subst this
   rw[h0 v hv];exact xjX _
 edge:=fun u v he hn=>by
  exfalso
  match l',hl,he with
  | [x],_,he =>
   have:(u,v)=(x,x):=by simpa [cyc,chain,xm] using he
   injection this with a b
   exact hn (by rw[a,b])
  | [],_,he=>simp[cyc] at he
  | _::_::_,hl,_=>simp at hl
 two:=fun v hv=>by
  obtain⟨s,hs',t,ht,a⟩:=g.two v (hs.subset hv)
  exact⟨s,xk3 _ hs',t,xk3 _ ht,a⟩
 all:=fun p hz hp=>by
  obtain⟨m,hm,c⟩:=g.all p hz fun s hs=>hp s (xk3 _ hs)
  refine⟨m,hm,(c.zeros r h ?_).mono fun v hv=>?_⟩
  ·rw[val_mul];exact pn (xjV hm) (hp r (by simp))
  ·obtain⟨a,b⟩:=xk8.mp hv
   exact .mem (h1 v a (by simpa using b))
theorem gI (g:Good Ls [u,v])(dir:∀s∈Ls,s.1≠0∨s.2.1≠0)(hu:0<val r u)(hv:val r v<0)(hx:x=xo r u v):Good (Ls++[r]) [x,v]:=by
 subst hx
 have bu:=g.bot u (by simp)
 have bv:=g.bot v (by simp)
 obtain⟨bt,x0,xb,xp⟩:=kF (r:=r) bu bv (xj9 hu hv)
 have ne:u≠v:=fun e=>by rw[e] at hu;omega
 obtain⟨s,hs,su,sv⟩:=g.edge u v (by simp[cyc,chain,xm]) ne
 have nx:xo r u v≠v:=fun e=>by rw[e] at x0;omega
 have sx:=bt.tight su sv
 refine⟨⟨fun a b c h=>by have:=h.length_le;simp at this,by simp[nx]⟩,fun w hw=>?_,fun w hw=>?_,fun w hw t ht=>?_,fun a b he hn=>?_,fun w hw=>?_,fun p hz hp=>?_⟩
 ·simp only[xk5,xlk,xlW] at hw
  rcases hw with rfl | rfl
  ·exact xb
  ·exact bv
 ·simp only[xk5,xlk,xlW] at hw
  rcases hw with rfl | rfl
  ·exact xp
  ·exact g.prim w (by simp)
 ·simp only[xk5,xlk,xlW] at hw
  rcases xk2.mp ht with ht | ht
  ·rcases hw with rfl | rfl
   ·exact bt.kept (g.kept u (by simp) t ht) (g.kept v (by simp) t ht)
   ·exact g.kept w (by simp) t ht
  ·have:t=r:=by simpa using ht
   subst this
   rcases hw with rfl | rfl
   ·rw[x0];exact xjX _
   ·exact xjV hv
 ·have he:(a,b)=(v,xo r u v)∨(a,b)=(xo r u v,v):=by simpa [cyc,chain,xm] using he
  rcases he with e | e<;>injection e with e1 e2<;>subst e1 e2
  ·exact⟨s,xk3 _ hs,sv,sx⟩
  ·exact⟨s,xk3 _ hs,sx,sv⟩
 ·simp only[xk5,xlk,xlW] at hw
  rcases hw with rfl | rfl
  ·exact⟨s,xk3 _ hs,r,by simp,sx,x0,unlike (dir s hs) bu bv su sv (xj9 hu hv)⟩
  ·obtain⟨s,hs',t,ht,a⟩:=g.two w (by simp)
   exact⟨s,xk3 _ hs',t,xk3 _ ht,a⟩
 ·obtain⟨m,hm,c⟩:=g.all p hz fun s hs=>hp s (xk3 _ hs)
  obtain⟨a,b,a0,b0,e⟩:=c.pair
  have hr:val r (mul m p)≤0:=by rw[val_mul];exact pn (xjV hm) (hp r (by simp))
  rw[e,val_add,val_mul,val_mul] at hr
  have av:abs (val r v) = - val r v:=by unfold abs;rw[if_pos hv]
  have au:abs (val r u)=val r u:=by unfold abs;rw[if_neg (by omega)]
  refine⟨(- val r v)*m,pp (by omega) hm,?_⟩
  have e2:mul ((- val r v)*m) p=add (mul (a*(uW (cw r u v):Int)) (xo r u v)) (mul (b*(- val r v)-a*val r u) v):=by
   have e3:mul ((- val r v)*m) p=mul (- val r v) (mul m p):=by apply ext3<;>simp only[mul]<;>grind
   have e4:mul (a*(uW (cw r u v):Int)) (xo r u v)=mul a (mul (uW (cw r u v)) (xo r u v)):=by apply ext3<;>simp only[mul]<;>grind
   rw[e3,e,e4,bt.e,av,au]
   apply ext3<;>simp only[mul,add]<;>grind
  rw[e2]
  have k:0≤b*(- val r v)-a*val r u:=by
   have:b*(- val r v)-a*val r u = - (a*val r u+b*val r v):=by grind
   omega
  exact((Cn.mem (by simp)).smul (pz a0 (xjV bt.pg))).add ((Cn.mem (by simp)).smul k)
theorem Good.sw (g:Good Ls [u,v]):Good Ls [v,u]:=Good.rot (a:=[u]) (b:=[v]) g
theorem ox (g:Good Ls l)(dir:∀s∈Ls,s.1≠0∨s.2.1≠0):Good (Ls++[r]) (yP l r):=by
 match l,g with
 | [],g =>
  show Good (Ls++[r]) []
  exact jH g fun v hv=>by simp at hv
 | [v],g =>
  by_cases h:val r v≤0
  ·have hk:∀w∈[v],val r w≤0:=fun w hw=>by rw[xlg.mp hw];exact h
   rw[tZ (by rw[qC hk];simp),qC hk]
   exact jH g hk
  ·have hk:∀w∈[v],0<val r w:=fun w hw=>by rw[xlg.mp hw];omega
   rw[tZ (by rw[qM hk];simp),qM hk]
   exact vO g (fun w hw=>xjV (hk w hw)) (List.nil_sublist _) (by simp) (fun w hw=>by simp at hw) fun w hw h0=>by have:=hk w hw;omega
 | [u,v],g =>
  have ne:u≠v:=by
   have:=g.ccw.nd
   simp at this
   exact this
  have cy:cyc [u,v]=[(v,u),(u,v)]:=rfl
  unfold yP
  rw[cy]
  simp only[xkx,List.foldl_nil]
  by_cases c:val r u*val r v<0
  ·have c':val r v*val r u<0:=by rw[xj1];exact c
   have ex:xo r v u=xo r u v:=by unfold xo;rw[xch]
   have hu0:val r u≠0:=fun z=>by rw[z] at c;simp at c
   have hv0:val r v≠0:=fun z=>by rw[z] at c;simp at c
   by_cases hu:val r u≤0
   ·have hv:0<val r v:=by
     rcases xjZ 0 (val r v) with z | z
     ·exact z
     ·have:=nn hu z;omega
    have e1:yg r [] (v,u)=[xo r v u,u]:=by
     unfold yg
     simp only[if_pos c',if_pos hu]
     simp
    have e2:yg r [xo r v u,u] (u,v)=[xo r v u,u]:=by
     unfold yg
     simp only[if_pos c,if_neg (show ¬val r v≤0 by omega)]
     rw[if_pos (by rw[←ex];simp)]
    rw[e1,e2]
    exact gI g.sw dir hv (by omega) rfl
   ·have hv:val r v<0:=by
     rcases xjZ (val r v) 0 with z | z
     ·exact z
     ·have:=pz (by omega:0≤val r u) z;omega
    have e1:yg r [] (v,u)=[xo r v u]:=by
     unfold yg
     simp only[if_pos c',if_neg hu]
     simp
    have e2:yg r [xo r v u] (u,v)=[xo r v u,v]:=by
     unfold yg
     simp only[if_pos c,if_pos (show val r v≤0 by omega)]
     rw[if_pos (by rw[←ex];simp)];rfl
    rw[e1,e2]
    exact gI g dir (by omega) hv ex
  ·have c':¬val r v*val r u<0:=by rw[xj1];exact c
   have e1:yg r [] (v,u)=if val r u≤0 then[u] else[]:=by
    unfold yg
    simp only[if_neg c']
    split<;>simp
   have e2:∀l,yg r l (u,v)=if val r v≤0 then l++[v] else l:=fun l=>by
    unfold yg
    simp only[if_neg c]
   rw[e1,e2]
   by_cases hu:val r u≤0
   ·rw[if_pos hu]
    by_cases hv:val r v≤0
    ·rw[if_pos hv]
     show Good (Ls++[r]) [u,v]
     exact jH g fun w hw=>by
      simp only[xk5,xlk,xlW] at hw
      rcases hw with rfl | rfl<;>assumption
    ·rw[if_neg hv]
     have hu0:val r u=0:=by
      rcases xjZ (val r u) 0 with z | z
      ·have:=xj8 z (show 0<val r v by omega);omega
      ·omega
     exact vO g (fun w hw=>by
      simp only[xk5,xlk,xlW] at hw
      rcases hw with rfl | rfl<;>omega) (by simp) (by simp) (fun w hw=>by rw[xlg.mp hw];exact hu0) fun w hw h0=>by
       simp only[xk5,xlk,xlW] at hw
       rcases hw with rfl | rfl
       ·simp
       ·omega
   ·rw[if_neg hu]
    by_cases hv:val r v≤0
    ·rw[if_pos hv]
     have hv0:val r v=0:=by
      rcases xjZ (val r v) 0 with z | z
      ·have:=xj9 (show 0<val r u by omega) z;omega
      ·omega
     exact vO g (fun w hw=>by
      simp only[xk5,xlk,xlW] at hw
      rcases hw with rfl | rfl<;>omega) (by simp) (by simp) (fun w hw=>by
       have:w=v:=by simpa using hw
       rw[this];exact hv0) fun w hw h0=>by
       simp only[xk5,xlk,xlW] at hw
       rcases hw with rfl | rfl
       ·omega
       ·simp
    ·rw[if_neg hv]
     exact vO g (fun w hw=>by
      simp only[xk5,xlk,xlW] at hw
      rcases hw with rfl | rfl<;>omega) (by simp) (by simp) (fun w hw=>by simp at hw) fun w hw h0=>by
       simp only[xk5,xlk,xlW] at hw
       rcases hw with rfl | rfl<;>omega
 | x::y::z::t,g =>
  obtain⟨a,b,P,Q,e1,e2,hP,hQ⟩:=g.ccw.parts r
  have e0:x::y::z::t=a++b:=e1
  rw[e0] at g ⊢
  have gr:Good Ls (b++a):=g.rot
  have mem:∀v,v∈a++b→v∈P++Q:=fun v hv=>by rw[←e2];simpa [or_comm] using hv
  have hlen:(P++Q).length=t.length+3:=by
   rw[←e2,xkL,Nat.add_comm,←xkL,←e0];simp
  cases P with
  | nil =>
   have hk:∀v∈a++b,val r v≤0:=fun v hv=>hQ v (by simpa using mem v hv)
   rw[tZ (by rw[qC hk];exact g.ccw.nd),qC hk]
   exact jH g hk
  | cons p1 P =>
   cases Q with
   | nil =>
    have hk:∀v∈a++b,0<val r v:=fun v hv=>hP v (by simpa using mem v hv)
    rw[tZ (by rw[qM hk];simp),qM hk]
    exact vO g (fun w hw=>xjV (hk w hw)) (List.nil_sublist _) (by simp) (fun w hw=>by simp at hw) fun w hw h0=>by have:=hk w hw;omega
   | cons q1 Q =>
    have S:xdP Ls r p1 q1 P Q:=⟨by rw[←e2];exact gr,hP,hQ,by
     rcases Classical.em (P=[]) with h | h
     ·right
      intro h'
      subst h h'
      simp at hlen
     ·exact .inl h,dir⟩
    have gl:=S.good_left
    unfold xdP.left at gl
    have g2:=Good.rot (a:=bef r (xm p1 P) q1++q1::Q) (b:=bef r p1 (xm q1 Q)) gl
    rw[←sG hP hQ,←e2] at g2
    obtain⟨c,d,f1,f2⟩:=cR r a b
    rw[f2] at g2
    have g3:=g2.rot
    rw[←f1] at g3
    rw[tZ g3.ccw.nd]
    exact g3
end Pol
namespace Pol
def FAR:Int:=60001
def box:List R3:=[(-FAR,-FAR,1),(FAR,-FAR,1),(FAR,FAR,1),(-FAR,FAR,1)]
def lT:List R3:=[(-1,0,FAR),(1,0,FAR),(0,-1,FAR),(0,1,FAR)]
theorem xjw {a b c d u v w:R3}(s:List.Sublist [u,v,w] [a,b,c,d]):(u=a∧v=b∧w=c)∨(u=a∧v=b∧w=d)∨(u=a∧v=c∧w=d)∨(u=b∧v=c∧w=d):=by
 have full:∀ {x y z u v w:R3},List.Sublist [u,v,w] [x,y,z]→u=x∧v=y∧w=z:=fun {x y z u v w} s=>by
  have:=s.eq_of_length (by simp)
  injection this with h1 h2
  injection h2 with h2 h3
  injection h3 with h3 _
  exact⟨h1,h2,h3⟩
 cases s with
 | cons _ s=>exact .inr (.inr (.inr (full s)))
 | cons_cons _ s =>
  have two:∀ {x y z v w:R3},List.Sublist [v,w] [x,y,z]→(v=x∧w=y)∨(v=x∧w=z)∨(v=y∧w=z):=fun {x y z v w} s=>by
   cases s with
   | cons _ s =>
    have:=s.eq_of_length (by simp)
    injection this with h1 h2
    injection h2 with h2 _
    exact .inr (.inr ⟨h1,h2⟩)
   | cons_cons _ s =>
    have:w∈[y,z]:=xlm.mp s
    simp only[xk5,xlk,xlW] at this
    rcases this with rfl | rfl
    ·exact .inl ⟨rfl,rfl⟩
    ·exact .inr (.inl ⟨rfl,rfl⟩)
  rcases two s with ⟨h1,h2⟩ | ⟨h1,h2⟩ | ⟨h1,h2⟩
  ·exact .inl ⟨rfl,h1,h2⟩
  ·exact .inr (.inl ⟨rfl,h1,h2⟩)
  ·exact .inr (.inr (.inl ⟨rfl,h1,h2⟩))
theorem xbT:Ccw box:=by
 refine⟨fun u v w s=>?_,by decide⟩
 rcases xjw s with ⟨rfl,rfl,rfl⟩ | ⟨rfl,rfl,rfl⟩ | ⟨rfl,rfl,rfl⟩ | ⟨rfl,rfl,rfl⟩<;>decide
theorem cV:Good lT box:=by
 refine⟨xbT,by decide,by decide,by decide,fun u v h _=>?_,by decide,fun p hz hp=>?_⟩
 ·have h:(u,v)∈[((-FAR,FAR,1),(-FAR,-FAR,1)),((-FAR,-FAR,1),(FAR,-FAR,1)),((FAR,-FAR,1),(FAR,FAR,1)),((FAR,FAR,1),(-FAR,FAR,1))]:=h
  simp only[xk5,xlk,xlW] at h
  rcases h with h | h | h | h<;>injection h with h1 h2<;>subst h1 h2
  ·exact⟨(-1,0,FAR),by decide,by decide,by decide⟩
  ·exact⟨(0,-1,FAR),by decide,by decide,by decide⟩
  ·exact⟨(1,0,FAR),by decide,by decide,by decide⟩
  ·exact⟨(0,1,FAR),by decide,by decide,by decide⟩
 ·have h1:=hp (-1,0,FAR) (by decide)
  have h2:=hp (1,0,FAR) (by decide)
  have h3:=hp (0,-1,FAR) (by decide)
  have h4:=hp (0,1,FAR) (by decide)
  simp only[val,FAR] at h1 h2 h3 h4
  refine xbT.incone (by decide) fun u v h=>?_
  have h:(u,v)∈[((-FAR,FAR,1),(-FAR,-FAR,1)),((-FAR,-FAR,1),(FAR,-FAR,1)),((FAR,-FAR,1),(FAR,FAR,1)),((FAR,FAR,1),(-FAR,FAR,1))]:=h
  simp only[xk5,xlk,xlW] at h
  rcases h with h | h | h | h<;>injection h with h5 h6<;>subst h5 h6<;>simp only[det,FAR]<;>omega
def pieces (rows:List R3):List R3:=rows.foldl yP box
theorem mf:∀(rows Ls l:List R3),Good Ls l→(∀s∈Ls,s.1≠0∨s.2.1≠0)→(∀s∈rows,s.1≠0∨s.2.1≠0)→Good (Ls++rows) (rows.foldl yP l)
 | [],Ls,l,g,_,_=>by simpa using g
 | r::rows,Ls,l,g,d1,d2=>by
  rw[xkx]
  have:=mf rows (Ls++[r]) (yP l r) (ox g d1) (fun s hs=>by
   rcases xk2.mp hs with h | h
   ·exact d1 s h
   ·rw[xlg.mp h];exact d2 r xk7) (fun s hs=>d2 s (xk6 _ hs))
  rwa [xkm] at this
theorem wL (d:∀s∈rows,s.1≠0∨s.2.1≠0):Good (lT++rows) (pieces rows):=mf rows lT box cV (by decide) d
def GR (rows:List R3):Prop:=∀u v:Int,(u≠0∨v≠0)→∃r∈rows,0<r.1*u+r.2.1*v
theorem best {rows:List R3}(f g:R3→Int)(h:∃r∈rows,0<g r):∃i∈rows,0<g i∧∀r∈rows,0<g r→f r*g i≤f i*g r:=by
 induction rows with
 | nil=>obtain⟨r,hr,_⟩:=h;simp at hr
 | cons x rows ih =>
  by_cases hx:0<g x
  ·by_cases hr:∃r∈rows,0<g r
   ·obtain⟨i,hi,gi,hb⟩:=ih hr
    rcases xjZ (f i*g x) (f x*g i) with c | c
    ·refine⟨x,xk7,hx,fun r hr gr=>?_⟩
     rcases xk5.mp hr with rfl | hr
     ·exact xjX _
     ·have h1:=hb r hr gr
      have h2:(f r*g i)*g x≤(f i*g r)*g x:=xj6 h1 (xjV hx)
      have h3:(f i*g x)*g r≤(f x*g i)*g r:=xj6 (xjV c) (xjV gr)
      have h4:g i*(f r*g x)≤g i*(f x*g r):=by
       have e1:g i*(f r*g x)=(f r*g i)*g x:=by grind
       have e2:(f i*g r)*g x=(f i*g x)*g r:=by grind
       have e3:(f x*g i)*g r=g i*(f x*g r):=by grind
       omega
      exact xjW h4 gi
    ·refine⟨i,xk6 _ hi,gi,fun r hr gr=>?_⟩
     rcases xk5.mp hr with rfl | hr
     ·exact c
     ·exact hb r hr gr
   ·refine⟨x,xk7,hx,fun r hr' gr=>?_⟩
    rcases xk5.mp hr' with rfl | h'
    ·exact xjX _
    ·exact absurd ⟨r,h',gr⟩ hr
  ·obtain⟨r,hr,gr⟩:=h
   rcases xk5.mp hr with rfl | hr
   ·exact absurd gr hx
   ·obtain⟨i,hi,gi,hb⟩:=ih ⟨r,hr,gr⟩
    refine⟨i,xk6 _ hi,gi,fun r hr gr=>?_⟩
    rcases xk5.mp hr with rfl | hr
    ·exact absurd gr hx
    ·exact hb r hr gr
theorem xdE (h:GR rows)(hb:∀r∈rows,(-30≤r.2.1∧r.2.1≤30)∧r.2.2≤1000)(hz:0<p.2.2)(hp:∀r∈rows,val r p≤0):p.1≤60000*p.2.2:=by
 by_cases hc:∃r∈rows,r.2.1=0∧0<r.1
 ·obtain⟨r,hr,r0,r1⟩:=hc
  have h1:=hp r hr
  have h2:=(hb r hr).2
  simp only[val,r0,xkd,xjM] at h1
  rcases xjZ 0 p.1 with c | c
  ·have h3:p.1≤r.1*p.1:=by
    have:1*p.1≤r.1*p.1:=xj6 (by omega) (xjV c)
    omega
   have h4:r.2.2*p.2.2≤1000*p.2.2:=xj6 h2 (xjV hz)
   omega
  ·omega
 ·obtain⟨i,hi,gi,mi⟩:=best (rows:=rows) (fun r=>r.1) (fun r=>r.2.1) (by
   obtain⟨r,hr,h1⟩:=h 0 1 (.inr (by decide))
   exact⟨r,hr,by simpa using h1⟩)
  obtain⟨j,hj,gj,mj⟩:=best (rows:=rows) (fun r=>r.1) (fun r=>- r.2.1) (by
   obtain⟨r,hr,h1⟩:=h 0 (-1) (.inr (by decide))
   exact⟨r,hr,by simp at h1;omega⟩)
  have pos:0<(- j.2.1)*i.1+i.2.1*j.1:=by
   rcases xjZ 0 ((- j.2.1)*i.1+i.2.1*j.1) with c | c
   ·exact c
   ·exfalso
    obtain⟨r,hr,h1⟩:=h i.2.1 (- i.1) (.inl (by omega))
    rcases xj0 r.2.1 0 with d | d | d
    ·have h2:=mj r hr (by omega)
     have h3:i.2.1*(r.1*(- j.2.1))≤i.2.1*(j.1*(- r.2.1)):=xj5 h2 (xjV gi)
     have h4:(- r.2.1)*((- j.2.1)*i.1+i.2.1*j.1)≤0:=pn (by omega) c
     have h5:(- j.2.1)*(r.1*i.2.1+r.2.1*(- i.1))≤0:=by
      have e:(- j.2.1)*(r.1*i.2.1+r.2.1*(- i.1))=i.2.1*(r.1*(- j.2.1))-i.2.1*(j.1*(- r.2.1))+(- r.2.1)*((- j.2.1)*i.1+i.2.1*j.1):=by grind
      omega
     have h6:0<(- j.2.1)*(r.1*i.2.1+r.2.1*(- i.1)):=pp gj h1
     omega
    ·rw[d] at h1
     simp only[xkd,xjM] at h1
     have:0<r.1:=by
      rcases xjZ 0 r.1 with z | z
      ·exact z
      ·have:=np z (xjV gi);omega
     exact hc ⟨r,hr,d,this⟩
    ·have h2:=mi r hr d
     have e:r.1*i.2.1+r.2.1*(- i.1)=r.1*i.2.1-i.1*r.2.1:=by grind
     omega
  have h1:=hp i hi
  have h2:=hp j hj
  obtain⟨⟨b1,b2⟩,b3⟩:=hb i hi
  obtain⟨⟨b4,b5⟩,b6⟩:=hb j hj
  have k1:(- j.2.1)*val i p≤0:=pn (xjV gj) h1
  have k2:i.2.1*val j p≤0:=pn (xjV gi) h2
  have k3:((- j.2.1)*i.1+i.2.1*j.1)*p.1≤((- j.2.1)*i.2.2+i.2.1*j.2.2)*p.2.2:=by
   have e:((- j.2.1)*i.1+i.2.1*j.1)*p.1-((- j.2.1)*i.2.2+i.2.1*j.2.2)*p.2.2=(- j.2.1)*val i p+i.2.1*val j p:=by simp only[val];grind
   omega
  have k4:(- j.2.1)*i.2.2≤30000:=by
   have:(- j.2.1)*i.2.2≤(- j.2.1)*1000:=xj5 b3 (xjV gj)
   omega
  have k5:i.2.1*j.2.2≤30000:=by
   have:i.2.1*j.2.2≤i.2.1*1000:=xj5 b6 (xjV gi)
   omega
  have k6:((- j.2.1)*i.2.2+i.2.1*j.2.2)*p.2.2≤60000*p.2.2:=xj6 (by omega) (xjV hz)
  rcases xjZ 0 p.1 with c | c
  ·have:1*p.1≤((- j.2.1)*i.1+i.2.1*j.1)*p.1:=xj6 (by omega) (xjV c)
   omega
  ·omega
def uC (r:R3):Prop:=((-30≤r.1∧r.1≤30)∧(-30≤r.2.1∧r.2.1≤30))∧(-1000≤r.2.2∧r.2.2≤1000)
theorem xgV (h:GR rows)(hb:∀r∈rows,uC r)(hz:0<p.2.2)(hp:∀r∈rows,val r p≤0) :
  (-(60000*p.2.2)≤p.1∧p.1≤60000*p.2.2)∧(-(60000*p.2.2)≤p.2.1∧p.2.1≤60000*p.2.2):=by
 have tr:∀(f:R3→R3) (q:R3),(∀r,val (f r) q=val r p)→q.2.2=p.2.2→(∀r∈rows,(-30≤(f r).2.1∧(f r).2.1≤30)∧(f r).2.2≤1000)→GR (rows.map f)→q.1≤60000*p.2.2:=fun f q h1 h2 h3 h4=>by
  have:=xdE (rows:=rows.map f) (p:=q) h4 (fun r hr=>by
   obtain⟨r0,hr0,rfl⟩:=xla.mp hr
   exact h3 r0 hr0) (by rw[h2];exact hz) (fun r hr=>by
   obtain⟨r0,hr0,rfl⟩:=xla.mp hr
   rw[h1];exact hp r0 hr0)
  rwa [h2] at this
 have gm:∀(f:R3→R3) (m:Int→Int→Int×Int),(∀u v,(u≠0∨v≠0)→((m u v).1≠0∨(m u v).2≠0))→(∀r u v,(f r).1*u+(f r).2.1*v=r.1*(m u v).1+r.2.1*(m u v).2)→GR (rows.map f):=fun f m h1 h2 u v hn=>by
  obtain⟨r,hr,h3⟩:=h _ _ (h1 u v hn)
  exact⟨f r,xla.mpr ⟨r,hr,rfl⟩,by rw[h2];exact h3⟩
 refine⟨⟨?_,?_⟩,?_,?_⟩
 ·have:=tr (fun r=>(- r.1,r.2.1,r.2.2)) (- p.1,p.2.1,p.2.2) (fun r=>by simp only[val];grind) rfl (fun r hr=>⟨(hb r hr).1.2,(hb r hr).2.2⟩)
   (gm _ (fun u v=>(- u,v)) (fun u v hn=>by simp only;omega) (fun r u v=>by simp only;grind))
  simp only at this
  omega
 ·exact xdE h (fun r hr=>⟨(hb r hr).1.2,(hb r hr).2.2⟩) hz hp
 ·have:=tr (fun r=>(- r.2.1,r.1,r.2.2)) (- p.2.1,p.1,p.2.2) (fun r=>by simp only[val];grind) rfl (fun r hr=>⟨(hb r hr).1.1,(hb r hr).2.2⟩)
   (gm _ (fun u v=>(v,- u)) (fun u v hn=>by simp only;omega) (fun r u v=>by simp only;grind))
  simp only at this
  omega
 ·exact tr (fun r=>(r.2.1,r.1,r.2.2)) (p.2.1,p.1,p.2.2) (fun r=>by simp only[val];grind) rfl (fun r hr=>⟨(hb r hr).1.1,(hb r hr).2.2⟩)
   (gm _ (fun u v=>(v,u)) (fun u v hn=>by simp only;omega) (fun r u v=>by simp only;grind))
structure IsC (rows:List R3)(p:R3):Prop where
 kept:∀r∈rows,val r p≤0
 two:∃s∈rows,∃t∈rows,val s p=0∧val t p=0∧turn s t≠0
def tD (p q:R3):Prop:=p.1*q.2.2=q.1*p.2.2∧p.2.1*q.2.2=q.2.1*p.2.2
theorem xgv (hn:turn s t≠0)(p1:val s p=0)(p2:val t p=0)(q1:val s q=0)(q2:val t q=0):tD p q:=by
 have e1:turn s t*(p.1*q.2.2-q.1*p.2.2)=(t.2.1*val s p-s.2.1*val t p)*q.2.2-(t.2.1*val s q-s.2.1*val t q)*p.2.2:=by simp only[turn,val];grind
 have e2:turn s t*(p.2.1*q.2.2-q.2.1*p.2.2)=(s.1*val t p-t.1*val s p)*q.2.2-(s.1*val t q-t.1*val s q)*p.2.2:=by simp only[turn,val];grind
 rw[p1,p2,q1,q2] at e1 e2
 have e1:turn s t*(p.1*q.2.2-q.1*p.2.2)=0:=by rw[e1];grind
 have e2:turn s t*(p.2.1*q.2.2-q.2.1*p.2.2)=0:=by rw[e2];grind
 have:=(xj4.mp e1).resolve_left hn
 have:=(xj4.mp e2).resolve_left hn
 exact⟨by omega,by omega⟩
section
variable {rows more:List R3}
structure xdZ (rows more:List R3):Prop where
 box:∀ {p:R3},0<p.2.2→(∀r∈more,val r p≤0)→∀s∈lT,val s p<0
 fr:∀r∈rows,uC r
 sub:∀r∈rows,r∈more
 dir:∀r∈more,r.1≠0∨r.2.1≠0
theorem xeI (gr:GR rows)(fr:∀r∈rows,uC r)(sub:∀r∈rows,r∈more)(dir:∀r∈more,r.1≠0∨r.2.1≠0):xdZ rows more:=⟨fun {p} hz hp s hs=>by
 obtain⟨⟨h1,h2⟩,h3,h4⟩:=xgV gr fr hz fun r hr=>hp r (sub r hr)
 simp only[lT,xk5,xlk,xlW] at hs
 rcases hs with rfl | rfl | rfl | rfl<;>simp only[val,FAR]<;>omega,fr,sub,dir⟩
theorem xdZ.corner (F:xdZ rows more)(hv:v∈pieces more):0<v.2.2∧uW v=1∧IsC more v:=by
 have g:=wL F.dir
 have hz:=g.bot v hv
 have hk:∀r∈more,val r v≤0:=fun r hr=>g.kept v hv r (xk4 _ hr)
 have nb:=F.box hz hk
 obtain⟨s,hs,t,ht,a,b,c⟩:=g.two v hv
 have in':∀x∈lT++more,val x v=0→x∈more:=fun x hx h0=>by
  rcases xk2.mp hx with h | h
  ·have:=nb x h;omega
  ·exact h
 exact⟨hz,g.prim v hv,hk,s,in' s hs a,t,in' t ht b,a,b,c⟩
theorem xdZ.incone (F:xdZ rows more)(hz:0<p.2.2)(hp:∀r∈more,val r p≤0):InC (pieces more) p:=by
 have g:=wL F.dir
 refine g.all p hz fun s hs=>?_
 rcases xk2.mp hs with h | h
 ·exact xjV (F.box hz hp s h)
 ·exact hp s h
theorem val_neg (r p:R3):val (- r.1,- r.2.1,- r.2.2) p = - val r p:=by simp only[val];grind
theorem xdZ.found (F:xdZ rows more)(hz:0<p.2.2)(hp:IsC more p):∃v∈pieces more,tD v p:=by
 obtain⟨m,hm,c⟩:=F.incone hz hp.kept
 obtain⟨s,hs,t,ht,a,b,hn⟩:=hp.two
 have g:=wL F.dir
 have kept:∀v∈pieces more,∀r∈more,val r v≤0:=fun v hv r hr=>g.kept v hv r (xk4 _ hr)
 have c1:=c.zeros (- s.1,- s.2.1,- s.2.2) (fun v hv=>by rw[val_neg];have:=kept v hv s hs;omega) (by rw[val_neg,val_mul,a];simp)
 have c2:=c1.zeros (- t.1,- t.2.1,- t.2.2) (fun v hv=>by rw[val_neg];have:=kept v (xk8.mp hv).1 t ht;omega) (by rw[val_neg,val_mul,b];simp)
 cases e:((pieces more).filter fun v=>val (- s.1,- s.2.1,- s.2.2) v=0).filter (fun v=>val (- t.1,- t.2.1,- t.2.2) v=0) with
 | nil =>
  rw[e] at c2
  exfalso
  rcases c2.bot (fun v hv=>by simp at hv) with h | h
  ·have:m*p.2.2=0:=xlN (·.2.2) h
   have:=pp hm hz
   omega
  ·have:∀q:R3,Cn [] q→q=(0,0,0):=fun q hq=>by
    induction hq with
    | zero=>rfl
    | mem h=>simp at h
    | add _ _ h1 h2=>rw[h1,h2];rfl
   rw[this _ c2] at h
   simp at h
 | cons v r =>
  have hv:v∈((pieces more).filter fun v=>val (- s.1,- s.2.1,- s.2.2) v=0).filter (fun v=>val (- t.1,- t.2.1,- t.2.2) v=0):=by rw[e];exact xk7
  obtain⟨h1,h2⟩:=xk8.mp hv
  obtain⟨h3,h4⟩:=xk8.mp h1
  have h2:val (- t.1,- t.2.1,- t.2.2) v=0:=by simpa using h2
  have h4:val (- s.1,- s.2.1,- s.2.2) v=0:=by simpa using h4
  rw[val_neg] at h2 h4
  exact⟨v,h3,xgv hn (by omega) (by omega) a b⟩
end
end Pol
namespace Pol
def dot (r s:R3):Int:=r.1*s.1+r.2.1*s.2.1
def xbM (sg:Int)(last:Option R3)(x:R3):Bool:=match last with | none=>true | some l=>decide (0<sg*turn l x)
def wA (r:R3)(sg:Int)(last:Option R3)(x:R3):Option R3 :=
 if 0<sg*turn r x∧xbM sg last x=true then some x else last
def far (r:R3)(sg:Int)(rs:List R3):Option R3:=rs.foldl (wA r sg) none
def back (r:R3)(rs:List R3):Bool:=rs.any fun x=>decide (turn r x=0)&&decide (dot r x<0)
def zj:List R3→Bool
 | []=>false
 | r::rs=>match far r 1 (r::rs),far r (-1) (r::rs) with
  | some l,some k=>decide (0<turn l k) || back r (r::rs)
  | _,_=>false
theorem xhb {a b:Int}(h:0<a)(k:a*b≤0):b≤0:=by
 rcases xjZ 0 b with z | z
 ·have:=pp h z;omega
 ·exact z
theorem plk (r l k z:R3):turn r l*turn k z-turn r k*turn l z+turn r z*turn l k=0:=by
 obtain⟨a,b,_⟩:=r;obtain⟨c,d,_⟩:=l;obtain⟨e,f,_⟩:=k;obtain⟨g,h,_⟩:=z
 simp only[turn];grind
theorem xiu (r l z:R3):z.1*turn r l=r.1*turn z l+l.1*turn r z:=by
 obtain⟨a,b,_⟩:=r;obtain⟨c,d,_⟩:=l;obtain⟨g,h,_⟩:=z
 simp only[turn];grind
theorem xic (r l z:R3):z.2.1*turn r l=r.2.1*turn z l+l.2.1*turn r z:=by
 obtain⟨a,b,_⟩:=r;obtain⟨c,d,_⟩:=l;obtain⟨g,h,_⟩:=z
 simp only[turn];grind
theorem xiQ (r l:R3):turn l r = - turn r l:=by
 obtain⟨a,b,_⟩:=r;obtain⟨c,d,_⟩:=l
 simp only[turn];grind
theorem proj (r x z:R3):dot r r*turn x z=dot r x*turn r z-turn r x*dot r z:=by
 obtain⟨a,b,_⟩:=r;obtain⟨c,d,_⟩:=x;obtain⟨g,h,_⟩:=z
 simp only[turn,dot];grind
theorem sq {a:Int}(h:a≠0):0<a*a:=by
 rcases xjZ 0 a with z | z
 ·exact pp z z
 ·have:0<(-a)*(-a):=pp (by omega) (by omega)
  rwa [Int.neg_mul_neg] at this
theorem sq0 (a:Int):0≤a*a:=by
 rcases xjZ 0 a with z | z
 ·exact pz (by omega) (by omega)
 ·exact nn z z
theorem xd8 {r:R3}(h:r.1≠0∨r.2.1≠0):0<dot r r:=by
 unfold dot
 have h1:=sq0 r.1
 have h2:=sq0 r.2.1
 rcases h with h | h
 ·have:=sq h;omega
 ·have:=sq h;omega
theorem xfz (h:turn r l≠0)(h1:turn r z=0)(h2:turn l z=0):z.1=0∧z.2.1=0:=by
 have b1:=xiu r l z
 have b2:=xic r l z
 have a1:=xiQ l z
 rw[h2] at a1
 rw[a1,h1] at b1 b2
 simp only[Int.mul_zero,Int.neg_zero,xjM] at b1 b2
 exact⟨(xj4.mp b1).resolve_right h,(xj4.mp b2).resolve_right h⟩
structure mW (r:R3)(s:Int)(rs:List R3)(l:R3):Prop where
 mem:l∈rs
 left:0<s*turn r l
 all:∀x∈rs,0<s*turn r x→s*turn l x≤0
theorem xjx (s:Int)(r l k z:R3):(s*turn r l)*(s*turn k z)=(s*turn r k)*(s*turn l z)-(s*turn r z)*(s*turn l k):=by
 have:=plk r l k z
 grind
def xiJ (r:R3)(s:Int)(done:List R3):Option R3→Prop
 | none=>∀x∈done,s*turn r x≤0
 | some l=>mW r s done l
theorem xbz {r:R3}{s:Int}:∀(rs done:List R3) (o:Option R3),xiJ r s done o→xiJ r s (done++rs) (rs.foldl (wA r s) o)
 | [],done,o,h=>by simpa using h
 | y::rs,done,o,h=>by
  rw[xkx]
  have ih:=xbz (r:=r) (s:=s) rs (done++[y]) (wA r s o y) (by
   unfold wA
   by_cases c:0<s*turn r y∧xbM s o y=true
   ·rw[if_pos c]
    obtain⟨c1,c2⟩:=c
    refine⟨by simp,c1,fun x hx hp=>?_⟩
    rcases xk2.mp hx with hx | hx
    ·cases o with
     | none=>exact absurd (show s*turn r x≤0 from h x hx) (by omega)
     | some l =>
      have h:mW r s done l:=h
      have c2:0<s*turn l y:=xlV c2
      have hl:s*turn l x≤0:=h.all x hx hp
      have e:=xjx s r l y x
      have p1:=pn (xjV c1) hl
      have p2:=pp hp c2
      exact xhb h.left (by rw[e];omega)
    ·have:x=y:=by simpa using hx
     subst this
     have:turn x x=0:=by unfold turn;grind
     rw[this];simp
   ·rw[if_neg c]
    cases o with
    | none =>
     intro x hx
     rcases xk2.mp hx with hx | hx
     ·exact h x hx
     ·have:x=y:=by simpa using hx
      subst this
      have c':¬0<s*turn r x:=fun z=>c ⟨z,rfl⟩
      omega
    | some l =>
     have h:mW r s done l:=h
     refine⟨xk3 _ h.mem,h.left,fun x hx hp=>?_⟩
     rcases xk2.mp hx with hx | hx
     ·exact h.all x hx hp
     ·have:x=y:=by simpa using hx
      subst this
      have c':¬0<s*turn l x:=fun z=>c ⟨hp,xlR z⟩
      omega)
  rwa [xkm] at ih
theorem pB (h:far r s rs=none):∀x∈rs,s*turn r x≤0:=by
 have:=xbz (r:=r) (s:=s) rs [] none (fun x hx=>by simp at hx)
 unfold far at h
 rw[h] at this
 intro x hx
 exact this x (by simpa using hx)
theorem km (h:far r s rs=some l):mW r s rs l:=by
 have:=xbz (r:=r) (s:=s) rs [] none (fun x hx=>by simp at hx)
 unfold far at h
 rw[h,xlh] at this
 exact this
theorem xam (hr:r∈rs)(r0:r.1≠0∨r.2.1≠0)(hl:mW r 1 rs l)(hk:mW r (-1) rs k)(h:0<turn l k∨back r rs=true)(hz:∀x∈rs,turn x z≤0):z.1=0∧z.2.1=0:=by
 have l1:0<turn r l:=by have:=hl.left;omega
 have k1:turn r k<0:=by have:=hk.left;omega
 have zr:=hz r hr
 have zl:=hz l hl.mem
 have zk:=hz k hk.mem
 have e:=plk r l k z
 have p1:=pn (xjV l1) zk
 have p2:=nn (xjV k1) zl
 have hz0:turn r z=0:=by
  rcases h with h | h
  ·have p3:=np zr (xjV h)
   have p4:turn r z*turn l k=0:=by omega
   exact(xj4.mp p4).resolve_right (by omega)
  ·unfold back at h
   rw[xkl] at h
   obtain⟨b,hb,c⟩:=h
   simp only[xjH,xlS] at c
   have q:=proj r b z
   rw[c.1] at q
   simp only[xkd,Int.sub_zero] at q
   have q1:=pn (xjV (xd8 r0)) (hz b hb)
   have q2:=nn (xjV c.2) zr
   have q3:dot r b*turn r z=0:=by omega
   exact(xj4.mp q3).resolve_left (by have:=c.2;omega)
 rw[hz0] at e
 simp only[xkd,xjM] at e
 have p5:turn r k*turn l z=0:=by omega
 exact xfz (by omega) hz0 ((xj4.mp p5).resolve_left (by omega))
theorem xc5 (r0:∀x∈rs,x.1≠0∨x.2.1≠0)(hr:r∈rs)(hl:mW r 1 rs l)(hk:mW r (-1) rs k)(h:¬0<turn l k)(hb:back r rs=false):∀x∈rs,turn l x≤0:=by
 intro x hx
 have l1:0<turn r l:=by have:=hl.left;omega
 have k1:turn r k<0:=by have:=hk.left;omega
 rcases xj0 (turn r x) 0 with c | c | c
 ·have kx:0≤turn k x:=by have:=hk.all x hx (by omega);omega
  have e:=plk r l k x
  have p1:=pz (xjV l1) kx
  have p2:=nn (xjV c) (by omega:turn l k≤0)
  have p3:0≤turn r k*turn l x:=by omega
  rcases xjZ 0 (turn l x) with z | z
  ·have p4:turn r k*turn l x<0:=xj8 k1 z
   omega
  ·exact z
 ·have q:=proj r x l
  rw[c] at q
  simp only[xkd,Int.sub_zero] at q
  have d0:0≤dot r x:=by
   rcases xjZ (dot r x) 0 with z | z
   ·exfalso
    have:back r rs=true:=by
     unfold back
     rw[xkl]
     exact⟨x,hx,by rw[xlR c,xlR z];rfl⟩
    rw[this] at hb;cases hb
   ·exact z
  have q1:=pz d0 (xjV l1)
  have q2:=xd8 (r0 r hr)
  have a:=xiQ x l
  rw[a]
  have:0≤turn x l:=by
   rcases xjZ (turn x l) 0 with z | z
   ·have:=xj9 q2 z
    omega
   ·exact z
  omega
 ·have:=hl.all x hx (by omega)
  omega
def RA (rs:List R3):Prop:=∀z∈rs,∀s:Int,(s=1∨s = -1)→∃x∈rs,0<s*turn z x
theorem xfO (r0:∀x∈rs,x.1≠0∨x.2.1≠0)(h:GR rs):RA rs:=fun z hz s hs=>by
 have key:∀x:R3,x.1*(s * -z.2.1)+x.2.1*(s*z.1)=s*turn z x:=fun x=>by unfold turn;grind
 obtain⟨x,hx,p⟩:=h (s * -z.2.1) (s*z.1) (by have:=r0 z hz;rcases hs with e | e<;>subst e<;>omega)
 exact⟨x,hx,by rw[key x] at p;exact p⟩
theorem aB (r0:∀x∈rs,x.1≠0∨x.2.1≠0)(ne:rs≠[])(h:RA rs):zj rs=true:=by
 have no:∀z:R3,z∈rs→∀s:Int,(s=1∨s = -1)→(∀x∈rs,s*turn z x≤0)→False:=fun z hz s hs hx=>by
  obtain⟨x,hxm,p⟩:=h z hz s hs
  have:=hx x hxm
  omega
 cases rs with
 | nil=>exact absurd rfl ne
 | cons r t =>
  have hr:r∈r::t:=xk7
  have e:zj (r::t)=match far r 1 (r::t),far r (-1) (r::t) with
   | some l,some k=>decide (0<turn l k) || back r (r::t)
   | _,_=>false:=rfl
  rw[e]
  cases e1:far r 1 (r::t) with
  | none=>exact(no r hr 1 (.inl rfl) (pB e1)).elim
  | some l =>
   cases e2:far r (-1) (r::t) with
   | none=>exact(no r hr (-1) (.inr rfl) (pB e2)).elim
   | some k =>
    show(decide (0<turn l k) || back r (r::t))=true
    have hl:=km e1
    have hk:=km e2
    rcases Classical.em ((decide (0<turn l k) || back r (r::t))=true) with q | q
    ·exact q
    ·exfalso
     simp only[xjL,xlS,not_or,Bool.not_eq_true] at q
     exact no l hl.mem 1 (.inl rfl) (fun x hx=>by have:=xc5 r0 hr hl hk q.1 q.2 x hx;omega)
theorem oE (r0:∀x∈rs,x.1≠0∨x.2.1≠0)(h:zj rs=true):GR rs:=by
 cases rs with
 | nil=>cases h
 | cons r t =>
  have hr:r∈r::t:=xk7
  have e:zj (r::t)=match far r 1 (r::t),far r (-1) (r::t) with
   | some l,some k=>decide (0<turn l k) || back r (r::t)
   | _,_=>false:=rfl
  rw[e] at h
  cases e1:far r 1 (r::t) with
  | none=>rw[e1] at h;cases h
  | some l =>
   cases e2:far r (-1) (r::t) with
   | none=>rw[e1,e2] at h;cases h
   | some k =>
    rw[e1,e2] at h
    have c:(decide (0<turn l k) || back r (r::t))=true:=h
    have hl:=km e1
    have hk:=km e2
    have c':0<turn l k∨back r (r::t)=true:=by simpa using c
    intro u v uv
    rcases Classical.em (∃x∈r::t,0<x.1*u+x.2.1*v) with q | q
    ·exact q
    ·exfalso
     have key:∀x:R3,turn x (-v,u,0)=x.1*u+x.2.1*v:=fun x=>by simp only[turn];grind
     have z:=xam hr (r0 r hr) hl hk c' (z:=(-v,u,0)) (fun x hx=>by
      rw[key x]
      rcases xjZ 0 (x.1*u+x.2.1*v) with w | w
      ·exact absurd ⟨x,hx,w⟩ q
      ·exact w)
     simp only at z
     omega
theorem xgw (h:GR rs):rs≠[]:=fun e=>by
 obtain⟨r,hr,_⟩:=h 1 0 (.inl (by decide))
 rw[e] at hr;simp at hr
theorem xba (r0:∀x∈rs,x.1≠0∨x.2.1≠0):zj rs=true↔GR rs:=⟨oE r0,fun h=>aB r0 (xgw h) (xfO r0 h)⟩
end Pol
namespace Pol
theorem oz (r:R3)(acc:List R3)(p:R3×R3):(yg r acc p).length≤acc.length+(seg r p).length:=by
 unfold yg seg
 by_cases c:val r p.1*val r p.2<0
 ·by_cases m:xo r p.1 p.2∈acc
  ·simp only[if_pos c,if_pos m]
   split<;>simp<;>omega
  ·simp only[if_pos c,if_neg m]
   split<;>simp<;>omega
 ·simp only[if_neg c]
  split<;>simp
theorem jS (r:R3):∀(ps:List (R3×R3)) (acc:List R3),(ps.foldl (yg r) acc).length≤acc.length+(ps.flatMap (seg r)).length
 | [],acc=>by simp
 | p::ps,acc=>by
  rw[xkx,List.flatMap_cons,xkL]
  have:=jS r ps (yg r acc p)
  have:=oz r acc p
  omega
theorem lY (r p q:R3):(bef r p q).length≤1:=by unfold bef;split<;>simp
theorem xco (h:Ccw l)(r:R3):(bY r l).length≤l.length+2:=by
 obtain⟨a,b,P,Q,e1,e2,hP,hQ⟩:=h.parts r
 obtain⟨c,d,f1,f2⟩:=cR r a b
 have el:(bY r l).length=(bY r (P++Q)).length:=by
  rw[e1,f1,←e2,f2,xkL,xkL];omega
 have ll:l.length=(P++Q).length:=by rw[e1,←e2,xkL,xkL];omega
 rw[el,ll]
 cases P with
 | nil =>
  rw[xlh,qC hQ];omega
 | cons p P =>
  cases Q with
  | nil=>rw[xkn,qM hP];simp
  | cons q Q =>
   rw[sG hP hQ]
   simp only[xkL,xkM]
   have:=lY r p (xm q Q)
   have:=lY r (xm p P) q
   omega
theorem xfx (h:Ccw l)(r:R3):(yP l r).length≤l.length+2:=by
 have:=jS r (cyc l) []
 have:=xco h r
 unfold yP bY at *
 simp at *
 omega
theorem gK:∀(rows Ls l:List R3),Good Ls l→(∀s∈Ls,s.1≠0∨s.2.1≠0)→(∀s∈rows,s.1≠0∨s.2.1≠0)→(rows.foldl yP l).length≤l.length+2*rows.length
 | [],Ls,l,_,_,_=>by simp
 | r::rows,Ls,l,g,d,d'=>by
  rw[xkx]
  have h1:=xfx g.ccw r
  have dr:=d' r xk7
  have h2:=gK rows (Ls++[r]) (yP l r) (ox g d) (fun s hs=>by
   rcases xk2.mp hs with h | h
   ·exact d s h
   ·rw[xlg.mp h];exact dr) (fun s hs=>d' s (xk6 _ hs))
  rw[xkM];omega
theorem s9 (d:∀s∈rows,s.1≠0∨s.2.1≠0):(pieces rows).length≤4+2*rows.length:=gK rows lT box cV (by decide) d
theorem nG (p:R3):∀l:List R3,(chain p l).length=l.length
 | []=>rfl
 | x::l=>by show(chain x l).length+1=_;rw[nG x l];rfl
theorem xfE:∀l:List R3,(cyc l).length=l.length
 | []=>rfl
 | x::l=>nG _ _
theorem oR (p:R3):∀(l:List R3) (i:Nat) (v:R3),l[i]? = some v→∃u,(p::l)[i]? = some u∧(chain p l)[i]? = some (u,v)
 | [],i,v,h=>by simp at h
 | x::l,0,v,h=>by simp at h;subst h;exact⟨p,rfl,rfl⟩
 | x::l,i+1,v,h=>by
  have h':l[i]? = some v:=by simpa using h
  obtain⟨u,e1,e2⟩:=oR x l i v h'
  exact⟨u,by simpa using e1,by show(chain x l)[i]? = _;exact e2⟩
theorem xhq (h:l[i]? = some v):∃u,u∈l∧(cyc l)[i]? = some (u,v)∧((i=0∧∃ys,l=ys++[u])∨(0<i∧l[i-1]? = some u)):=by
 cases l with
 | nil=>simp at h
 | cons x l =>
  obtain⟨u,e1,e2⟩:=oR (xm x l) (x::l) i v h
  cases i with
  | zero =>
   have:xm x l=u:=by simpa using e1
   subst this
   obtain⟨ys,e⟩:=fm x l
   exact⟨_,yk x l,e2,.inl ⟨rfl,ys,e⟩⟩
  | succ i =>
   have e1:(x::l)[i]? = some u:=by simpa using e1
   exact⟨u,xlc e1,e2,.inr ⟨by omega,by simpa using e1⟩⟩
theorem gy {α β:Type}(f:β→α→β)(b:β){l:List α}{i:Nat}{x:α}(h:l[i]? = some x):(l.take (i+1)).foldl f b=f ((l.take i).foldl f b) x:=by
 have hi:=(xkF.mp h).1
 rw[xls,h,xkw];rfl
end Pol
namespace Pol
def Ah (p q:R3):Prop:=p.1*q.2.2<q.1*p.2.2∨p.1*q.2.2=q.1*p.2.2∧p.2.1*q.2.2<q.2.1*p.2.2
theorem rA {a x b y c z:Int}(hx:0<x)(hy:0<y)(hz:0<z)(h1:a*y<b*x)(h2:b*z≤c*y):a*z<c*x:=by
 have e1:a*y*z<b*x*z:=xj7 h1 hz
 have e2:b*z*x≤c*y*x:=xj6 h2 (by omega)
 have:a*z*y<c*x*y:=by
  have e3:a*z*y=a*y*z:=by grind
  have e4:c*x*y=c*y*x:=by grind
  have e5:b*x*z=b*z*x:=by grind
  omega
 exact xjY this (by omega)
theorem xcr {a x b y c z:Int}(hx:0<x)(hy:0<y)(hz:0<z)(h1:a*y≤b*x)(h2:b*z<c*y):a*z<c*x:=by
 have e1:a*y*z≤b*x*z:=xj6 h1 (by omega)
 have e2:b*z*x<c*y*x:=xj7 h2 hx
 have:a*z*y<c*x*y:=by
  have e3:a*z*y=a*y*z:=by grind
  have e4:c*x*y=c*y*x:=by grind
  have e5:b*x*z=b*z*x:=by grind
  omega
 exact xjY this (by omega)
theorem xdo {a x b y c z:Int}(hy:0<y)(h1:a*y=b*x)(h2:b*z=c*y):a*z=c*x:=by
 have:a*z*y=c*x*y:=by grind
 exact xjS (by omega) this
theorem Ah.irrefl (p:R3):¬Ah p p:=by rintro(h | h)<;>omega
theorem Ah.trans {p q w:R3}(hp:0<p.2.2)(hq:0<q.2.2)(hw:0<w.2.2)(h1:Ah p q)(h2:Ah q w):Ah p w:=by
 rcases h1 with a | ⟨a,b⟩
 ·rcases h2 with c | ⟨c,d⟩
  ·exact .inl (rA hp hq hw a (by omega))
  ·exact .inl (rA hp hq hw a (by omega))
 ·rcases h2 with c | ⟨c,d⟩
  ·exact .inl (xcr hp hq hw (by omega) c)
  ·exact .inr ⟨xdo hq a c,rA hp hq hw b (by omega)⟩
theorem Ah.total (h1:¬Ah p q)(h2:¬Ah q p):tD p q:=by
 unfold Ah at h1 h2
 unfold tD
 omega
def qS (l:List R3):Prop:=∀h t,l=h::t→∀v∈l,¬Ah v h
theorem xcY (h:Ccw l)(ha:l[k]? = some a)(hb:l[k+1]? = some b):(∀w∈l,0≤det a b w)∧∀j c,k+1<j→l[j]? = some c→det a c b<0:=by
 have hk:=(xkF.mp hb).1
 have hk0:k<l.length:=by omega
 have ea:l[k]=a:=by rw[xkD hk0] at ha;exact xlL ha
 have eb:l[k+1]=b:=by rw[xkD hk] at hb;exact xlL hb
 have sp:l=l.take k++a::b::l.drop (k+2):=by
  rw[←ea,←eb,←xkp hk,←xkp hk0,xlq]
 constructor
 ·intro w hw
  refine h.edge ?_ hw
  cases l with
  | nil=>simp at hk
  | cons x t =>
   cases k with
   | zero =>
    have:chain (xm x t) (x::t)=(xm x t,x)::chain x t:=rfl
    show(a,b)∈chain (xm x t) (x::t)
    rw[this]
    refine xk6 _ (dM (s:=[]) (t:=(x::t).drop 2) ?_)
    simpa using sp
   | succ k =>
    have e:t=(x::t).tail:=rfl
    show(a,b)∈chain (xm x t) (x::t)
    exact dM (s:=xm x t::(x::t).take (k+1)) (t:=(x::t).drop (k+1+2)) (by
     rw[xko]
     exact xlN (List.cons _) sp)
 ·intro j c hj hc
  have s:List.Sublist [a,b,c] l:=by
   rw[sp]
   refine xkf ?_ (xlp _ _)
   refine List.Sublist.cons₂ _ (List.Sublist.cons₂ _ (xlm.mpr ?_))
   have:(l.drop (k+2))[j-(k+2)]? = some c:=by rw[xkC,←hc];congr 1;omega
   exact xlc this
  have:=h.tri a b c s
  have e:=aF a b c
  omega
theorem s_:∀ {l:List α},l.Nodup→a∈l→(∀x∈l,p x=true↔x=a)→l.filter p=[a]
 | [],_,h,_=>by simp at h
 | x::l,nd,h,hp=>by
  obtain⟨n1,n2⟩:=xlj.mp nd
  by_cases e:x=a
  ·subst e
   rw[xkv ((hp x xk7).mpr rfl)]
   congr 1
   rw[List.filter_eq_nil_iff]
   intro y hy py
   have:=(hp y (xk6 _ hy)).mp py
   subst this
   exact n1 hy
  ·rw[xku (fun py=>e ((hp x xk7).mp py))]
   exact s_ n2 ((xk5.mp h).resolve_left fun z=>e z.symm) fun y hy=>hp y (xk6 _ hy)
theorem sS:∀ {l k:List α},l.Nodup→k.Nodup→(∀x,x∈l↔x∈k)→l.length=k.length:=fun {l k} h1 h2 h=>((List.perm_ext_iff_of_nodup h1 h2).mpr h).length_eq
def yw (s t:R3):R3:=if turn s t<0 then(-(s.2.2*t.2.1-s.2.1*t.2.2),-(s.1*t.2.2-s.2.2*t.1),-turn s t) else(s.2.2*t.2.1-s.2.1*t.2.2,s.1*t.2.2-s.2.2*t.1,turn s t)
theorem vP (h:turn s t≠0):0<(yw s t).2.2∧val s (yw s t)=0∧val t (yw s t)=0:=by
 unfold yw
 split
 ·refine⟨by simp only;omega,?_,?_⟩<;>simp only[val,turn]<;>grind
 ·refine⟨by simp only;omega,?_,?_⟩<;>simp only[val,turn]<;>grind
theorem mY (h:turn s t≠0)(h1:val s v=0)(h2:val t v=0):tD (yw s t) v:=xgv h (vP h).2.1 (vP h).2.2 h1 h2
end Pol
namespace L2
open PySem PySem.Spec PyProof.Rows
def Bk (k:Nat)(i:Int):Prop:=i.natAbs<2 ^ k
theorem Bk.mono (h:Bk k i)(hk:k≤m):Bk m i:=xlB h (Nat.pow_le_pow_right (by decide) hk)
theorem Bk.mul (h:Bk k i)(h':Bk m j):Bk (k+m) (i*j):=by
 unfold Bk at *
 rw[xka,Nat.pow_add]
 exact Nat.mul_lt_mul'' h h'
theorem Bk.add {k:Nat}{i j:Int}(h:Bk k i)(h':Bk k j):Bk (k+1) (i+j):=by
 unfold Bk at *
 rw[Nat.pow_succ]
 have:=Int.natAbs_add_le i j
 omega
theorem Bk.neg (h:Bk k i):Bk k (-i):=by unfold Bk at *;rw[Int.natAbs_neg];exact h
theorem Bk.sub (h:Bk k i)(h':Bk k j):Bk (k+1) (i-j):=by rw[Int.sub_eq_add_neg];exact h.add h'.neg
theorem Bk.bd (h:Bk k i)(hk:k≤2000:=by decide):Bd i:=h.mono hk
theorem Bk.abs (h:Bk k i):Bk k (if i<0 then -i else i):=by split;exact h.neg;exact h
theorem Bk.le (h:Bk k i)(hl:j.natAbs≤i.natAbs):Bk k j:=xlA hl h
def B3k (k:Nat)(r:Pol.R3):Prop:=(Bk k r.1∧Bk k r.2.1)∧Bk k r.2.2
theorem B3k.mono (h:B3k k r)(hk:k≤m):B3k m r:=⟨⟨h.1.1.mono hk,h.1.2.mono hk⟩,h.2.mono hk⟩
def B3 (r:Pol.R3):Prop:=(Bd r.1∧Bd r.2.1)∧Bd r.2.2
theorem B3k.b3 (h:B3k k r)(hk:k≤2000:=by decide):B3 r:=h.mono hk
theorem B3k.val (h:B3k k r)(h':B3k m p):Bk (k+m+2) (Pol.val r p) :=
 ((h.1.1.mul h'.1.1).add (h.1.2.mul h'.1.2)).sub ((h.2.mul h'.2).mono (xlx _))
def xfV:Tr→Bool
 | .int _=>true
 | _=>false
def frT (n d:Int):Tr:=.tup [.int n,.int d]
def oh (t b:Int):Int:=t / (Int.gcd t b:Int)
def mB (t b:Int):Int:=b / (Int.gcd t b:Int)
def trR (r:Pol.R3):Tr:=.tup [.int r.1,.int r.2.1,.int r.2.2]
def wc (v:Pol.R3):Tr:=.tup [frT (oh v.1 v.2.2) (mB v.1 v.2.2),frT (oh v.2.1 v.2.2) (mB v.2.1 v.2.2)]
theorem bf (p:Pol.R3):pln (trR p)=true:=rfl
theorem xbA (p q:Pol.R3):teq (trR p) (trR q)=decide (p=q):=by
 have e:teq (trR p) (trR q)=(decide (p.1=q.1)&&(decide (p.2.1=q.2.1)&&(decide (p.2.2=q.2.2)&&true))):=rfl
 rw[e]
 by_cases h:p=q
 ·subst h;simp
 ·rw[xlP h]
  by_cases h1:p.1=q.1
  ·by_cases h2:p.2.1=q.2.1
   ·by_cases h3:p.2.2=q.2.2
    ·exact absurd (Pol.ext3 h1 h2 h3) h
    ·simp[h3]
   ·simp[h2]
  ·simp[h1]
theorem uE (f:α→Tr)(h:∀x,pln (f x)=true):∀l:List α,PyData.canLayAll0 (ui (l.map f))=true
 | []=>rfl
 | x::l=>by
  show((vL (f x)).canLay0&&PyData.canLayAll0 (ui (l.map f)))=true
  rw[uE f h l,show(vL (f x)).canLay0=true from h x];rfl
theorem xb7 (l:List Pol.R3)(c:Pol.R3):((l.map trR).any fun u=>teq u (trR c))=decide (c∈l):=by
 rw[xjI,xkl,xlS]
 constructor
 ·rintro⟨u,hu,h⟩
  obtain⟨x,hx,rfl⟩:=xla.mp hu
  rw[xbA,xlS] at h
  subst h;exact hx
 ·intro h
  exact⟨trR c,xlb h,by rw[xbA];simp⟩
theorem xcs (hx:0≤x)(hy:0≤y):Int.gcd y (x % y)=Int.gcd x y:=by
 obtain⟨n,rfl⟩:=xjR hy
 obtain⟨m,rfl⟩:=xjR hx
 show Nat.gcd n (((m % n:Nat):Int)).natAbs=Nat.gcd m n
 rw[Int.natAbs_natCast,Nat.gcd_comm m n,Nat.gcd_rec n m,Nat.gcd_comm]
theorem xbC (hb:b≠0)(h:Bd b):Bd (Int.gcd t b:Int):=by
 unfold Bd
 refine xlA ?_ h
 have:=Int.gcd_le_natAbs_right (a:=t) hb
 omega
def xd4:TSp:=fun ts KK=>∃t,ts=[t]∧KK (.bl (xfV t))
def tK:TSp:=fun ts KK=>∃t,ts=[t]∧∃us,(t=.tup us∨t=.lst us)∧us.length<sizeLine∧KK (.bl (us.all xfV))
def xgM:TSp:=fun ts KK=>∃a b:Int,ts=[.int a,.int b]∧KK (.int (Int.gcd a b))
def xjb:TSp:=fun ts KK=>∃t b:Int,ts=[.int t,.int b]∧b≠0∧Bd b∧KK (frT (oh t b) (mB t b))
def bU:TSp:=fun ts KK=>∃r p:Pol.R3,ts=[trR r,trR p]∧B3 r∧B3 p∧KK (.int (Pol.val r p))
def cT:TSp:=fun ts KK=>∃r u v:Pol.R3,ts=[trR r,trR u,trR v]∧(B3k 100 r∧B3k 800 u∧B3k 800 v)∧(0<u.2.2∧0<v.2.2)∧Pol.val r u*Pol.val r v<0∧KK (trR (Pol.xo r u v))
def ahead (p q:Pol.R3):Bool:=decide (p.1*q.2.2<q.1*p.2.2∨p.1*q.2.2=q.1*p.2.2∧p.2.1*q.2.2<q.2.1*p.2.2)
def xd0:TSp:=fun ts KK=>∃p q:Pol.R3,ts=[trR p,trR q]∧B3 p∧B3 q∧KK (.bl (ahead p q))
def fO:TSp:=fun ts KK=>∃(l:List Pol.R3) (r:Pol.R3),ts=[.lst (l.map trR),trR r]∧B3k 100 r∧(∀v∈l,B3k 800 v∧0<v.2.2)∧l.length≤100000∧KK (.lst ((Pol.yP l r).map trR))
def ye (l:List Pol.R3)(s i:Nat):Nat:=if ahead (l.getD i (0,0,0)) (l.getD s (0,0,0))=true then i else s
def vR (l:List Pol.R3):Nat:=(List.range l.length).foldl (ye l) 0
def yi (l:List Pol.R3):List Pol.R3:=l.drop (vR l)++l.take (vR l)
def ak:TSp:=fun ts KK=>∃l:List Pol.R3,ts=[.lst (l.map trR)]∧(∀v∈l,B3 v)∧l.length≤100000∧KK (.lst ((yi l).map trR))
structure kP (rows:List Pol.R3):Prop where
 dir:∀r∈rows,r.1≠0∨r.2.1≠0
 sm:∀r∈rows,B3k 100 r
 len:rows.length≤10000
def pQ:TSp:=fun ts KK=>∃(t:Tr) (r0 rows:List Pol.R3),ts=[.lst ((Pol.pieces r0).map trR),t]∧(t=.tup (rows.map trR)∨t=.lst (rows.map trR))∧kP (r0++rows)∧KK (.lst ((Pol.pieces (r0++rows)).map trR))
def sU:TSp:=fun ts KK=>∃(t:Tr) (rows:List Pol.R3),ts=[t]∧(t=.tup (rows.map trR)∨t=.lst (rows.map trR))∧kP rows∧KK (.lst ((Pol.pieces rows).map trR))
def mO:TSp:=fun ts KK=>∃l:List Pol.R3,ts=[.lst (l.map trR)]∧(∀v∈l,B3k 800 v∧0<v.2.2)∧l.length≤100000∧KK (.lst ((yi l).map wc))
def gJ:TSp:=fun ts KK=>∃(t:Tr) (rows:List Pol.R3),ts=[t]∧(t=.tup (rows.map trR)∨t=.lst (rows.map trR))∧kP rows∧KK (.lst ((yi (Pol.pieces rows)).map wc))
def jc:Tr→Option Pol.R3
 | .tup [.int a,.int b,.int c]=>some (a,b,c)
 | _=>none
def vN (t:Tr):Bool:=match jc t with | some r=>decide (r.1≠0∨r.2.1≠0) | none=>false
def xdM:TSp:=fun ts KK=>∃t,ts=[t]∧KK (.bl (vN t))
def xcS:TSp:=fun ts KK=>∃(a b c d:Int) (x y:List Tr),ts=[.tup (.int a::.int b::x),.tup (.int c::.int d::y)]∧((Bd a∧Bd b)∧Bd c∧Bd d)∧KK (.int (a*d-b*c))
def xh3:Option Pol.R3→Tr
 | some r=>trR r
 | none=>.non
def t8:TSp:=fun ts KK=>∃(r:Pol.R3) (rows:List Pol.R3) (s:Int),ts=[trR r,.tup (rows.map trR),.int s]∧(s=1∨s = -1)∧B3k 900 r∧(∀x∈rows,B3k 900 x)∧KK (xh3 (Pol.far r s rows))
def xgn:TSp:=fun ts KK=>∃(r:Pol.R3) (rows:List Pol.R3),ts=[trR r,.tup (rows.map trR)]∧B3k 900 r∧(∀x∈rows,B3k 900 x)∧KK (.bl (Pol.back r rows))
def p9:TSp:=fun ts KK=>∃rows:List Pol.R3,ts=[.tup (rows.map trR)]∧(∀x∈rows,B3k 900 x)∧KK (.bl (Pol.zj rows))
instance (r:Pol.R3):Decidable (Pol.uC r):=by unfold Pol.uC;infer_instance
def yh (t:Tr):Bool:=match jc t with | some r=>decide ((r.1≠0∨r.2.1≠0)∧Pol.uC r) | none=>false
def dO:TSp:=fun ts KK=>∃t,ts=[t]∧KK (.bl (yh t))
def nearF (n d:Int):Bool:=decide (-(12*d)≤n∧n≤12*d)
def xau:TSp:=fun ts KK=>∃fs:List (Int×Int),ts=[.tup (fs.map fun f=>frT f.1 f.2)]∧fs.length≤1000∧(∀f∈fs,Bd f.2)∧KK (.bl (fs.all fun f=>nearF f.1 f.2))
def qN (v:Pol.R3):Bool:=nearF (oh v.1 v.2.2) (mB v.1 v.2.2)&&nearF (oh v.2.1 v.2.2) (mB v.2.1 v.2.2)
def rowsOf:List Tr→Option (List Pol.R3)
 | []=>some []
 | t::ts=>match jc t,rowsOf ts with | some r,some rs=>some (r::rs) | _,_=>none
def xt (rows:List Pol.R3):Bool:=decide (3≤rows.length∧rows.length≤8)&&(rows.all fun r=>decide ((r.1≠0∨r.2.1≠0)∧Pol.uC r))&&Pol.zj rows&&(Pol.pieces rows).all qN
def isField:Tr→Bool
 | .tup us=>match rowsOf us with | some rows=>xt rows | none=>false
 | _=>false
def aD:TSp:=fun ts KK=>∃t,ts=[t]∧KK (.bl (isField t))
end L2
namespace L2
open PySem PySem.Spec PyProof.Rows
theorem tz (ts:List α)(s:Nat):fV ts (some (s:Int)) none=ts.drop s:=by
 unfold fV
 rw[HT.xab,HT.oI]
 by_cases h:s≤ts.length
 ·rw[Nat.min_eq_left h,xlr (by rw[xkN];omega)]
 ·rw[Nat.min_eq_right (by omega),List.drop_eq_nil_of_le (xlw _),List.drop_eq_nil_of_le (by omega)];simp
theorem oa (ts:List α)(s:Nat):fV ts none (some (s:Int))=ts.take s:=by
 unfold fV
 rw[HT.xab,HT.oI,xkr,xlI]
 by_cases h:s≤ts.length
 ·rw[Nat.min_eq_left h]
 ·rw[Nat.min_eq_right (by omega),xlr (xlw _),xlr (by omega)]
theorem om {α:Type}{f:α→Tr}{l:List α}{i:Nat}{x:Tr}(h:(k9 (l.map f))[i]? = some x):∃v,l[i]? = some v∧x=.tup [.int i,f v]:=by
 have hi:i<l.length:=by
  have:=(xkF.mp h).1
  unfold k9 at this
  rw[uI,xkP] at this
  exact this
 have e:(l.map f)[i]? = some (f l[i]):=by rw[xkG,xkD hi];rfl
 unfold k9 at h
 rw[jv e] at h
 refine⟨l[i],xkD hi,?_⟩
 have:=xlL h
 rw[←this];simp
theorem pV (f:α→Tr)(l:List α):(k9 (l.map f)).length=l.length:=by unfold k9;rw[uI,xkP]
theorem lP {l:List Pol.R3}{i:Nat}{v:Pol.R3}(h:l[i]? = some v):∃u,u∈l∧(Pol.cyc l)[i]? = some (u,v)∧atT (l.map trR) ((i:Int)-1)=some (trR u):=by
 obtain⟨u,hu,hc,hw⟩:=Pol.xhq h
 refine⟨u,hu,hc,?_⟩
 rcases hw with ⟨rfl,ys,e⟩ | ⟨h0,e⟩
 ·rw[e,xkV]
  exact aE (ys.map trR) (trR u)
 ·rw[show((i:Int)-1)=((i-1:Nat):Int) by omega,aZ,xkG,e];rfl
theorem lh (g:Pol.Good Ls l)(hs:∀s∈Ls,B3k k s):∀v∈l,B3k (2*k+1) v:=fun v hv=>by
 obtain⟨s,hs1,t,ht1,e1,e2,hn⟩:=g.two v hv
 have z:=g.bot v hv
 obtain⟨b1,b2,b3⟩:=Pol.gD (g.prim v hv) z e1 e2 hn
 have S:=hs s hs1
 have T:=hs t ht1
 have m:∀ {x y z w:Int},Bk k x→Bk k y→Bk k z→Bk k w→Bk (2*k+1) (x*y-z*w):=fun h1 h2 h3 h4=>((h1.mul h2).sub (h3.mul h4)).mono (by omega)
 refine⟨⟨(m S.2 T.1.2 T.2 S.1.2).le b2,(m T.2 S.1.1 S.2 T.1.1).le b3⟩,?_⟩
 have:=m S.1.1 T.1.2 S.1.2 T.1.1
 refine this.le ?_
 unfold Pol.turn at b1
 omega
theorem xa2:∀s∈Pol.lT,B3k 100 s:=fun s hs=>by
 have h:s∈Pol.lT:=hs
 simp only[Pol.lT,xk5,xlk,xlW] at h
 unfold B3k Bk
 rcases h with rfl | rfl | rfl | rfl<;>simp only[Pol.FAR]<;>decide
theorem kP.good (h:kP rows)(i:Nat):Pol.Good (Pol.lT++rows.take i) ((rows.take i).foldl Pol.yP Pol.box):=Pol.wL (rows:=rows.take i) fun s hs=>h.dir s (xle hs)
theorem kP.small (h:kP rows)(i:Nat):∀v∈(rows.take i).foldl Pol.yP Pol.box,B3k 800 v∧0<v.2.2:=fun v hv=>by
 have g:=h.good i
 refine⟨(lh g (k:=100) (fun s hs=>?_) v hv).mono (by decide),g.bot v hv⟩
 rcases xk2.mp hs with z | z
 ·exact xa2 s z
 ·exact h.sm s (xle z)
theorem kP.plen (h:kP rows)(i:Nat):((rows.take i).foldl Pol.yP Pol.box).length≤100000:=by
 have:=Pol.s9 (rows:=rows.take i) fun s hs=>h.dir s (xle hs)
 unfold Pol.pieces at this
 have l:(rows.take i).length≤rows.length:=by rw[xkT];omega
 have:=h.len
 omega
theorem wq (h:v∈yi l):v∈l:=by
 unfold yi at h
 rcases xk2.mp h with h | h
 ·exact xld h
 ·exact xle h
theorem aX (p:Pol.R3→Bool)(l:List Pol.R3):(yi l).all p=l.all p:=by
 unfold yi
 rw[List.all_append,Bool.and_comm,←List.all_append,xlq]
theorem vQ (l:List Pol.R3):(yi l).length=l.length:=by
 unfold yi
 rw[xkL,xkN,xkT];omega
theorem xhh (a b c d:Int):HT.lexLt [a,b] [c,d]=decide (a<c∨a=c∧b<d):=by
 simp only[HT.lexLt]
 by_cases h:a<c
 ·simp[h];omega
 ·by_cases h2:a=c
  ·subst h2;simp;omega
  ·simp[h,h2]
theorem xaI {α:Type}{l:List α}{n:Nat}(e:l.length=n)(h:n≤1000000:=by decide):l.length<sizeLine:=sqz (by omega)
theorem xeK (hz:0<z)(h:Bd z):Bd (mB i z):=by
 unfold mB
 have g:(0:Int)<(Int.gcd i z:Int):=by have:=xjU i (show z≠0 by omega);omega
 have h1:=Int.ediv_le_self (Int.gcd i z:Int) (show 0≤z by omega)
 have h2:=Int.ediv_nonneg (show 0≤z by omega) (show 0≤(Int.gcd i z:Int) by omega)
 unfold Bd at *
 omega
theorem uA (h:jc t=some r):t=trR r:=by
 unfold jc at h
 split at h
 ·cases h;rfl
 ·cases h
theorem jZ (rows:List Pol.R3):rowsOf (rows.map trR)=some rows:=by
 induction rows with
 | nil=>rfl
 | cons r rows ih =>
  show(match jc (trR r),rowsOf (rows.map trR) with | some r,some rs=>some (r::rs) | _,_=>none)=_
  rw[ih];rfl
theorem wU:∀ {us:List Tr} {rows:List Pol.R3},rowsOf us=some rows→us=rows.map trR
 | [],rows,h=>by cases h;rfl
 | t::us,rows,h=>by
  unfold rowsOf at h
  cases e1:jc t with
  | none=>rw[e1] at h;cases h
  | some r =>
   cases e2:rowsOf us with
   | none=>rw[e1,e2] at h;cases h
   | some rs =>
    rw[e1,e2] at h
    cases h
    rw[uA e1,wU e2];rfl
theorem bQ (h:us.all yh=true):∃rows:List Pol.R3,us=rows.map trR∧∀r∈rows,(r.1≠0∨r.2.1≠0)∧Pol.uC r:=by
 induction us with
 | nil=>exact⟨[],rfl,fun r hr=>by simp at hr⟩
 | cons t us ih =>
  rw[xkg,xjH] at h
  obtain⟨rows,e,hr⟩:=ih h.2
  have ht:=h.1
  unfold yh at ht
  cases e1:jc t with
  | none=>rw[e1] at ht;cases ht
  | some r =>
   rw[e1] at ht
   have ht:=xlV ht
   refine⟨r::rows,by rw[uA e1,e];rfl,fun x hx=>?_⟩
   rcases xk5.mp hx with z | z
   ·rw[z];exact ht
   ·exact hr x z
theorem ae (h:Pol.uC r):B3k 100 r:=by
 obtain⟨⟨⟨a,b⟩,c,d⟩,e,f⟩:=h
 refine⟨⟨?_,?_⟩,?_⟩<;>unfold Bk<;>omega
theorem d_ (rows:List Pol.R3):(rows.map trR).all yh=rows.all fun r=>decide ((r.1≠0∨r.2.1≠0)∧Pol.uC r):=by
 rw[xkj];rfl
theorem sO (h:us.all yh=false):isField (.tup us)=false:=by
 show(match rowsOf us with | some rows=>xt rows | none=>false)=false
 cases e:rowsOf us with
 | none=>rfl
 | some rows =>
  rw[wU e,d_] at h
  show xt rows=false
  unfold xt
  rw[h];simp
end L2
namespace Fra
def gd (a b:Int):Int:=(Int.gcd a b:Int)
def low (n d:Int):Int×Int:=(n / gd n d,d / gd n d)
theorem mw (a b:Int):0≤gd a b:=xkb _
theorem pN (h:a≠0∨b≠0):0<gd a b:=by
 unfold gd
 have:0<Int.gcd a b:=by
  rcases h with h | h
  ·exact Int.gcd_pos_of_ne_zero_left _ h
  ·exact xjU _ h
 omega
theorem ft (a b:Int):gd a b ∣ a:=Int.gcd_dvd_left ..
theorem jL (a b:Int):gd a b ∣ b:=Int.gcd_dvd_right ..
theorem xfB (a:Int):gd a 0=if a<0 then -a else a:=by
 unfold gd
 rw[Int.gcd_zero_right]
 split<;>omega
theorem xcn (h:∀k:Int,(k ∣ a∧k ∣ b)↔(k ∣ c∧k ∣ d)):gd a b=gd c d:=by
 have e1:gd a b ∣ gd c d:=xjN ((h _).mp ⟨ft a b,jL a b⟩).1 ((h _).mp ⟨ft a b,jL a b⟩).2
 have e2:gd c d ∣ gd a b:=xjN ((h _).mpr ⟨ft c d,jL c d⟩).1 ((h _).mpr ⟨ft c d,jL c d⟩).2
 exact Int.dvd_antisymm (mw _ _) (mw _ _) e1 e2
theorem xfy (a b q:Int):gd b (a-b*q)=gd a b:=by
 refine xcn fun k=>⟨fun⟨h1,h2⟩=>⟨?_,h1⟩,fun⟨h1,h2⟩=>⟨h2,?_⟩⟩
 ·have:=Int.dvd_add h2 (Int.dvd_mul_of_dvd_left (c:=q) h1)
  rwa [Int.sub_add_cancel] at this
 ·exact Int.dvd_sub h1 (Int.dvd_mul_of_dvd_left h2)
theorem xfQ (a b:Int):gd b (a.fmod b)=gd a b:=by
 rw[Int.fmod_def];exact xfy a b _
theorem o7 {a b:Int}(h:b≠0):(a.fmod b).natAbs<b.natAbs:=by
 by_cases hb:0<b
 ·have h1:=Int.fmod_nonneg_of_pos a hb
  have h2:=Int.fmod_lt_of_pos a hb
  omega
 ·have hn:0 < -b:=by omega
  have e:a.fmod b = - ((-a).fmod (-b)):=by rw[Int.neg_fmod_neg];omega
  have h1:=Int.fmod_nonneg_of_pos (-a) hn
  have h2:=Int.fmod_lt_of_pos (-a) hn
  omega
theorem xbV (n d:Int):(low n d).1*gd n d=n:=Int.ediv_mul_cancel (ft n d)
theorem bj (n d:Int):(low n d).2*gd n d=d:=Int.ediv_mul_cancel (jL n d)
theorem jt (n d:Int):(low n d).1*d=n*(low n d).2:=by
 have h1:=xbV n d
 have h2:=bj n d
 grind
theorem dG (h:0<d):0<(low n d).2:=by
 have h2:=bj n d
 have g:=pN (a:=n) (b:=d) (.inr (by omega))
 generalize gd n d=k at *
 generalize (low n d).2=m at *
 by_cases hm:0<m
 ·exact hm
 ·have:m*k≤0:=Int.mul_nonpos_of_nonpos_of_nonneg (by omega) (by omega)
  omega
theorem xci (h:0<d):Int.gcd (low n d).1 (low n d).2=1:=by
 have g:=pN (a:=n) (b:=d) (.inr (by omega))
 unfold low gd at *
 exact Int.gcd_ediv_gcd_ediv_gcd (by omega)
theorem xbl (h:b ∣ a*d)(g:Int.gcd b a=1):b ∣ d:=by
 have h':b.natAbs ∣ a.natAbs*d.natAbs:=by rw[←xka];exact Int.natAbs_dvd_natAbs.mpr h
 exact Int.natAbs_dvd_natAbs.mp (Nat.Coprime.dvd_of_dvd_mul_left (show Nat.Coprime b.natAbs a.natAbs from g) h')
theorem oX (h1:Int.gcd a b=1)(h2:Int.gcd c d=1)(hb:0<b)(hd:0<d)(e:a*d=c*b):a=c∧b=d:=by
 have k1:b ∣ d:=by
  have:b ∣ a*d:=⟨c,by rw[e,xj1]⟩
  exact xbl this (by rw[Int.gcd_comm];exact h1)
 have k2:d ∣ b:=by
  have:d ∣ c*b:=⟨a,by rw[←e,xj1]⟩
  exact xbl this (by rw[Int.gcd_comm];exact h2)
 have ebd:b=d:=Int.dvd_antisymm (by omega) (by omega) k1 k2
 subst ebd
 exact⟨xjS (by omega) e,rfl⟩
theorem gv (h:0<d)(h':0<d')(e:n*d'=n'*d):low n d=low n' d':=by
 have c1:=xci (n:=n) h
 have c2:=xci (n:=n') h'
 have p1:=dG (n:=n) h
 have p2:=dG (n:=n') h'
 have x1:=jt n d
 have x2:=jt n' d'
 have key:(low n d).1*(low n' d').2=(low n' d').1*(low n d).2:=by
  generalize (low n d).1=a at *
  generalize (low n d).2=b at *
  generalize (low n' d').1=c at *
  generalize (low n' d').2=f at *
  have:(a*f)*(d*d')=(c*b)*(d*d'):=by grind
  exact xjS (by have:=xj_ h h';omega) this
 obtain⟨u,v⟩:=oX c1 c2 p1 p2 key
 exact Prod.ext u v
end Fra
namespace L2
open PySem PySem.Spec PyProof.Rows
abbrev F2:=Int×Int
abbrev P2:=F2×F2
def fT (f:F2):Tr:=frT f.1 f.2
def pT (p:P2):Tr:=.tup [fT p.1,fT p.2]
def lfr (t b:Int):F2:=if b<0 then Fra.low (-t) (-b) else Fra.low t b
theorem xar (h:0<b):lfr t b=Fra.low t b:=by unfold lfr;rw[if_neg (by omega)]
theorem xfT (h:b<0):lfr t b=Fra.low (-t) (-b):=by unfold lfr;rw[if_pos h]
def plc (v:Pol.R3):P2:=(Fra.low v.1 v.2.2,Fra.low v.2.1 v.2.2)
theorem qr (v:Pol.R3):wc v=pT (plc v):=rfl
def xdK (r:Pol.R3)(p:P2):F2:=lfr (r.1*p.1.1*p.2.2+r.2.1*p.2.1*p.1.2) (p.1.2*p.2.2)
def kJ (f g:F2):Bool:=decide (f.1*g.2<g.1*f.2)
def fmin (f g:F2):F2:=lfr (f.1*g.2-g.1*f.2) (f.2*g.2)
def xeT (f g:F2):F2:=lfr (f.1*g.1) (f.2*g.2)
def gE (p q w:P2):Int:=(fmin (xeT (fmin q.1 p.1) (fmin w.2 p.2)) (xeT (fmin q.2 p.2) (fmin w.1 p.1))).1
def dy (r:Pol.R3)(p:P2):Bool:=decide ((xdK r p).1≤r.2.2*(xdK r p).2)
structure Fk (k:Nat)(f:F2):Prop where
 top:Bk k f.1
 bot:Bk k f.2
 pos:0<f.2
theorem Fk.mono (h:Fk k f)(hk:k≤m):Fk m f:=⟨h.top.mono hk,h.bot.mono hk,h.pos⟩
theorem pJ (h:0<b)(ht:Bk k t)(hb:Bk k b):Fk k (Fra.low t b):=by
 have g:=Fra.pN (a:=t) (b:=b) (.inr (by omega))
 refine⟨ht.le ?_,hb.le ?_,Fra.dG h⟩
 ·have e:=Fra.xbV t b
  generalize (Fra.low t b).1=x at *
  generalize Fra.gd t b=y at *
  rw[←e,xka]
  exact xlu _ (by omega)
 ·have e:=Fra.bj t b
  generalize (Fra.low t b).2=x at *
  generalize Fra.gd t b=y at *
  have:b.natAbs=x.natAbs*y.natAbs:=by rw[←xka,e]
  rw[this]
  exact xlu _ (by omega)
theorem xah (h:b≠0)(ht:Bk k t)(hb:Bk k b):Fk k (lfr t b):=by
 unfold lfr
 split
 ·exact pJ (by omega) ht.neg hb.neg
 ·exact pJ (by omega) ht hb
structure Sd (f:F2)(N D:Int):Prop where
 pf:0<f.2
 pd:0<D
 e:f.1*D=N*f.2
theorem xbN (h:0<b):Sd (Fra.low t b) t b:=⟨Fra.dG h,h,Fra.jt t b⟩
theorem Sd.lfr (hb:0<b)(hD:0<D)(e:t*D=N*b)(hf:f=L2.lfr t b):Sd f N D:=by
 subst hf
 rw[xar hb]
 refine⟨Fra.dG hb,hD,?_⟩
 have h:=Fra.jt t b
 generalize (Fra.low t b).1=x at *
 generalize (Fra.low t b).2=y at *
 have:(x*D)*b=(N*y)*b:=by grind
 exact xjS (by omega) this
theorem Sd.minus (h:Sd f N D)(h':Sd g M E):Sd (fmin f g) (N*E-M*D) (D*E):=by
 refine Sd.lfr (Pol.pp h.pf h'.pf) (Pol.pp h.pd h'.pd) ?_ rfl
 have:=h.e;have:=h'.e
 grind
theorem Sd.times (h:Sd f N D)(h':Sd g M E):Sd (xeT f g) (N*M) (D*E):=by
 refine Sd.lfr (Pol.pp h.pf h'.pf) (Pol.pp h.pd h'.pd) ?_ rfl
 have:=h.e;have:=h'.e
 grind
theorem ku {a b k:Int}(hk:0<k):a*k≤b*k↔a≤b:=⟨fun h=>Int.le_of_mul_le_mul_right h hk,fun h=>xj6 h (by omega)⟩
theorem hG {a b k:Int}(hk:0<k):a*k<b*k↔a<b:=⟨fun h=>xjY h (by omega),fun h=>xj7 h hk⟩
theorem aj {a b k:Int}(hk:0<k):a*k=b*k↔a=b:=⟨fun h=>xjS (by omega) h,fun h=>by rw[h]⟩
theorem qW {a k:Int}(hk:0<k):a*k<0↔a<0:=by
 have:=hG (a:=a) (b:=0) hk
 rwa [xkd] at this
theorem Sd.le {f:F2}{N D:Int}(h:Sd f N D)(c:Int):f.1≤c*f.2↔N≤c*D:=by
 have e:=h.e
 rw[←ku h.pd,e,show c*f.2*D=(c*D)*f.2 by grind,ku h.pf]
theorem Sd.neg {f:F2}{N D:Int}(h:Sd f N D):f.1<0↔N<0:=by
 have e:=h.e
 rw[←qW h.pd,e,qW h.pf]
theorem Sd.lt {f g:F2}{N D M E:Int}(h:Sd f N D)(h':Sd g M E):f.1*g.2<g.1*f.2↔N*E<M*D:=by
 have e:=h.e;have e':=h'.e
 rw[←hG (Pol.pp h.pd h'.pd),show f.1*g.2*(D*E)=(N*E)*(f.2*g.2) by grind,show g.1*f.2*(D*E)=(M*D)*(f.2*g.2) by grind,hG (Pol.pp h.pf h'.pf)]
theorem Sd.eq {f g:F2}{N D M E:Int}(h:Sd f N D)(h':Sd g M E):f.1*g.2=g.1*f.2↔N*E=M*D:=by
 have e:=h.e;have e':=h'.e
 rw[←aj (Pol.pp h.pd h'.pd),show f.1*g.2*(D*E)=(N*E)*(f.2*g.2) by grind,show g.1*f.2*(D*E)=(M*D)*(f.2*g.2) by grind,aj (Pol.pp h.pf h'.pf)]
section
variable {p q v w:Pol.R3}
theorem sdx (h:0<v.2.2):Sd (plc v).1 v.1 v.2.2:=xbN h
theorem sdy (h:0<v.2.2):Sd (plc v).2 v.2.1 v.2.2:=xbN h
theorem xeV (r:Pol.R3)(h:0<v.2.2):Sd (xdK r (plc v)) (r.1*v.1+r.2.1*v.2.1) v.2.2:=by
 have a:=sdx h;have b:=sdy h
 refine Sd.lfr (Pol.pp a.pf b.pf) h ?_ rfl
 have:=a.e;have:=b.e
 grind
theorem sy (r:Pol.R3)(h:0<v.2.2):dy r (plc v)=decide (Pol.val r v≤0):=by
 unfold dy
 rw[xlO,(xeV r h).le]
 unfold Pol.val;omega
theorem ai (hp:0<p.2.2)(hq:0<q.2.2)(hw:0<w.2.2):gE (plc p) (plc q) (plc w)<0↔Pol.det p q w<0:=by
 unfold gE
 have s:=(((sdx hq).minus (sdx hp)).times ((sdy hw).minus (sdy hp))).minus (((sdy hq).minus (sdy hp)).times ((sdx hw).minus (sdx hp)))
 rw[s.neg]
 have D:0<q.2.2*p.2.2*(w.2.2*p.2.2):=Pol.pp (Pol.pp hq hp) (Pol.pp hw hp)
 have e:(q.1*p.2.2-p.1*q.2.2)*(w.2.1*p.2.2-p.2.1*w.2.2)*(q.2.2*p.2.2*(w.2.2*p.2.2))-(q.2.1*p.2.2-p.2.1*q.2.2)*(w.1*p.2.2-p.1*w.2.2)*(q.2.2*p.2.2*(w.2.2*p.2.2))
   = Pol.det p q w*(p.2.2*(q.2.2*p.2.2*(w.2.2*p.2.2))):=by unfold Pol.det;grind
 rw[e,qW (Pol.pp hp D)]
theorem xen (hp:0<p.2.2)(hq:0<q.2.2)(h:Pol.tD p q):plc p=plc q:=by
 unfold plc
 rw[Fra.gv hp hq h.1,Fra.gv hp hq h.2]
theorem xc2 (hp:0<p.2.2)(hq:0<q.2.2)(h:plc p=plc q):Pol.tD p q:=by
 have a:=(sdx hp).eq (sdx hq)
 have b:=(sdy hp).eq (sdy hq)
 rw[h] at a b
 exact⟨a.mp rfl,b.mp rfl⟩
theorem xb8 (hp:0<p.2.2)(hq:0<q.2.2)(gp:Pol.uW p=1)(gq:Pol.uW q=1)(h:Pol.tD p q):p=q:=by
 have key:∀ {p q:Pol.R3},0<p.2.2→0<q.2.2→Pol.uW p=1→Pol.tD p q→p.2.2 ∣ q.2.2:=fun {p q} hp hq gp h=>by
  have h1:p.2.2 ∣ q.2.2*p.1:=⟨q.1,by have:=h.1;grind⟩
  have h2:p.2.2 ∣ q.2.2*p.2.1:=⟨q.2.1,by have:=h.2;grind⟩
  have h3:p.2.2 ∣ q.2.2*p.2.2:=Int.dvd_mul_left ..
  have g12:p.2.2 ∣ q.2.2*(Int.gcd p.1 p.2.1:Int):=by
   have:=xjN h1 h2
   rw[xjT] at this
   have h4:((q.2.2).natAbs*Int.gcd p.1 p.2.1:Nat)=((q.2.2*(Int.gcd p.1 p.2.1:Int)).natAbs:Nat):=by rw[xka];rfl
   rw[h4] at this
   exact xjO.mp this
  have g3:=xjN g12 h3
  rw[xjT] at g3
  have hg':Int.gcd (Int.gcd p.1 p.2.1:Int) p.2.2=1:=gp
  rw[hg',Nat.mul_one] at g3
  exact xjO.mp g3
 have ez:p.2.2=q.2.2:=Int.dvd_antisymm (by omega) (by omega) (key hp hq gp h) (key hq hp gq ⟨h.1.symm,h.2.symm⟩)
 have h1:=h.1;have h2:=h.2
 rw[ez] at h1 h2
 exact Pol.ext3 (xjS (by omega) h1) (xjS (by omega) h2) ez
theorem xbk (h:0<v.2.2)(hb:B3k k v):Fk k (plc v).1∧Fk k (plc v).2:=⟨pJ h hb.1.1 hb.2,pJ h hb.1.2 hb.2⟩
end
theorem xg2 (f:F2):pln (fT f)=true:=rfl
theorem xel (p:P2):pln (pT p)=true:=rfl
theorem mL (f g:F2):teq (fT f) (fT g)=decide (f=g):=by
 have e:teq (fT f) (fT g)=(decide (f.1=g.1)&&(decide (f.2=g.2)&&true)):=rfl
 rw[e]
 by_cases h1:f.1=g.1
 ·by_cases h2:f.2=g.2
  ·simp[h1,h2,Prod.ext_iff]
  ·simp[h1,h2,Prod.ext_iff]
 ·simp[h1,Prod.ext_iff]
theorem xec (p q:P2):teq (pT p) (pT q)=decide (p=q):=by
 have e:teq (pT p) (pT q)=(teq (fT p.1) (fT q.1)&&(teq (fT p.2) (fT q.2)&&true)):=rfl
 rw[e,mL,mL]
 by_cases h1:p.1=q.1
 ·by_cases h2:p.2=q.2
  ·simp[h1,h2,Prod.ext_iff]
  ·simp[h1,h2,Prod.ext_iff]
 ·simp[h1,Prod.ext_iff]
theorem xbO (l:List P2)(c:P2):((l.map pT).any fun u=>teq u (pT c))=decide (c∈l):=by
 rw[xjI,xkl,xlS]
 constructor
 ·rintro⟨u,hu,h⟩
  obtain⟨x,hx,rfl⟩:=xla.mp hu
  rw[xec,xlS] at h
  subst h;exact hx
 ·intro h
  exact⟨pT c,xlb h,by rw[xec];simp⟩
end L2
namespace L2
open PySem PySem.Spec PyProof.Rows
theorem zq {α:Type}{dg:DG}{dc:DT}{de:DE}{τi:TSt}{KK:List Tr→Prop}{f:α→Tr}{l:List α}(p:α→Bool)(g:α→Tr)
  (h1:∀a∈l,∀(N:Tr→Prop) (M:Prop),(p a=true→N (g a))→(p a=false→M)→dg (f a) τi fun τ2=>dc τ2 fun b=>if b=true then de τ2 N else M) (h0:KK ((l.filter p).map g)):bc dg dc de τi KK (l.map f) []:=by
 refine jT (fun ys acc=>∃zs us,l=zs++us∧ys=us.map f∧acc=(zs.filter p).map g) (fun acc ⟨zs,us,e,ey,e2⟩=>?_) (fun x ys acc N ⟨zs,us,e,ey,e2⟩ hN=>?_) _ [] ⟨[],l,rfl,rfl,rfl⟩
 ·cases us with
  | nil=>rw[xkn] at e;subst e e2;exact h0
  | cons u us=>cases ey
 ·cases us with
  | nil=>cases ey
  | cons u us =>
   injection ey with ex ey
   subst ex ey e2
   have hu:u∈l:=by rw[e];simp
   refine h1 u hu (fun y=>N ((zs.filter p).map g++[y])) (N ((zs.filter p).map g)) (fun hp=>hN _ ⟨zs++[u],us,by rw[e];simp,rfl,?_⟩) (fun hp=>hN _ ⟨zs++[u],us,by rw[e];simp,rfl,?_⟩)
   ·rw[List.filter_append,xkv hp];simp
   ·rw[List.filter_append,xku (by rw[hp];exact xjJ)];simp
theorem yK {α:Type}{dg:DG}{de:DE}{τi:TSt}{KK:List Tr→Prop}{f:α→Tr}{l:List α}(g:α→Tr)(h1:∀a∈l,∀N:Tr→Prop,N (g a)→dg (f a) τi fun τ2=>de τ2 N)(h0:KK (l.map g)):bc dg xde de τi KK (l.map f) []:=by
 refine jT (fun ys acc=>∃zs us,l=zs++us∧ys=us.map f∧acc=zs.map g) (fun acc ⟨zs,us,e,ey,e2⟩=>?_) (fun x ys acc N ⟨zs,us,e,ey,e2⟩ hN=>?_) _ [] ⟨[],l,rfl,rfl,rfl⟩
 ·cases us with
  | nil=>rw[xkn] at e;subst e e2;exact h0
  | cons u us=>cases ey
 ·cases us with
  | nil=>cases ey
  | cons u us =>
   injection ey with ex ey
   subst ex ey e2
   exact h1 u (by rw[e];simp) (fun y=>N (zs.map g++[y])) (hN _ ⟨zs++[u],us,by rw[e];simp,rfl,by simp⟩)
theorem xeR (xs:List Tr):teq (.lst xs) (.lst [])=xs.isEmpty:=by cases xs<;>rfl
theorem xc8 (h:PyData.canLayAll0 (ui xs)=true):xdb (.lst xs) (.lst []):=⟨h,rfl,xly (xlE _ _) (by decide)⟩
theorem rh {neg:Bool}{xs:List Tr}{KK:Tr→Prop}(h:PyData.canLayAll0 (ui xs)=true)(k:KK (.bl (if neg then !xs.isEmpty else xs.isEmpty))):xgr neg (.lst xs) (.lst []) KK:=⟨xc8 h,by rw[xeR];exact k⟩
theorem xas (l:List P2):PyData.canLayAll0 (ui (l.map pT))=true:=uE pT xel l
theorem filter_empty (p:α→Bool)(l:List α):(l.filter p).isEmpty=l.all fun x=>!p x:=by
 induction l with
 | nil=>rfl
 | cons x l ih =>
  by_cases h:p x=true
  ·rw[xkv h,xkg,h];rfl
  ·rw[xku h,ih,xkg]
   have:p x=false:=by simpa using h
   rw[this];rfl
def xbK:TSp:=fun ts KK=>∃t b:Int,ts=[.int t,.int b]∧b≠0∧Bd b∧KK (fT (lfr t b))
def xag (s t:Pol.R3):Tr:=if Pol.turn s t=0 then .non else wc (Pol.yw s t)
def sR:TSp:=fun ts KK=>∃s t:Pol.R3,ts=[trR s,trR t]∧B3k 900 s∧B3k 900 t∧KK (xag s t)
def l_:TSp:=fun ts KK=>∃(r:Pol.R3) (p:P2),ts=[trR r,pT p]∧B3k 200 r∧Fk 600 p.1∧Fk 600 p.2∧KK (fT (xdK r p))
def xaK:TSp:=fun ts KK=>∃(r:Pol.R3) (p:P2),ts=[trR r,pT p]∧B3k 200 r∧Fk 600 p.1∧Fk 600 p.2∧KK (.bl (dy r p))
def xdW:TSp:=fun ts KK=>∃f g:F2,ts=[fT f,fT g]∧Fk 1000 f∧Fk 1000 g∧KK (.bl (kJ f g))
def xaq:TSp:=fun ts KK=>∃f g:F2,ts=[fT f,fT g]∧Fk 900 f∧Fk 900 g∧KK (fT (fmin f g))
def xbo:TSp:=fun ts KK=>∃f g:F2,ts=[fT f,fT g]∧Fk 900 f∧Fk 900 g∧KK (fT (xeT f g))
def Pk (k:Nat)(p:P2):Prop:=Fk k p.1∧Fk k p.2
def xa9:TSp:=fun ts KK=>∃p q w:P2,ts=[pT p,pT q,pT w]∧Pk 200 p∧Pk 200 q∧Pk 200 w∧KK (.int (gE p q w))
def dD:TSp:=fun ts KK=>∃(p q:P2) (ws:List P2),ts=[pT p,pT q,.lst (ws.map pT)]∧Pk 200 p∧Pk 200 q∧(∀w∈ws,Pk 200 w)∧ws.length≤1000∧KK (.bl (ws.all fun w=>!decide (gE p q w<0)))
structure xbW (l:List Pol.R3):Prop where
 ccw:Pol.Ccw l
 pos:∀v∈l,0<v.2.2
 prim:∀v∈l,Pol.uW v=1
 sm:∀v∈l,B3k 190 v
 least:Pol.qS l
 len:l.length≤900
def xed:TSp:=fun ts KK=>∃ps l:List Pol.R3,ts=[.lst (ps.map wc)]∧(∀v,v∈ps↔v∈l)∧ps.length≤1000∧xbW l∧KK (.lst (l.map wc))
structure gR (rows:List Pol.R3):Prop where
 fine:Pol.xdZ rows rows
 len:rows.length≤8
def n6 (rows:List Pol.R3):List Pol.R3:=yi (Pol.pieces rows)
def nM:TSp:=fun ts KK=>∃rows:List Pol.R3,ts=[.tup (rows.map trR)]∧gR rows∧KK (.lst ((n6 rows).map wc))
theorem Fk.min (h:Fk k f)(h':Fk k g):Fk (2*k+1) (fmin f g):=by
 unfold fmin
 refine xah (by have:=Pol.pp h.pos h'.pos;omega) ?_ ?_
 ·exact((h.top.mul h'.bot).sub (h'.top.mul h.bot)).mono (by omega)
 ·exact(h.bot.mul h'.bot).mono (by omega)
theorem Fk.tim (h:Fk k f)(h':Fk k g):Fk (2*k) (xeT f g):=by
 unfold xeT
 refine xah (by have:=Pol.pp h.pos h'.pos;omega) ?_ ?_
 ·exact(h.top.mul h'.top).mono (by omega)
 ·exact(h.bot.mul h'.bot).mono (by omega)
theorem nj (p q:Pol.R3):ahead p q=true↔Pol.Ah p q:=by unfold ahead Pol.Ah;exact xlT
theorem tx (l:List Pol.R3)(hl:l≠[]):∀n,n≤l.length→(List.range n).foldl (ye l) 0<l.length
 | 0,_=>by simp;exact xkQ.mpr hl
 | n+1,h=>by
  rw[xll,xkw]
  have ih:=tx l hl n (by omega)
  generalize (List.range n).foldl (ye l) 0=m at ih ⊢
  show ye l m n<_
  unfold ye
  split<;>omega
theorem oN (l:List Pol.R3)(hp:∀v∈l,0<v.2.2)(hl:l≠[]):∀n,n≤l.length→∀j,j<n→¬Pol.Ah (l.getD j (0,0,0)) (l.getD ((List.range n).foldl (ye l) 0) (0,0,0))
 | 0,_=>fun j hj=>by omega
 | n+1,h=>fun j hj=>by
  rw[xll,xkw]
  have ih:=oN l hp hl n (by omega)
  have s:=tx l hl n (by omega)
  have g:∀i,i<l.length→0<(l.getD i (0,0,0)).2.2:=fun i hi=>by
   rw[xkz,xkD hi];exact hp _ (xkJ hi)
  generalize (List.range n).foldl (ye l) 0=m at ih s ⊢
  show ¬Pol.Ah _ (l.getD (ye l m n) (0,0,0))
  by_cases c:ahead (l.getD n (0,0,0)) (l.getD m (0,0,0))=true
  ·have e:ye l m n=n:=by unfold ye;rw[if_pos c]
   rw[e]
   have c:=(nj _ _).mp c
   by_cases hjn:j=n
   ·rw[hjn];exact Pol.Ah.irrefl _
   ·intro z
    exact ih j (by omega) (z.trans (g j (by omega)) (g n (by omega)) (g m s) c)
  ·have e:ye l m n=m:=by unfold ye;rw[if_neg c]
   rw[e]
   by_cases hjn:j=n
   ·rw[hjn];exact fun z=>c ((nj _ _).mpr z)
   ·exact ih j (by omega)
theorem se (hp:∀v∈l,0<v.2.2):Pol.qS (yi l):=by
 intro h t e v hv
 have hl:l≠[]:=fun z=>by rw[z] at e;unfold yi at e;simp at e
 have s:=tx l hl l.length (xlw _)
 have ok:=oN l hp hl l.length (xlw _)
 have hh:h=l.getD (vR l) (0,0,0):=by
  unfold yi at e
  rw[xkp (show vR l<l.length from s),xko] at e
  injection e with e1 e2
  rw[←e1,xkz,xkD (show vR l<l.length from s)];rfl
 have hv:=wq hv
 obtain⟨j,hj,rfl⟩:=xk_.mp hv
 have:=ok j hj
 rw[hh]
 rw[xkz,xkD hj] at this
 exact this
theorem vG:v∈yi l↔v∈l:=by
 unfold yi
 rw[xk2,Or.comm,←xk2,xlq]
theorem rJ (h:Pol.Ccw l):Pol.Ccw (yi l):=by
 unfold yi
 apply Pol.Ccw.rot
 rw[xlq];exact h
theorem qH (h:Pol.uC r):B3k 10 r:=by
 obtain⟨⟨⟨a,b⟩,c,d⟩,e,f⟩:=h
 refine⟨⟨?_,?_⟩,?_⟩<;>unfold Bk<;>omega
theorem gR.corner {rows:List Pol.R3}(h:gR rows){v:Pol.R3}(hv:v∈n6 rows):(0<v.2.2∧Pol.uW v=1∧Pol.IsC rows v)∧B3k 21 v:=by
 have hv:v∈Pol.pieces rows:=wq hv
 have c:=h.fine.corner hv
 refine⟨c,?_⟩
 obtain⟨hz,g,⟨_,s,hs,t,ht,e1,e2,hn⟩⟩:=c
 obtain⟨b1,b2,b3⟩:=Pol.gD g hz e1 e2 hn
 have S:=qH (h.fine.fr s hs)
 have T:=qH (h.fine.fr t ht)
 have m:∀ {x y z w:Int},Bk 10 x→Bk 10 y→Bk 10 z→Bk 10 w→Bk 21 (x*y-z*w):=fun h1 h2 h3 h4=>(h1.mul h2).sub (h3.mul h4)
 refine⟨⟨(m S.2 T.1.2 T.2 S.1.2).le b2,(m T.2 S.1.1 S.2 T.1.1).le b3⟩,?_⟩
 refine(m S.1.1 T.1.2 S.1.2 T.1.1).le ?_
 unfold Pol.turn at b1
 omega
theorem gR.ring {rows:List Pol.R3}(h:gR rows):xbW (n6 rows) where
 ccw:=rJ (Pol.wL h.fine.dir).ccw
 pos:=fun v hv=>(h.corner hv).1.1
 prim:=fun v hv=>(h.corner hv).1.2.1
 sm:=fun v hv=>(h.corner hv).2.mono (by decide)
 least:=se (Pol.wL h.fine.dir).bot
 len:=by
  unfold n6
  rw[vQ]
  have:=Pol.s9 h.fine.dir
  have:=h.len
  omega
theorem gR.crossing {rows:List Pol.R3}(h:gR rows){s t:Pol.R3}(hs:s∈rows)(ht:t∈rows)(hn:Pol.turn s t≠0)(hk:∀r∈rows,Pol.val r (Pol.yw s t)≤0):∃v∈n6 rows,wc (Pol.yw s t)=wc v:=by
 obtain⟨z,e1,e2⟩:=Pol.vP hn
 obtain⟨v,hv,sm⟩:=h.fine.found z ⟨hk,s,hs,t,ht,e1,e2,hn⟩
 refine⟨v,vG.mpr hv,?_⟩
 rw[qr,qr,xen z (h.fine.corner hv).1 ⟨sm.1.symm,sm.2.symm⟩]
theorem gR.tightPt {rows:List Pol.R3}(h:gR rows){s t v:Pol.R3}(hv:v∈n6 rows)(hn:Pol.turn s t≠0)(h1:Pol.val s v=0)(h2:Pol.val t v=0):wc (Pol.yw s t)=wc v∧∀r∈rows,Pol.val r (Pol.yw s t)≤0:=by
 obtain⟨⟨hz,_,hc⟩,_⟩:=h.corner hv
 obtain⟨z,e1,e2⟩:=Pol.vP hn
 have sm:=Pol.mY hn h1 h2
 refine⟨by rw[qr,qr,xen z hz sm],fun r hr=>?_⟩
 have k:=hc.kept r hr
 have e:Pol.val r (Pol.yw s t)*v.2.2=Pol.val r v*(Pol.yw s t).2.2:=by
  have a:=sm.1;have b:=sm.2
  unfold Pol.val
  grind
 have:Pol.val r (Pol.yw s t)*v.2.2≤0:=by rw[e];exact Pol.np k (by omega)
 rcases xjZ 0 (Pol.val r (Pol.yw s t)) with q | q
 ·have:=Pol.pp q hz;omega
 ·exact q
theorem rC (hp:0<p.2.2)(hq:0<q.2.2)(gp:Pol.uW p=1)(gq:Pol.uW q=1)(h:plc p=plc q):p=q:=xb8 hp hq gp gq (xc2 hp hq h)
end L2
namespace L2
open PySem PySem.Spec PyProof.Rows
theorem cK (h:Pol.turn s t≠0):wc (Pol.yw s t)=pT (lfr (s.2.2*t.2.1-s.2.1*t.2.2) (Pol.turn s t),lfr (s.1*t.2.2-s.2.2*t.1) (Pol.turn s t)):=by
 rw[qr]
 congr 1
 unfold Pol.yw lfr plc
 split<;>rfl
theorem mK (h:Pol.turn s t=0):xag s t=.non:=if_pos h
theorem sF (h:Pol.turn s t≠0):xag s t=wc (Pol.yw s t):=if_neg h
theorem xdn (hx:Fk 600 p.1)(hy:Fk 600 p.2)(hr:B3k 200 r):Bd (xdK r p).2:=by
 unfold xdK
 have:=xah (k:=1500) (t:=r.1*p.1.1*p.2.2+r.2.1*p.2.1*p.1.2) (b:=p.1.2*p.2.2) (by have:=Pol.pp hx.pos hy.pos;omega)
  (((hr.1.1.mul hx.top |>.mul hy.bot).add (hr.1.2.mul hy.top |>.mul hx.bot)).mono (by decide)) ((hx.bot.mul hy.bot).mono (by decide))
 exact this.bot.bd
structure dW (ss done:List Pol.R3):Prop where
 nd:ss.Nodup
 mem:∀v,v∈ss↔v∈done
 least:Pol.qS ss
def zo (ss:List Pol.R3)(p:Pol.R3):Nat:=(ss.filter fun v=>kJ (plc v).1 (plc p).1).length+(ss.filter fun v=>decide ((plc v).1=(plc p).1)&&kJ (plc v).2 (plc p).2).length
theorem t4 (hp:0<p.2.2)(hq:0<q.2.2):kJ (plc p).1 (plc q).1=true↔p.1*q.2.2<q.1*p.2.2:=by
 unfold kJ;rw[xlT];exact(sdx hp).lt (sdx hq)
theorem tX (hp:0<p.2.2)(hq:0<q.2.2):kJ (plc p).2 (plc q).2=true↔p.2.1*q.2.2<q.2.1*p.2.2:=by
 unfold kJ;rw[xlT];exact(sdy hp).lt (sdy hq)
theorem xaj (hp:0<p.2.2)(hq:0<q.2.2):(plc p).1=(plc q).1↔p.1*q.2.2=q.1*p.2.2 :=
 ⟨fun e=>((sdx hp).eq (sdx hq)).mp (by rw[e]),fun e=>Fra.gv hp hq e⟩
theorem be (hs:∀v∈ss,0<v.2.2)(hp:0<p.2.2)(h:zo ss p=0):∀v∈ss,¬Pol.Ah v p:=fun v hv a=>by
 unfold zo at h
 have h1:(ss.filter fun v=>kJ (plc v).1 (plc p).1)=[]:=xkO.mp (by omega)
 have h2:(ss.filter fun v=>decide ((plc v).1=(plc p).1)&&kJ (plc v).2 (plc p).2)=[]:=xkO.mp (by omega)
 rw[List.filter_eq_nil_iff] at h1 h2
 rcases a with a | ⟨a,b⟩
 ·exact h1 v hv ((t4 (hs v hv) hp).mpr a)
 ·exact h2 v hv (by rw[xlR ((xaj (hs v hv) hp).mpr a),(tX (hs v hv) hp).mpr b];rfl)
theorem lg (hs:∀v∈ss,0<v.2.2)(hp:0<p.2.2)(h:zo ss p≠0):∃v∈ss,Pol.Ah v p:=by
 unfold zo at h
 by_cases h1:(ss.filter fun v=>kJ (plc v).1 (plc p).1)=[]
 ·by_cases h2:(ss.filter fun v=>decide ((plc v).1=(plc p).1)&&kJ (plc v).2 (plc p).2)=[]
  ·rw[h1,h2] at h;exact absurd rfl h
  ·obtain⟨v,hv⟩:=List.exists_mem_of_ne_nil _ h2
   obtain⟨m,c⟩:=xk8.mp hv
   rw[xjH,xlS] at c
   exact⟨v,m,.inr ⟨(xaj (hs v m) hp).mp c.1,(tX (hs v m) hp).mp c.2⟩⟩
 ·obtain⟨v,hv⟩:=List.exists_mem_of_ne_nil _ h1
  obtain⟨m,c⟩:=xk8.mp hv
  exact⟨v,m,.inl ((t4 (hs v m) hp).mp c)⟩
theorem sI {α:Type}{P Q:α→Bool}(h:∀x,P x=true→Q x=true→False):∀l:List α,(l.filter P).length+(l.filter Q).length≤l.length
 | []=>xlw _
 | x::l=>by
  have ih:=sI h l
  by_cases h1:P x=true
  ·rw[xkv h1,xku (h x h1),xkM,xkM];omega
  ·rw[xku h1]
   by_cases h2:Q x=true
   ·rw[xkv h2,xkM,xkM];omega
   ·rw[xku h2,xkM];omega
theorem xb2 {ss:List Pol.R3}{p:Pol.R3}:zo ss p≤ss.length:=by
 unfold zo
 refine sI (fun v h1 z=>?_) ss
 rw[xjH,xlS] at z
 unfold kJ at h1
 rw[z.1,xlS] at h1
 omega
theorem dW.ins {ss done:List Pol.R3}{p:Pol.R3}(h:dW ss done)(hs:∀v∈ss,0<v.2.2)(hp:0<p.2.2)(hn:p∉ss) :
  dW (ss.take (zo ss p)++[p]++ss.drop (zo ss p)) (done++[p]):=by
 have perm:(ss.take (zo ss p)++[p]++ss.drop (zo ss p)).Perm (p::ss):=by
  have e:p::ss=p::(ss.take (zo ss p)++ss.drop (zo ss p)):=by rw[xlq]
  rw[e,xkm]
  exact List.perm_middle
 have memp:∀v,v∈ss.take (zo ss p)++[p]++ss.drop (zo ss p)↔v=p∨v∈ss:=fun v=>by rw[perm.mem_iff,xk5]
 refine⟨perm.nodup_iff.mpr (xlj.mpr ⟨hn,h.nd⟩),fun v=>?_,fun x t e v hv=>?_⟩
 ·rw[memp,xk2,xlg,h.mem,Or.comm]
 ·by_cases h0:zo ss p=0
  ·have z:=be hs hp h0
   rw[h0,List.take_zero,xlh,xko] at e
   injection e with e1 e2
   rw[←e1]
   rcases(memp v).mp hv with q | q
   ·rw[q];exact Pol.Ah.irrefl p
   ·exact z v q
  ·obtain⟨w,hw,aw⟩:=lg hs hp h0
   cases ss with
   | nil=>simp at hw
   | cons y ys =>
    obtain⟨m,hm⟩:∃m,zo (y::ys) p=m+1:=⟨zo (y::ys) p-1,by omega⟩
    rw[hm,List.take_succ_cons,xko,xko] at e
    injection e with e1 e2
    rw[←e1]
    have ly:=h.least y ys rfl
    rcases(memp v).mp hv with q | q
    ·rw[q]
     intro z
     exact ly w hw (aw.trans (hs w hw) hp (hs y xk7) z)
    ·exact ly v q
theorem dW.stay (h:dW ss done)(hp:p∈ss):dW ss (done++[p]):=⟨h.nd,fun v=>by
 rw[xk2,xlg,←h.mem]
 exact⟨.inl,fun z=>z.elim id fun e=>e▸hp⟩,h.least⟩
theorem mX (hr:xbW l)(hm:∀v,v∈ss↔v∈l)(hl:Pol.qS ss):ss.head? = l.head?:=by
 cases ss with
 | nil =>
  cases l with
  | nil=>rfl
  | cons a t=>exact absurd ((hm a).mpr xk7) (by simp)
 | cons b u =>
  cases l with
  | nil=>exact absurd ((hm b).mp xk7) (by simp)
  | cons a t =>
   have hb:=(hm b).mp xk7
   have ha:=(hm a).mpr xk7
   have h1:=hr.least a t rfl b hb
   have h2:=hl b u rfl a ha
   have:=xb8 (hr.pos b hb) (hr.pos a xk7) (hr.prim b hb) (hr.prim a xk7) (Pol.Ah.total h1 h2)
   rw[this];rfl
theorem lK (hr:xbW l)(nd:ss.Nodup)(hm:∀v,v∈ss↔v∈l)(hl:Pol.qS ss)(h3:ss.length<3):ss=l:=by
 have hh:=mX hr hm hl
 have len:=Pol.sS nd hr.ccw.nd hm
 rcases ss with _ | ⟨a,_ | ⟨b,_ | ⟨e,t⟩⟩⟩
 ·rcases l with _ | ⟨c,u⟩
  ·rfl
  ·cases len
 ·rcases l with _ | ⟨c,_ | ⟨d,u⟩⟩
  ·cases len
  ·simpa using hh
  ·cases len
 ·rcases l with _ | ⟨c,_ | ⟨d,_ | ⟨g,u⟩⟩⟩
  ·cases len
  ·cases len
  ·have e:a=c:=by simpa using hh
   subst e
   have hb:=(hm b).mp (by simp)
   have:b≠a:=fun z=>by subst z;simp at nd
   simp[this] at hb
   rw[hb]
  ·cases len
 ·exact absurd h3 (by simp)
theorem xcg {l ss:List Pol.R3}(hr:xbW l)(nd:ss.Nodup)(hm:∀v,v∈ss↔v∈l){k:Nat}{a b:Pol.R3}(ha:l[k]? = some a)(hb:l[k+1]? = some b) :
  ss.filter (fun v=>!decide (plc v∈(l.take (k+1)).map plc)&&(ss.map plc).all fun w=>!decide (gE (plc a) (plc v) w<0))=[b]:=by
 have ham:=xlc ha
 have hbm:=xlc hb
 have hk:=(xkF.mp hb).1
 obtain⟨c1,c2⟩:=Pol.xcY hr.ccw ha hb
 have inj:∀ {x y},x∈l→y∈l→plc x=plc y→x=y:=fun hx hy e=>rC (hr.pos _ hx) (hr.pos _ hy) (hr.prim _ hx) (hr.prim _ hy) e
 have ix:∀ {i j:Nat} {x:Pol.R3},l[i]? = some x→l[j]? = some x→i=j:=fun {i j x} h1 h2=>by
  have hi:=(xkF.mp h1).1
  exact(List.getElem?_inj hi hr.ccw.nd).mp (h1.trans h2.symm)
 have tk:∀ {j:Nat} {x:Pol.R3},l[j]? = some x→(plc x∈(l.take (k+1)).map plc↔j<k+1):=fun {j x} hj=>by
  have hxm:=xlc hj
  constructor
  ·intro z
   obtain⟨y,hy,e⟩:=xla.mp z
   have:=inj (xle hy) hxm e
   subst this
   obtain⟨i,hi,e⟩:=xk_.mp hy
   rw[List.getElem_take] at e
   have hi':i<k+1:=by rw[xkT] at hi;omega
   have:l[i]? = some y:=by rw[xkD (by rw[xkT] at hi;omega),e]
   have:=ix this hj
   omega
  ·intro z
   refine xlb ?_
   have:(l.take (k+1))[j]? = some x:=by rw[List.getElem?_take_of_lt z,hj]
   exact xlc this
 refine Pol.s_ nd ((hm b).mpr hbm) fun x hx=>?_
 have hxl:=(hm x).mp hx
 obtain⟨j,hj,ej⟩:=xk_.mp hxl
 have hj':l[j]? = some x:=by rw[xkD hj,ej]
 rw[xjH,xjK,xlQ,tk hj',xkj,xki]
 constructor
 ·rintro⟨h1,h2⟩
  by_cases e:j=k+1
  ·subst e;rw[hj'] at hb;exact xlL hb
  ·exfalso
   have:=c2 j x (by omega) hj'
   have:=h2 b ((hm b).mpr hbm)
   simp at this
   have:=ai (hr.pos a ham) (hr.pos x hxl) (hr.pos b hbm)
   omega
 ·rintro rfl
  refine⟨?_,fun w hw=>?_⟩
  ·have:=ix hj' hb;omega
  ·have hwl:=(hm w).mp hw
   have:=c1 w hwl
   have:=ai (hr.pos a ham) (hr.pos x hbm) (hr.pos w hwl)
   simp
   omega
theorem xeb (h:fT f=fT g):f=g:=by
 have e:=mL f g
 unfold fT frT at h
 injection h with h
 injection h with h1 h
 injection h with h2 h
 injection h1 with h1;injection h2 with h2
 exact Prod.ext h1 h2
theorem xgl (h:pT p=pT q):p=q:=by
 unfold pT at h
 injection h with h
 injection h with h1 h
 injection h with h2 h
 exact Prod.ext (xeb h1) (xeb h2)
theorem gY (l:List Pol.R3):l.map wc=(l.map plc).map pT:=by rw[xkZ];rfl
theorem oO {l:List Pol.R3}(hp:∀v∈l,0<v.2.2)(hg:∀v∈l,Pol.uW v=1){ss:List Pol.R3}(hs:∀v∈ss,v∈l){p:Pol.R3}(h:p∈l):((ss.map wc).any fun u=>teq u (wc p))=decide (p∈ss):=by
 rw[gY,qr,xbO,xlO]
 constructor
 ·intro z
  obtain⟨y,hy,e⟩:=xla.mp z
  rw[←rC (hp y (hs y hy)) (hp p h) (hg y (hs y hy)) (hg p h) e];exact hy
 ·intro z;exact xlb z
theorem fD (l:List Pol.R3):PyData.canLayAll0 (ui (l.map wc))=true:=uE wc (fun v=>xel (plc v)) l
end L2
namespace L2
open PySem PySem.Spec PyProof.Rows
theorem yc (P:TSt→Prop)(hB:∀ τ',P τ'→B G τ')(hA:∀N:TSt→Prop,(∀ τ',P τ'→N τ')→A { G with nx:=N } τ):xg6 A B G τ:=hA (B G) hB
theorem vV (all:List Tr)(W:Nat→TSt→Prop)(hd:∀KK:List Tr→Prop,KK all→di τ KK)(w0:W 0 τ)
  (h1:∀i x τ (N:TSt→Prop),all[i]? = some x→W i τ→(∀ τ',W (i+1) τ'→N τ')→dg x τ fun τ'=>body { G with nx:=N,ct:=N,bk:=G.nx } τ')
  (h0:∀ τ,W all.length τ→G.nx τ):xh8 di dg body G τ:=hd _ (wu W w0 h1 h0)
abbrev TV9:=TV×TV×TV×TV×TV×TV×TV×TV×TV
theorem oA (f:α→β)(l:List α)(x:α):(l++[x]).map f=l.map f++[f x]:=by rw[xkV];rfl
theorem pS (h:-1000000≤i∧i≤1000000):Bd i:=cj (by omega) (by omega)
theorem ua (h:-1000000≤i∧i≤1000000)(h':-1000000≤j∧j≤1000000):CM i j:=⟨pS h,pS h'⟩
theorem tk {m:Int}(h:0<m∧m<1000000):0<m∧m<2 ^ 128:=⟨h.1,by omega⟩
structure LF0 (rows:List Pol.R3):Prop where
 l3:3≤rows.length
 l8:rows.length≤8
 sm:∀r∈rows,((-14≤r.1∧r.1≤14)∧(-14≤r.2.1∧r.2.1≤14))∧(-100≤r.2.2∧r.2.2≤100)
 dir:∀r∈rows,r.1≠0∨r.2.1≠0
 gr:Pol.GR rows
 near:∀p:Pol.R3,0<p.2.2→(∀r∈rows,Pol.val r p≤0)→(-(9*p.2.2)≤p.1∧p.1≤9*p.2.2)∧(-(9*p.2.2)≤p.2.1∧p.2.1≤9*p.2.2)
structure LF (rows:List Pol.R3):Prop where
 l3:3≤rows.length
 l8:rows.length≤8
 sm:∀r∈rows,((-14≤r.1∧r.1≤14)∧(-14≤r.2.1∧r.2.1≤14))∧(-200≤r.2.2∧r.2.2≤200)
 dir:∀r∈rows,r.1≠0∨r.2.1≠0
 gr:Pol.GR rows
 near:∀p:Pol.R3,0<p.2.2→(∀r∈rows,Pol.val r p≤0)→(-(12*p.2.2)≤p.1∧p.1≤12*p.2.2)∧(-(12*p.2.2)≤p.2.1∧p.2.1≤12*p.2.2)
def lZ:TSp:=fun ts KK=>ts=[]∧∀rows,LF rows→KK (.tup (rows.map trR))
def rN (u v:Int)(r:Pol.R3):Pol.R3:=(r.1,r.2.1,r.2.2+r.1*u+r.2.1*v)
theorem pM (h1:-m≤a)(h2:a≤m)(h3:-n≤b)(h4:b≤n)(hm:0≤m)(hn:0≤n):-(m*n)≤a*b∧a*b≤m*n:=by
 have key:(a*b).natAbs≤(m*n).natAbs:=by
  rw[xka,xka]
  exact Nat.mul_le_mul (by omega) (by omega)
 have:=Pol.pz hm hn
 omega
theorem LF0.moved (h:LF0 rows)(hu:-3≤u∧u≤3)(hv:-3≤v∧v≤3):LF (rows.map (rN u v)) where
 l3:=by rw[xkP];exact h.l3
 l8:=by rw[xkP];exact h.l8
 sm:=fun r hr=>by
  obtain⟨s,hs,rfl⟩:=xla.mp hr
  obtain⟨⟨⟨a1,a2⟩,b1,b2⟩,c1,c2⟩:=h.sm s hs
  have x:=pM a1 a2 hu.1 hu.2 (by decide) (by decide)
  have y:=pM b1 b2 hv.1 hv.2 (by decide) (by decide)
  simp only[rN]
  omega
 dir:=fun r hr=>by
  obtain⟨s,hs,rfl⟩:=xla.mp hr
  exact h.dir s hs
 gr:=fun x y hn=>by
  obtain⟨r,hr,p⟩:=h.gr x y hn
  exact⟨rN u v r,xlb hr,p⟩
 near:=fun p hz hk=>by
  have:=h.near (p.1-u*p.2.2,p.2.1-v*p.2.2,p.2.2) hz fun r hr=>by
   have:=hk _ (xlb hr)
   have e:Pol.val r (p.1-u*p.2.2,p.2.1-v*p.2.2,p.2.2)=Pol.val (rN u v r) p:=by simp only[Pol.val,rN];grind
   rw[e];exact this
  simp only at this
  have x:=xj6 hu.1 (show 0≤p.2.2 by omega)
  have x':=xj6 hu.2 (show 0≤p.2.2 by omega)
  have y:=xj6 hv.1 (show 0≤p.2.2 by omega)
  have y':=xj6 hv.2 (show 0≤p.2.2 by omega)
  omega
theorem LF.rot (h:LF rows)(n:Nat):LF (rows.drop n++rows.take n):=by
 have mem:∀r,r∈rows.drop n++rows.take n↔r∈rows:=fun r=>by rw[xk2,Or.comm,←xk2,xlq]
 have len:(rows.drop n++rows.take n).length=rows.length:=by rw[xkL,xkN,xkT];omega
 exact⟨by rw[len];exact h.l3,by rw[len];exact h.l8,fun r hr=>h.sm r ((mem r).mp hr),fun r hr=>h.dir r ((mem r).mp hr),
  fun u v hn=>let ⟨r,hr,p⟩:=h.gr u v hn;⟨r,(mem r).mpr hr,p⟩,fun p hz hk=>h.near p hz fun r hr=>hk r ((mem r).mpr hr)⟩
theorem LF.frow (h:LF rows):∀r∈rows,Pol.uC r:=fun r hr=>by have:=h.sm r hr;unfold Pol.uC;omega
theorem LF.fine (h:LF rows):gR rows:=⟨⟨fun {p} hz hp s hs=>by
 have:=h.near p hz hp
 simp only[Pol.lT,xk5,xlk,xlW] at hs
 rcases hs with rfl | rfl | rfl | rfl<;>simp only[Pol.val,Pol.FAR]<;>omega,h.frow,fun _ h=>h,h.dir⟩,h.l8⟩
theorem nO (hd:0<d):nearF (oh n d) (mB n d)=true↔-(12*d)≤n∧n≤12*d:=by
 have s:=xbN (t:=n) (b:=d) hd
 unfold nearF
 rw[xlT]
 have h1:=s.le 12
 have h2:-(12*mB n d)≤oh n d↔-(12*d)≤n:=by
  have e:=s.e
  have p:=s.pf
  show -(12*(Fra.low n d).2)≤(Fra.low n d).1↔_
  rw[←ku hd,e,show -(12*(Fra.low n d).2)*d=(-(12*d))*(Fra.low n d).2 by grind,ku p]
 have h3:oh n d≤12*mB n d↔n≤12*d:=h1
 rw[h2,h3]
theorem xbx (hz:0<v.2.2):qN v=true↔(-(12*v.2.2)≤v.1∧v.1≤12*v.2.2)∧(-(12*v.2.2)≤v.2.1∧v.2.1≤12*v.2.2):=by
 unfold qN
 rw[xjH,nO hz,nO hz]
theorem LF.field (h:LF rows):isField (.tup (rows.map trR))=true:=by
 show(match rowsOf (rows.map trR) with | some rows=>xt rows | none=>false)=true
 rw[jZ]
 show xt rows=true
 unfold xt
 rw[xlR ⟨h.l3,h.l8⟩,Pol.aB h.dir (Pol.xgw h.gr) (Pol.xfO h.dir h.gr)]
 have e1:(rows.all fun r=>decide ((r.1≠0∨r.2.1≠0)∧Pol.uC r))=true:=by
  rw[xki];intro r hr;exact xlR ⟨h.dir r hr,h.frow r hr⟩
 have e2:(Pol.pieces rows).all qN=true:=by
  rw[xki]
  intro v hv
  obtain⟨hz,_,hc⟩:=h.fine.fine.corner hv
  exact(xbx hz).mpr (h.near v hz hc.kept)
 rw[e1,e2];rfl
structure xhQ (b1 c1 b2 c2 b3 c3 b4 c4:Int):Prop where
 h1:(1≤b1∧b1≤3)∧0≤c1∧c1≤5*b1
 h2:(1≤b2∧b2≤3)∧0≤c2∧c2≤5*b2
 h3:(1≤b3∧b3≤3)∧0≤c3∧c3≤5*b3
 h4:(1≤b4∧b4≤3)∧0≤c4∧c4≤5*b4
theorem xhH {b c x z:Int}(hb:1≤b)(hc:c≤5*b)(hz:0<z)(h:b*x≤c*z):x≤5*z:=by
 have h1:c*z≤5*b*z:=xj6 hc (by omega)
 have h2:b*x≤b*(5*z):=by
  have:b*(5*z)=5*b*z:=by grind
  omega
 exact xjW h2 (by omega)
def Extra (r:Pol.R3):Prop:=(((-6≤r.1∧r.1≤6)∧(-6≤r.2.1∧r.2.1≤6))∧(-40≤r.2.2∧r.2.2≤40))∧(r.1≠0∨r.2.1≠0)
theorem xhQ.lf {b1 c1 b2 c2 b3 c3 b4 c4:Int}(B:xhQ b1 c1 b2 c2 b3 c3 b4 c4){ex:List Pol.R3}(hx:∀r∈ex,Extra r)(hl:ex.length≤4):LF0 ([(-b1,0,c1),(b2,0,c2),(0,-b3,c3),(0,b4,c4)]++ex):=by
 obtain⟨h1,h2,h3,h4⟩:=B
 have four:∀r∈([(-b1,0,c1),(b2,0,c2),(0,-b3,c3),(0,b4,c4)]++ex:List Pol.R3),r=(-b1,0,c1)∨r=(b2,0,c2)∨r=(0,-b3,c3)∨r=(0,b4,c4)∨Extra r:=fun r hr=>by
  rcases xk2.mp hr with h | h
  ·simp only[xk5,xlk,xlW] at h
   rcases h with h | h | h | h
   ·exact .inl h
   ·exact .inr (.inl h)
   ·exact .inr (.inr (.inl h))
   ·exact .inr (.inr (.inr (.inl h)))
  ·exact .inr (.inr (.inr (.inr (hx r h))))
 have m1:(-b1,0,c1)∈([(-b1,0,c1),(b2,0,c2),(0,-b3,c3),(0,b4,c4)]++ex:List Pol.R3):=xk3 _ xk7
 have m2:(b2,0,c2)∈([(-b1,0,c1),(b2,0,c2),(0,-b3,c3),(0,b4,c4)]++ex:List Pol.R3):=xk3 _ (xk6 _ xk7)
 have m3:(0,-b3,c3)∈([(-b1,0,c1),(b2,0,c2),(0,-b3,c3),(0,b4,c4)]++ex:List Pol.R3):=xk3 _ (xk6 _ (xk6 _ xk7))
 have m4:(0,b4,c4)∈([(-b1,0,c1),(b2,0,c2),(0,-b3,c3),(0,b4,c4)]++ex:List Pol.R3):=xk3 _ (xk6 _ (xk6 _ (xk6 _ xk7)))
 refine⟨by simp,by simp;omega,fun r hr=>?_,fun r hr=>?_,fun u v hn=>?_,fun p hz hk=>?_⟩
 ·rcases four r hr with h | h | h | h | h
  ·subst h;simp only;omega
  ·subst h;simp only;omega
  ·subst h;simp only;omega
  ·subst h;simp only;omega
  ·unfold Extra at h;omega
 ·rcases four r hr with h | h | h | h | h
  ·subst h;exact .inl (by simp only;omega)
  ·subst h;exact .inl (by simp only;omega)
  ·subst h;exact .inr (by simp only;omega)
  ·subst h;exact .inr (by simp only;omega)
  ·exact h.2
 ·rcases xj0 u 0 with c | c | c
  ·refine⟨_,m1,?_⟩
   simp only
   have:=xj_ (show 0<b1 by omega) (show 0 < -u by omega)
   grind
  ·rcases xj0 v 0 with d | d | d
   ·refine⟨_,m3,?_⟩
    simp only
    have:=xj_ (show 0<b3 by omega) (show 0 < -v by omega)
    grind
   ·omega
   ·refine⟨_,m4,?_⟩
    simp only
    have:=xj_ (show 0<b4 by omega) d
    grind
  ·refine⟨_,m2,?_⟩
   simp only
   have:=xj_ (show 0<b2 by omega) c
   grind
 ·have k1:=hk _ m1
  have k2:=hk _ m2
  have k3:=hk _ m3
  have k4:=hk _ m4
  simp only[Pol.val] at k1 k2 k3 k4
  have e1:=xhH (x:=-p.1) h1.1.1 h1.2.2 hz (by grind)
  have e2:=xhH (x:=p.1) h2.1.1 h2.2.2 hz (by grind)
  have e3:=xhH (x:=-p.2.1) h3.1.1 h3.2.2 hz (by grind)
  have e4:=xhH (x:=p.2.1) h4.1.1 h4.2.2 hz (by grind)
  omega
def qy (rows:List Pol.R3):Prop:=∃b1 c1 b2 c2 b3 c3 b4 c4,rows=[(-b1,0,c1),(b2,0,c2),(0,-b3,c3),(0,b4,c4)]∧xhQ b1 c1 b2 c2 b3 c3 b4 c4
theorem qy.last (h:qy rows)(hx:∀r∈ex,Extra r):∃ini l,rows++ex=ini++[l]∧Extra (0-l.1,0-l.2.1,0-l.2.2):=by
 obtain⟨b1,c1,b2,c2,b3,c3,b4,c4,rfl,B⟩:=h
 rcases List.eq_nil_or_concat ex with rfl | ⟨ini,l,rfl⟩
 ·refine⟨[(-b1,0,c1),(b2,0,c2),(0,-b3,c3)],(0,b4,c4),by simp,?_⟩
  have:=B.h4
  unfold Extra
  simp only
  omega
 ·rw[List.concat_eq_append] at hx ⊢
  refine⟨_++ini,l,by rw[xkm],?_⟩
  have:=hx l (by simp)
  unfold Extra at *
  simp only
  omega
theorem qy.len (h:qy rows):rows.length=4:=by
 obtain⟨b1,c1,b2,c2,b3,c3,b4,c4,rfl,B⟩:=h
 rfl
theorem qy.lf (h:qy rows)(hx:∀r∈ex,Extra r)(hl:ex.length≤4):LF0 (rows++ex):=by
 obtain⟨b1,c1,b2,c2,b3,c3,b4,c4,rfl,B⟩:=h
 exact B.lf hx hl
def xbf:List (Int×Int):=[(-1,0),(1,0),(0,-1),(0,1)]
def dT (d:Int×Int):Tr:=.tup [.int d.1,.int d.2]
def o_ (i:Nat)(rows:List Pol.R3):Prop:=rows.length=i∧∀(j:Nat) (r:Pol.R3) (d:Int×Int),rows[j]? = some r→xbf[j]? = some d→∃b c:Int,((1≤b∧b≤3)∧0≤c∧c≤5*b)∧r=(d.1*b,d.2*b,c)
theorem o_.step (h:o_ i rows)(hd:xbf[i]? = some d)(hb:(1≤b∧b≤3)∧0≤c∧c≤5*b):o_ (i+1) (rows++[(d.1*b,d.2*b,c)]):=by
 refine⟨by rw[xkL,h.1];rfl,fun j r d' hr hd'=>?_⟩
 by_cases hj:j<i
 ·rw[xkA (by rw[h.1];exact hj)] at hr
  exact h.2 j r d' hr hd'
 ·have hl:=(xkF.mp hr).1
  rw[xkL,h.1,xkS] at hl
  have:j=i:=by omega
  subst this
  rw[xkB (by rw[h.1];exact xlw _),h.1,Nat.sub_self] at hr
  rw[hd] at hd'
  cases hr;cases hd'
  exact⟨b,c,hb,rfl⟩
theorem o_.box (h:o_ 4 rows):qy rows:=by
 obtain⟨hl,h⟩:=h
 rcases rows with _ | ⟨r1,_ | ⟨r2,_ | ⟨r3,_ | ⟨r4,_ | ⟨r5,rs⟩⟩⟩⟩⟩
 ·cases hl
 ·cases hl
 ·cases hl
 ·cases hl
 ·obtain⟨b1,c1,g1,e1⟩:=h 0 r1 (-1,0) rfl rfl
  obtain⟨b2,c2,g2,e2⟩:=h 1 r2 (1,0) rfl rfl
  obtain⟨b3,c3,g3,e3⟩:=h 2 r3 (0,-1) rfl rfl
  obtain⟨b4,c4,g4,e4⟩:=h 3 r4 (0,1) rfl rfl
  subst e1 e2 e3 e4
  refine⟨b1,c1,b2,c2,b3,c3,b4,c4,?_,g1,g2,g3,g4⟩
  simp only[List.cons.injEq,Prod.mk.injEq,and_true]
  omega
 ·cases hl
theorem bT {i:Nat}{d:Int×Int}(h:xbf[i]? = some d):(-1≤d.1∧d.1≤1)∧(-1≤d.2∧d.2≤1):=by
 have:=xlc h
 simp only[xbf,xk5,xlk,xlW] at this
 rcases this with rfl | rfl | rfl | rfl<;>decide
def Drawn (d:Int×Int)(y:Tr):Prop:=∃c:Int,(0≤c∧c<8)∧y=.tup [.int d.1,.int d.2,.int c]
theorem xef {d1 d2 d3:Int×Int}{ys:List Tr}(h:Paired Drawn [d1,d2,d3] ys):∃c1 c2 c3:Int,((0≤c1∧c1≤7)∧(0≤c2∧c2≤7)∧(0≤c3∧c3≤7))∧ys=[(d1.1,d1.2,c1),(d2.1,d2.2,c2),(d3.1,d3.2,c3)].map trR:=by
 cases h with
 | cons h1 h =>
  cases h with
  | cons h2 h =>
   cases h with
   | cons h3 h =>
    cases h
    obtain⟨c1,g1,rfl⟩:=h1
    obtain⟨c2,g2,rfl⟩:=h2
    obtain⟨c3,g3,rfl⟩:=h3
    exact⟨c1,c2,c3,by omega,rfl⟩
theorem nE {α:Type}{dg:DG}{de:DE}{τi:TSt}{KK:List Tr→Prop}{f:α→Tr}{l:List α}(R:α→Tr→Prop)(h1:∀a∈l,∀N:Tr→Prop,(∀y,R a y→N y)→dg (f a) τi fun τ2=>de τ2 N)
  (h0:∀ys,Paired R l ys→KK ys):bc dg xde de τi KK (l.map f) []:=by
 refine jT (fun ys acc=>∃zs us,l=zs++us∧ys=us.map f∧Paired R zs acc) (fun acc ⟨zs,us,e,ey,e2⟩=>?_) (fun x ys acc N ⟨zs,us,e,ey,e2⟩ hN=>?_) _ [] ⟨[],l,rfl,rfl,.nil⟩
 ·cases us with
  | nil=>rw[xkn] at e;subst e;exact h0 acc e2
  | cons u us=>cases ey
 ·cases us with
  | nil=>cases ey
  | cons u us =>
   injection ey with ex ey
   subst ex ey
   exact h1 u (by rw[e];simp) (fun y=>N (acc++[y])) fun y hy=>hN _ ⟨zs++[u],us,by rw[e];simp,rfl,n_ e2 hy⟩
theorem xcw (h1:1≤k)(h7:k≤7):LF0 [(-1,0,0),(1,-2*k,0),(1,2*k,2*k)]:=by
 refine⟨by simp,by simp,fun r hr=>?_,fun r hr=>?_,fun u v hn=>?_,fun p hz hk=>?_⟩
 ·simp only[xk5,xlk,xlW] at hr
  rcases hr with rfl | rfl | rfl<;>simp only<;>omega
 ·simp only[xk5,xlk,xlW] at hr
  rcases hr with rfl | rfl | rfl<;>simp only<;>omega
 ·rcases xjZ u 0 with c | c
  ·exact⟨_,xk7,by simp only;omega⟩
  ·rcases xj0 v 0 with d | d | d
   ·refine⟨(1,-2*k,0),by simp,?_⟩
    simp only
    have:=xj_ (show 0<k by omega) (show 0 < -v by omega)
    grind
   ·refine⟨(1,2*k,2*k),by simp,?_⟩
    simp only
    subst d
    omega
   ·refine⟨(1,2*k,2*k),by simp,?_⟩
    simp only
    have:=xj_ (show 0<k by omega) d
    grind
 ·have k1:=hk (-1,0,0) (by simp)
  have k2:=hk (1,-2*k,0) (by simp)
  have k3:=hk (1,2*k,2*k) (by simp)
  simp only[Pol.val] at k1 k2 k3
  have e2:p.1≤2*(k*p.2.1):=by grind
  have e3:p.1+2*(k*p.2.1)≤2*(k*p.2.2):=by grind
  have kz:k*p.2.2≤7*p.2.2:=xj6 h7 (by omega)
  have y0:0≤p.2.1:=Pol.zw (show 0<k by omega) (by omega)
  have y1:p.2.1≤p.2.2:=by
   have:k*p.2.1≤k*p.2.2:=by omega
   exact xjW this (by omega)
  omega
theorem xfW (h:0≤c∧c≤7):-100≤c∧c≤100:=by omega
theorem xfF (h1:0≤c1∧c1≤7)(h2:0≤c2∧c2≤7)(h3:0≤c3∧c3≤7):LF0 [(-2,1,c1),(1,-3,c2),(2,3,c3)]:=by
 refine⟨by simp,by simp,fun r hr=>?_,fun r hr=>?_,fun u v hn=>?_,fun p hz hk=>?_⟩
 ·simp only[xk5,xlk,xlW] at hr
  rcases hr with rfl | rfl | rfl
  ·exact⟨by simp only;decide,xfW h1⟩
  ·exact⟨by simp only;decide,xfW h2⟩
  ·exact⟨by simp only;decide,xfW h3⟩
 ·simp only[xk5,xlk,xlW] at hr
  rcases hr with rfl | rfl | rfl<;>exact .inl (by simp only;decide)
 ·rcases xjZ 0 (-2*u+1*v) with c | c
  ·exact⟨(-2,1,c1),by simp,c⟩
  ·rcases xjZ 0 (1*u+-3*v) with d | d
   ·exact⟨(1,-3,c2),by simp,d⟩
   ·exact⟨(2,3,c3),by simp,by simp only;omega⟩
 ·have k1:=hk (-2,1,c1) (by simp)
  have k2:=hk (1,-3,c2) (by simp)
  have k3:=hk (2,3,c3) (by simp)
  simp only[Pol.val] at k1 k2 k3
  have z1:c1*p.2.2≤7*p.2.2:=xj6 h1.2 (by omega)
  have z2:c2*p.2.2≤7*p.2.2:=xj6 h2.2 (by omega)
  have z3:c3*p.2.2≤7*p.2.2:=xj6 h3.2 (by omega)
  omega
theorem xeH (h1:0≤c1∧c1≤7)(h2:0≤c2∧c2≤7)(h3:0≤c3∧c3≤7):LF0 [(-3,-2,c1),(3,-1,c2),(1,4,c3)]:=by
 refine⟨by simp,by simp,fun r hr=>?_,fun r hr=>?_,fun u v hn=>?_,fun p hz hk=>?_⟩
 ·simp only[xk5,xlk,xlW] at hr
  rcases hr with rfl | rfl | rfl
  ·exact⟨by simp only;decide,xfW h1⟩
  ·exact⟨by simp only;decide,xfW h2⟩
  ·exact⟨by simp only;decide,xfW h3⟩
 ·simp only[xk5,xlk,xlW] at hr
  rcases hr with rfl | rfl | rfl<;>exact .inl (by simp only;decide)
 ·rcases xjZ 0 (-3*u+-2*v) with c | c
  ·exact⟨(-3,-2,c1),by simp,c⟩
  ·rcases xjZ 0 (3*u+-1*v) with d | d
   ·exact⟨(3,-1,c2),by simp,d⟩
   ·exact⟨(1,4,c3),by simp,by simp only;omega⟩
 ·have k1:=hk (-3,-2,c1) (by simp)
  have k2:=hk (3,-1,c2) (by simp)
  have k3:=hk (1,4,c3) (by simp)
  simp only[Pol.val] at k1 k2 k3
  have z1:c1*p.2.2≤7*p.2.2:=xj6 h1.2 (by omega)
  have z2:c2*p.2.2≤7*p.2.2:=xj6 h2.2 (by omega)
  have z3:c3*p.2.2≤7*p.2.2:=xj6 h3.2 (by omega)
  omega
end L2
namespace L2
open PySem PySem.Spec PyProof.Rows
theorem sX (us:List Tr):PyData.canLayAll0 (ui us)=true↔∀u∈us,pln u=true:=by
 induction us with
 | nil=>exact⟨fun _ u hu=>by simp at hu,fun _=>rfl⟩
 | cons t us ih =>
  show((vL t).canLay0&&PyData.canLayAll0 (ui us))=true↔_
  rw[xjH,ih]
  exact⟨fun h u hu=>(xk5.mp hu).elim (fun e=>e▸h.1) (h.2 u),fun h=>⟨h t xk7,fun u hu=>h u (xk6 _ hu)⟩⟩
theorem ff {ts:List Tr}{r:Int}{KK:Tr→Prop}(h0:0≤r)(h1:r<ts.length)(h:∀t∈ts,KK t):lU (atT ts r) KK:=by
 rw[xg9 h0]
 have hl:r.toNat<ts.length:=by omega
 rw[xkD hl]
 exact h _ (xkJ hl)
def dirsOf (r:Pol.R3):List (Int×Int):=[(r.2.1,0-r.1),(0-r.2.1,r.1)]
theorem lO (c:¬(us.length:Int)=3):vN (.tup us)=false:=by
 unfold vN
 cases e:jc (.tup us) with
 | none=>rfl
 | some r =>
  have:=uA e
  unfold trR at this
  injection this with this
  rw[this] at c
  exact absurd rfl c
theorem kS (h:vN t=false):yh t=false:=by
 unfold yh
 unfold vN at h
 cases e:jc t with
 | none=>rfl
 | some r =>
  rw[e] at h
  show decide _=false
  exact xlP fun w=>xlU h w.1
theorem ml (h:us.all vN=true):∃rows:List Pol.R3,us=rows.map trR∧∀r∈rows,r.1≠0∨r.2.1≠0:=by
 induction us with
 | nil=>exact⟨[],rfl,fun r hr=>by simp at hr⟩
 | cons t us ih =>
  rw[xkg,xjH] at h
  obtain⟨rows,e,hr⟩:=ih h.2
  have ht:=h.1
  unfold vN at ht
  cases e1:jc t with
  | none=>rw[e1] at ht;cases ht
  | some r =>
   rw[e1] at ht
   have ht:=xlV ht
   refine⟨r::rows,by rw[uA e1,e];rfl,fun x hx=>?_⟩
   rcases xk5.mp hx with z | z
   ·rw[z];exact ht
   ·exact hr x z
theorem bz (c:¬(3≤us.length∧us.length≤8)):isField (.tup us)=false:=by
 show(match rowsOf us with | some rows=>xt rows | none=>false)=false
 cases e:rowsOf us with
 | none=>rfl
 | some rows =>
  show xt rows=false
  unfold xt
  rw[wU e,xkP] at c
  rw[xlP c];rfl
theorem qp:isField (.tup (rows.map trR))=xt rows:=by
 show(match rowsOf (rows.map trR) with | some rows=>xt rows | none=>false)=_
 rw[jZ]
end L2
namespace L2
open PySem PySem.Spec PyProof.Rows
def DD (K:PySem.W.Frag)(x:Str)(st:Stmt):Prop:=∃f fd,PySem.W.nsIn K mainGlobals x=some (some (.ref f))∧Fun K x x st f fd
theorem dd {K:PySem.W.Frag}{x:Str}{st:Stmt}{f:Addr}{oc:Value}{od an:Option Addr}{sl:Array (Option Value)}{kV dc pm cd ct:Value}(a:PySem.W.nsIn K mainGlobals x=some (some (.ref f)))
  (l:K.lookup f=some ⟨oc,od,.func (PySem.W.fnOf x x (uj st) (yZ st) (xf st) .none kV dc pm an cd ct),sl⟩) (c:PySem.W.codeIn K cd x=true) (k:PySem.W.keepIn K (.ref f)=true):DD K x st:=⟨f,_,a,xeo l c k⟩
theorem zL {K:PySem.W.Frag}{x qual p1:Str}{st:Stmt}{f:Addr}{fd:FuncData}(F:Fun K x qual st f fd)(h:∀(kV doc pm:Value) (an:Option Addr) (cdv ct u1:Value),bindArgs (PySem.W.fnOf x qual (uj st) (yZ st) (xf st) .none kV doc pm an cdv ct) ⟨[u1],[]⟩=pure [(p1,u1)]):Binds K fd [p1] [] :=
 F.binds fun a b c d e g us hl=>match us,hl with | [u1],_=>h a b c d e g u1
theorem zS {K:PySem.W.Frag}{x qual p1 p2:Str}{st:Stmt}{f:Addr}{fd:FuncData}(F:Fun K x qual st f fd)(h:∀(kV doc pm:Value) (an:Option Addr) (cdv ct u1 u2:Value),bindArgs (PySem.W.fnOf x qual (uj st) (yZ st) (xf st) .none kV doc pm an cdv ct) ⟨[u1,u2],[]⟩=pure [(p1,u1),(p2,u2)]):Binds K fd [p1,p2] [] :=
 F.binds fun a b c d e g us hl=>match us,hl with | [u1,u2],_=>h a b c d e g u1 u2
theorem oQ {K:PySem.W.Frag}{x qual p1 p2 p3:Str}{st:Stmt}{f:Addr}{fd:FuncData}(F:Fun K x qual st f fd)(h:∀(kV doc pm:Value) (an:Option Addr) (cdv ct u1 u2 u3:Value),bindArgs (PySem.W.fnOf x qual (uj st) (yZ st) (xf st) .none kV doc pm an cdv ct) ⟨[u1,u2,u3],[]⟩=pure [(p1,u1),(p2,u2),(p3,u3)]):Binds K fd [p1,p2,p3] [] :=
 F.binds fun a b c d e g us hl=>match us,hl with | [u1,u2,u3],_=>h a b c d e g u1 u2 u3
def xg8 (r:Pol.R3)(p:P2):Bool:=decide ((xdK r p).1=r.2.2*(xdK r p).2)
def brk (v:Pol.R3):Bool := !decide ((plc v).1.2=1) || !decide ((plc v).2.2=1)
theorem xck (h:xt rows=true):(3≤rows.length∧rows.length≤8)∧(∀r∈rows,(r.1≠0∨r.2.1≠0)∧Pol.uC r)∧Pol.zj rows=true∧∀v∈Pol.pieces rows,qN v=true:=by
 unfold xt at h
 simp only[xjH,xlS,xki] at h
 exact⟨h.1.1.1,h.1.1.2,h.1.2,h.2⟩
theorem dZ (h:xt rows=true):isField (.tup (rows.map trR))=true:=by rw[qp];exact h
theorem LF.isf (h:LF rows):xt rows=true:=by rw[←qp];exact h.field
theorem getD_mem {α:Type}{l:List α}{i:Nat}(d:α)(h:i<l.length):l.getD i d∈l:=by
 rw[xkz,xkD h];exact xkJ h
def xeL:Tr→Bool
 | .non | .bl _ | .int _=>true
 | _=>false
def Sm:Nat→Tr→Prop
 | 0,t=>xeL t=true
 | d+1,t=>xeL t=true∨∃us,(t=.tup us∨t=.lst us)∧us.length≤100000∧∀u∈us,Sm d u
def xg4 (d:Nat):TSp:=fun ts KK=>∃t,ts=[t,t]∧Sm d t∧KK (.bl true)
def xgb:TSp:=fun _ _=>False
def xdI:Nat→TSp
 | 0=>xgb
 | d+1=>xg4 d
def xet:TSp:=xg4 4
theorem xhv (d:Nat)(i:Int):Sm d (.int i):=by cases d;exact rfl;exact .inl rfl
theorem xd6 (l:us.length≤100000)(h:∀u∈us,Sm d u):Sm (d+1) (.tup us):=.inr ⟨us,.inl rfl,l,h⟩
theorem mM (us:List Tr):oZ us us=us.map fun u=>.tup [u,u]:=by
 induction us with
 | nil=>rfl
 | cons u us ih=>show Tr.tup [u,u]::oZ us us=_;rw[ih];rfl
theorem xcp {K:PySem.W.Frag}{st:Stmt}(F:Fun K x qual st f fd)(S:xC N ps (xf st))(mgx:mg x=some (.ref f))(b:Binds K fd ps []) :
  Own P w K mg base 1 x ps (spT n s fr xgb) :=
 dY F S mgx b (fun vs H Q E h=>by obtain⟨_,_,_,_,_,_,_,_,_,_,_,z,_⟩:=h;exact z.elim) (fun cdv A outer s H vs Q E hr h=>by obtain⟨_,_,_,_,_,_,_,_,_,_,_,z,_⟩:=h;exact z.elim)
end L2
namespace L2
open PySem PySem.Spec PyProof.Rows
end L2
namespace L2
open PySem
def tn (a b c d:Int):Int:=a*d-b*c
theorem pO (j:Int):xdb (.lst [.int j]) (.lst [.int j]):=⟨rfl,rfl,by show min 1 1≤64;decide⟩
end L2
namespace L2
open PySem
end L2
namespace L2
open PySem Tx
open Builtin.Str (glued occurrences partsBetween strSub subAt)
def yq (i:Int):Str:=Str.ofString (toString i)
def xdG (w:Str):Bool:=decide (0+(("-" : Str)).length≤w.length)&&subAt w ("-" : Str) 0
def wJ (w:Str):Str:=if xdG w=true then Txt.slice w (some 1) none else w
def xiG (n:Int):Bool :=
 decide (1≤(wJ (yq n)).length)&&decide ((wJ (yq n)).length≤4)&&(wJ (yq n)).cps.toList.all (fun c=>decide (48≤c∧c≤57))&&decide (intText? (yq n)=some n)&&(yq n).cps.toList.all (fun c=>decide (c≠32∧c≠59∧c<128))&&decide ((yq n).length≤5)
theorem xcG:(List.range 2001).all (fun k=>xiG ((k:Int)-1000))=true:=by decide +kernel
structure xhK (n:Int):Prop where
 f1:1≤(wJ (yq n)).length
 f4:(wJ (yq n)).length≤4
 dg:∀c∈(wJ (yq n)).cps.toList,48≤c∧c≤57
 rd:intText? (yq n)=some n
 cs:∀c∈(yq n).cps.toList,c≠32∧c≠59∧c<128
 l5:(yq n).length≤5
theorem jA (h:-1000≤n∧n≤1000):xhK n:=by
 have:=xki.mp xcG (n+1000).toNat (xlf.mpr (by omega))
 rw[show(((n+1000).toNat:Nat):Int)-1000=n by omega] at this
 unfold xiG at this
 simp only[xjH,xlS,xki] at this
 obtain⟨⟨⟨⟨⟨a,b⟩,c⟩,d⟩,e⟩,f⟩:=this
 exact⟨a,b,c,d,e,f⟩
end L2
namespace L2
open PySem Tx NumText
open Builtin.Str (glued occurrences partsBetween strSub subAt strSliceIndices)
def xe8 (m:Nat):List Nat:=(Nat.toDigits 10 m).map Char.toNat
theorem rg (m:Nat):AllDigits (xe8 m):=fun c hc=>by
 obtain⟨ch,hch,e⟩:=xla.mp hc
 have r:=PyProof.Rows.digit_range (Nat.isDigit_of_mem_toDigits (by decide) (by decide) hch)
 rw[←e]
 exact r
theorem xfs (m:Nat):xe8 m≠[]:=fun e=>Nat.toDigits_ne_nil (List.map_eq_nil_iff.mp e)
theorem oj (m:Nat):digitsVal (xe8 m)=m:=PySem.W.KIN.val_back m
def wK:List Nat→Int
 | 45::r=>-((digitsVal r:Nat):Int)
 | l=>((digitsVal l:Nat):Int)
theorem j0 (h:AllDigits l):wK l=((digitsVal l:Nat):Int):=by
 cases l with
 | nil=>rfl
 | cons c l =>
  have:=h.head
  unfold wK
  split
  ·rename_i e;cases e;omega
  ·rfl
theorem t6 (n:Int):(0≤n∧(yq n).cps.toList=xe8 n.natAbs)∨(n<0∧(yq n).cps.toList=45::xe8 n.natAbs):=by
 rcases xjZ n 0 with c | c
 ·obtain⟨m,rfl⟩:∃m:Nat,n = -((m+1:Nat):Int):=⟨(-n-1).toNat,by omega⟩
  refine .inr ⟨c,?_⟩
  have e:toString (-((m+1:Nat):Int)) = "-" ++ toString (((m+1:Nat):Int)):=rfl
  have s:=PySem.W.KIN.signs_num (m+1)
  rw[PyProof.Rows.signs_ofString] at s
  unfold yq
  rw[e,PyProof.Rows.signs_ofString,String.toList_append,xkV,s,show(-((m+1:Nat):Int)).natAbs=m+1 by omega]
  rfl
 ·obtain⟨m,rfl⟩:=xjR c
  exact .inl ⟨c,PySem.W.KIN.signs_num m⟩
theorem kE (n:Int):wK (yq n).cps.toList=n:=by
 rcases t6 n with ⟨h,e⟩ | ⟨h,e⟩
 ·rw[e,j0 (rg _),oj];omega
 ·rw[e];show -((digitsVal (xe8 n.natAbs):Nat):Int)=n;rw[oj];omega
def n5 (w:Str):Option Int:=if yq (wK w.cps.toList)=w then some (wK w.cps.toList) else none
theorem rK (n:Int):n5 (yq n)=some n:=by unfold n5;rw[kE,if_pos rfl]
theorem t7 (h:n5 w=some n):yq n=w:=by
 unfold n5 at h
 split at h
 ·rename_i e;cases h;exact e
 ·cases h
theorem fg (l:List Nat)(a:Nat):∀m,((List.range m).map (a + ·)).filterMap (l[·]?)=(l.drop a).take m
 | 0=>by simp
 | m+1=>by
  rw[xll,xkV,List.filterMap_append,fg l a m,List.take_add_one,xkC]
  simp only[xkX,xk0,xkt,List.filterMap_nil]
  cases l[a+m]?<;>rfl
theorem range_one (s t:Int)(h:0≤s):sliceRange s t 1=(List.range (t-s).toNat).map (s.toNat + ·):=by
 unfold sliceRange
 have e:(if (1:Int)>0 then(if s<t then(t-s+1-1) / 1 else 0) else(if s>t then(s-t-1-1) / (-1) else 0)).toNat=(t-s).toNat:=by
  rw[if_pos (by decide)]
  split
  ·rw[Int.ediv_one];congr 1;omega
  ·omega
 dsimp only
 rw[e]
 refine xkW fun k _=>?_
 omega
theorem xdm (x:Str)(lo hi:Option Int):∃a m,(Txt.slice x lo hi).cps.toList=(x.cps.toList.drop a).take m:=by
 unfold Txt.slice
 split
 ·exact⟨0,x.cps.toList.length,by rw[xkr,List.take_length]⟩
 ·unfold strSliceIndices
  dsimp only
  rw[range_one _ _ (by split<;>(rw[if_pos (by decide)];omega))]
  have g:(fun i:Nat=>x.cps[i]?)=fun i=>x.cps.toList[i]?:=by funext i;rw[xjC]
  rw[List.toList_toArray,g,fg]
  exact⟨_,_,rfl⟩
theorem cF (x:Str):(Txt.slice x (some 1) none).cps.toList=x.cps.toList.drop 1:=by
 have hl:x.length=x.cps.toList.length:=by simp[Str.length]
 unfold Txt.slice
 have e:strSliceIndices (some 1) none 1 x.length=(List.range (x.length-min 1 x.length)).map (min 1 x.length + ·):=by
  unfold strSliceIndices
  dsimp only
  rw[range_one _ _ (by rw[if_pos (by decide)];omega)]
  simp only[show((1:Int)>0)=True from eq_true (by decide),show((1:Int)<0)=False from eq_false (by decide),if_true,if_false]
  rw[show(max 0 (min 1 (x.length:Int))).toNat=min 1 x.length by omega,show((x.length:Int)-max 0 (min 1 (x.length:Int))).toNat=x.length-min 1 x.length by omega]
 rw[e]
 split
 ·rename_i h
  simp only[xjH,xlM,xkP,List.length_range] at h
  have:x.length=0:=by omega
  rw[List.drop_of_length_le (by omega)]
  rw[hl] at this
  exact xkO.mp this
 ·rw[List.toList_toArray]
  have g:(fun i:Nat=>x.cps[i]?)=fun i=>x.cps.toList[i]?:=by funext i;rw[xjC]
  rw[g,fg]
  by_cases z:x.length=0
  ·have:x.cps.toList=[]:=xkO.mp (by omega)
   rw[this];simp
  ·rw[show min 1 x.length=1 by omega,xlr (by rw[xkN];omega)]
theorem xbc (x:Str):(Txt.slice x none (some 1)).cps.toList=x.cps.toList.take 1:=by
 have hl:x.length=x.cps.toList.length:=by simp[Str.length]
 unfold Txt.slice
 have e:strSliceIndices none (some 1) 1 x.length=(List.range (min 1 x.length)).map (0 + ·):=by
  unfold strSliceIndices
  dsimp only
  rw[range_one _ _ (by rw[if_pos (by decide)];omega)]
  simp only[show((1:Int)>0)=True from eq_true (by decide),show((1:Int)<0)=False from eq_false (by decide),if_true,if_false]
  rw[show(max 0 (min 1 (x.length:Int))-0).toNat=min 1 x.length by omega]
  rfl
 rw[e]
 split
 ·rename_i h
  simp only[xjH,xlM,xkP,List.length_range] at h
  rw[xlr (by omega)]
 ·rw[List.toList_toArray]
  have g:(fun i:Nat=>x.cps[i]?)=fun i=>x.cps.toList[i]?:=by funext i;rw[xjC]
  rw[g,fg,xkr]
  by_cases z:x.length=0
  ·have:x.cps.toList=[]:=xkO.mp (by omega)
   rw[this];simp
  ·rw[show min 1 x.length=1 by omega]
def xhR:List Nat→List Nat
 | 45::r=>r
 | l=>l
theorem fk (w:Str):xdG w=decide (w.cps.toList.take 1=[45]):=by
 have hl:w.length=w.cps.toList.length:=by simp[Str.length]
 unfold xdG
 rw[StrLaws.subAt_eq,xkr]
 show(decide (0+1≤w.length)&&(w.cps.toList.take 1 == [45]))=_
 rw[xjI]
 simp only[xjH,xlS,xlM]
 constructor
 ·exact fun h=>h.2
 ·intro h
  refine⟨?_,h⟩
  have:=xlN List.length h
  rw[xkT,xkS] at this
  omega
theorem jk (l:List Nat):xhR l=if l.take 1=[45] then l.drop 1 else l:=by
 cases l with
 | nil=>rfl
 | cons c l =>
  by_cases h:c=45
  ·subst h;rfl
  ·rw[if_neg (by simpa using h)]
   unfold xhR
   split
   ·rename_i e;cases e;exact absurd rfl h
   ·rfl
theorem ud (w:Str):(wJ w).cps.toList=xhR w.cps.toList:=by
 unfold wJ
 rw[fk,jk]
 by_cases h:w.cps.toList.take 1=[45]
 ·rw[if_pos (xlR h),if_pos h,cF]
 ·rw[if_neg (by rw[xlP h];exact xjJ),if_neg h]
end L2
namespace Pol
def sw (p:R3):R3:=(p.2.1,p.1,p.2.2)
end Pol
namespace L2
open PySem PySem.Spec PyProof.Rows
section
variable {rows:List Pol.R3} (FR:gR rows) {r v:Pol.R3} (hr:r∈rows) (hv:v∈n6 rows) (ht:xg8 r (plc v)=true)
include FR hr
include hv ht
end
end L2
namespace L2
open PySem Tx
open Builtin.Str (glued occurrences partsBetween strSub subAt)
def uh (r:Pol.R3):Str:=glued (" " : Str) [yq r.1,yq r.2.1,yq r.2.2]
def uF (rows:List Pol.R3):Str:=glued (" ; " : Str) (rows.map uh)
theorem jS (sep:Str):∀(ss:List Str) (acc:Nat),(∀s∈ss,s.length≤c)→ss.foldl (· + ·.length+sep.length) acc≤acc+ss.length*(c+sep.length)
 | [],acc,_=>by simp
 | s::ss,acc,h=>by
  have:=jS sep ss (acc+s.length+sep.length) fun x hx=>h x (xk6 _ hx)
  have hs:=h s xk7
  rw[xkx,xkM,Nat.succ_mul]
  omega
theorem xdx:∀(l:List (List Nat)),(∀s∈l,s.length≤c)→(gl y l).length≤l.length*(c+y.length)
 | [],_=>by simp[gl]
 | [q],h=>by
  have:=h q xk7
  show q.length≤1*_
  omega
 | q::p::r,h=>by
  have:=xdx (y:=y) (p::r) fun x hx=>h x (xk6 _ hx)
  have hs:=h q xk7
  rw[wN (by simp),xkL,xkL,xkM,Nat.succ_mul]
  omega
theorem str_len (x:Str):x.length=x.cps.toList.length:=by simp[Str.length]
theorem du (h:∀s∈ss,s.length≤c):(glued sep ss).length≤ss.length*(c+sep.length):=by
 rw[str_len,yQ,str_len sep]
 refine xly (xdx (c:=c) _ fun s hs=>?_) (by rw[xkP];exact xlw _)
 obtain⟨q,hq,rfl⟩:=xla.mp hs
 rw[←str_len];exact h q hq
theorem mT (h:∀s∈ss,s.length≤c)(hn:ss.length*(c+sep.length)≤1000000):ss.toArray.foldl (· + ·.length+sep.length) 0≤sizeLine∧(glued sep ss).length≤sizeLine:=by
 have a:=jS sep ss 0 h
 have b:=du (sep:=sep) h
 rw[List.foldl_toArray]
 have:(1000000:Nat)≤sizeLine:=by decide
 omega
theorem l6 (h:Pol.uC r):(-1000≤r.1∧r.1≤1000)∧(-1000≤r.2.1∧r.2.1≤1000)∧(-1000≤r.2.2∧r.2.2≤1000):=by
 unfold Pol.uC at h;omega
theorem kh (h:Pol.uC r):∀w∈[yq r.1,yq r.2.1,yq r.2.2],w.length≤5∧∀c∈w.cps.toList,c≠32∧c≠59∧c<128:=fun w hw=>by
 obtain⟨a,b,c⟩:=l6 h
 simp only[xk5,xlk,xlW] at hw
 rcases hw with rfl | rfl | rfl
 ·exact⟨(jA a).l5,(jA a).cs⟩
 ·exact⟨(jA b).l5,(jA b).cs⟩
 ·exact⟨(jA c).l5,(jA c).cs⟩
theorem xep:((" " : Str)).length=1:=by decide
theorem xev:((" ; " : Str)).length=3:=by decide
theorem rO (h:Pol.uC r):(uh r).length≤18:=by
 have:=du (sep:=(" " : Str)) (c:=5) (ss:=[yq r.1,yq r.2.1,yq r.2.2]) fun s hs=>(kh h s hs).1
 rw[xep] at this
 exact this
theorem nI:∀(l:List (List Nat)),c∈gl y l→c∈y∨∃q∈l,c∈q
 | [],h=>by simp[gl] at h
 | [q],h=>.inr ⟨q,xk7,h⟩
 | q::p::r,h=>by
  rw[wN (by simp)] at h
  rcases xk2.mp h with h | h
  ·exact .inr ⟨q,xk7,h⟩
  ·rcases xk2.mp h with h | h
   ·exact .inl h
   ·rcases nI (p::r) h with h | ⟨x,hx,h⟩
    ·exact .inl h
    ·exact .inr ⟨x,xk6 _ hx,h⟩
theorem xf_ (h:Pol.uC r):(59:Nat)∉(uh r).cps.toList:=fun z=>by
 unfold uh at z
 rw[yQ] at z
 rcases nI _ z with z | ⟨q,hq,z⟩
 ·exact absurd z (by decide)
 ·obtain⟨w,hw,rfl⟩:=xla.mp hq
  exact((kh h w hw).2 59 z).2.1 rfl
theorem xgf:∀(l:List (List Nat)),(l.length-1)*y.length≤(gl y l).length
 | []=>by simp
 | [_]=>by simp
 | q::p::r=>by
  have:=xgf (y:=y) (p::r)
  rw[wN (by simp),xkL,xkL]
  simp only[xkM,Nat.add_sub_cancel] at *
  rw[Nat.succ_mul]
  omega
theorem c_ (y:Str)(qs:List Str):(qs.length-1)*y.length≤(glued y qs).length:=by
 rw[str_len (glued y qs),yQ,str_len y]
 have:=xgf (y:=y.cps.toList) (qs.map fun q=>q.cps.toList)
 rw[xkP] at this
 exact this
theorem fC {y:Str}{qs:List Str}{c d:Nat}(hy:0<y.length)(hd:y.cps.toList[d]? = some c)(hu:∀e,y.cps.toList[e]? = some c→e=d)(hq:∀q∈qs,c∉q.cps.toList)(ne:qs≠[])(hk:Builtin.Str.strKind y=1):Txt.split (glued y qs) y=qs:=by
 have ge:=c_ y qs
 have h1:qs.length-1≤(qs.length-1)*y.length:=xlu _ hy
 refine bF hy hd hu hq ne hk (by omega) fun two=>?_
 have:1*y.length≤(qs.length-1)*y.length:=xlF _ (by omega)
 omega
theorem xdD:∀e,((" " : Str)).cps.toList[e]? = some 32→e=0:=fun e h=>by
 match e,h with
 | 0,_=>rfl
 | n+1,h=>exact absurd h (by show ¬([]:List Nat)[n]? = some 32;simp)
theorem xgI:∀e,((" ; " : Str)).cps.toList[e]? = some 59→e=1:=fun e h=>by
 match e,h with
 | 0,h=>exact absurd h (by decide)
 | 1,_=>rfl
 | 2,h=>exact absurd h (by decide)
 | n+3,h=>exact absurd h (by show ¬([]:List Nat)[n]? = some 59;simp)
theorem fF {r:Pol.R3}(h:Pol.uC r):Txt.split (uh r) (" " : Str)=[yq r.1,yq r.2.1,yq r.2.2] :=
 fC (c:=32) (d:=0) (by decide) (by decide) xdD (fun q hq z=>((kh h q hq).2 32 z).1 rfl) (by simp) (j2 (by decide))
theorem sA {rows:List Pol.R3}(h:∀r∈rows,Pol.uC r)(ne:rows≠[]):Txt.split (uF rows) (" ; " : Str)=rows.map uh :=
 fC (c:=59) (d:=1) (by decide) (by decide) xgI (fun q hq=>by obtain⟨r,hr,rfl⟩:=xla.mp hq;exact xf_ (h r hr)) (by simpa using ne) (j2 (by decide))
theorem tM (x y:Str):(partsBetween x (occurrences x y 0 x.length (x.length+1)) y.length).length≤x.length+2:=by
 rw[PyProof.Rows.len_partsBetween]
 have:=StrLaws.occ_length_le x y 0 x.length (x.length+1)
 omega
theorem oJ (h:∀r∈rows,Pol.uC r)(l8:rows.length≤8):(uF rows).length≤168:=by
 have:=du (sep:=(" ; " : Str)) (c:=18) (ss:=rows.map uh) fun s hs=>by obtain⟨r,hr,rfl⟩:=xla.mp hs;exact rO (h r hr)
 rw[xev,xkP] at this
 unfold uF
 omega
theorem pA {i:Int}(h:i.natAbs<2 ^ 100):i.natAbs.log2<1920:=by
 have:=log2_lt_of (k:=100) h (by decide)
 omega
theorem wg (h:n≤1000000):n≤sizeLine:=xly h (by decide)
theorem xeN (h:Pol.uC r):∀n∈[r.1,r.2.1,r.2.2],-1000≤n∧n≤1000:=fun n hn=>by
 obtain⟨a,b,c⟩:=l6 h
 simp only[xk5,xlk,xlW] at hn
 rcases hn with rfl | rfl | rfl
 ·exact a
 ·exact b
 ·exact c
theorem xaf (h:Pol.uC r):∀n∈[r.1,r.2.1,r.2.2],n.natAbs<2 ^ 100:=fun n hn=>by
 have:=xeN h n hn
 omega
theorem p0 {rows:List Pol.R3}(h:∀r∈rows,Pol.uC r)(l8:rows.length≤8):(rows.map uh).toArray.foldl (· + ·.length+((" ; " : Str)).length) 0≤sizeLine∧(glued (" ; " : Str) (rows.map uh)).length≤sizeLine :=
 mT (c:=18) (fun s hs=>by obtain⟨r,hr,rfl⟩:=xla.mp hs;exact rO (h r hr)) (by rw[xkP,xev];omega)
theorem r9 (x:Str):teq (.str x) (.str x)=true:=by
 show(x == x)=true
 exact beq_self_eq_true x
theorem aP (h:Pol.uC r):([yq r.1,yq r.2.1,yq r.2.2]).toArray.foldl (· + ·.length+((" " : Str)).length) 0≤sizeLine∧(glued (" " : Str) [yq r.1,yq r.2.1,yq r.2.2]).length≤sizeLine :=
 mT (c:=5) (fun s hs=>(kh h s hs).1) (by show 3*(5+((" " : Str)).length)≤1000000;rw[xep];decide)
theorem xcz {rows:List Pol.R3}(h:rows.length≤8):Sm 4 (.tup (rows.map trR)):=xd6 (by rw[xkP];omega) fun u hu=>by
 obtain⟨r,_,rfl⟩:=xla.mp hu
 refine xd6 (by show 3≤100000;decide) fun u hu=>?_
 simp only[xk5,xlk,xlW] at hu
 rcases hu with rfl | rfl | rfl<;>exact xhv _ _
def okS (x:Str):Prop:=∀c∈x.cps.toList,c<0x110000
theorem aq (s:String):okS (Str.ofString s):=fun c hc=>by
 rw[PyProof.Rows.signs_ofString] at hc
 obtain⟨d,_,rfl⟩:=xla.mp hc
 have:=d.valid
 unfold UInt32.isValidChar Nat.isValidChar at this
 show d.val.toNat<_
 omega
theorem xdB (h:okS sep)(hs:∀s∈ss,okS s):okS (glued sep ss):=fun c hc=>by
 rw[yQ] at hc
 rcases nI _ hc with z | ⟨q,hq,z⟩
 ·exact h c z
 ·obtain⟨w,hw,rfl⟩:=xla.mp hq
  exact hs w hw c z
theorem xak (n:Int):okS (yq n):=aq _
theorem ot (h:okS x):xdb (.str x) (.str x):=by
 have p:pln (.str x)=true:=by
  show PyData.strOk x=true
  unfold PyData.strOk
  rw[xjA]
  intro i hi
  exact xlR (h _ (xjD hi))
 exact⟨p,p,by show min 0 0≤64;decide⟩
theorem xeY (r:Pol.R3):okS (uh r):=xdB (aq _) fun s hs=>by
 simp only[xk5,xlk,xlW] at hs
 rcases hs with rfl | rfl | rfl<;>exact xak _
theorem oS (rows:List Pol.R3):okS (uF rows):=xdB (aq _) fun s hs=>by
 obtain⟨r,_,rfl⟩:=xla.mp hs
 exact xeY r
def dj:TSp:=fun ts KK=>∃rows:List Pol.R3,ts=[.tup (rows.map trR)]∧(∀r∈rows,Pol.uC r)∧rows.length≤8∧KK (.str (uF rows))
def sT:TSp:=fun ts KK=>∃rows:List Pol.R3,ts=[.str (uF rows)]∧xt rows=true∧KK (.tup (rows.map trR))
end L2
namespace L2
open PySem Tx NumText
open Builtin.Str (glued occurrences partsBetween strSub subAt strSliceIndices)
def vK (W:Nat)(l:List Nat):Prop:=∀r,r <:+: l→32∉r→r.length≤W
theorem vK.sub (h:vK W l)(i:k <:+: l):vK W k:=fun r hr=>h r (hr.trans i)
theorem vK.mono {W V:Nat}{l:List Nat}(h:vK W l)(i:W≤V):vK V l:=fun r hr n=>xly (h r hr n) i
theorem vK.app {W V:Nat}{a b:List Nat}(ha:vK W a)(hb:vK V b):vK (W+V) (a++b):=fun r hr n=>by
 rcases List.infix_append_iff.mp hr with h | h | ⟨p,s,rfl,hp,hs⟩
 ·have:=ha r h n;omega
 ·have:=hb r h n;omega
 ·have h1:=ha p hp.isInfix fun z=>n (xk3 _ z)
  have h2:=hb s hs.isInfix fun z=>n (xk4 _ z)
  rw[xkL];omega
theorem vK.sep (ha:vK W a)(hb:vK W b):vK W (a++32::b):=fun r hr n=>by
 have pre:∀s,s <+: 32::b→32∉s→s=[]:=fun s hs ns=>by
  rcases List.prefix_cons_iff.mp hs with h | ⟨t,rfl,_⟩
  ·exact h
  ·exact absurd xk7 ns
 rcases List.infix_append_iff.mp hr with h | h | ⟨p,s,rfl,hp,hs⟩
 ·exact ha r h n
 ·rcases List.infix_cons_iff.mp h with h | h
  ·rw[pre r h n];exact xlJ _
  ·exact hb r h n
 ·rw[pre s hs fun z=>n (xk4 _ z),xkn]
  exact ha p hp.isInfix fun z=>n (xk3 _ z)
theorem qY (h:l.length≤W):vK W l:=fun r hr _=>xly hr.length_le h
theorem td (w1:1≤W)(hy:y=[32]∨y=[32,59,32]):∀qs:List (List Nat),(∀q∈qs,vK W q)→vK W (gl y qs)
 | [],_=>qY (xlJ _)
 | [q],h=>h q xk7
 | q::p::r,h=>by
  have ih:=td w1 hy (p::r) fun x hx=>h x (xk6 _ hx)
  have hq:=h q xk7
  rw[wN (by simp)]
  rcases hy with rfl | rfl
  ·exact hq.sep ih
  ·exact hq.sep ((qY (l:=[59]) w1).sep ih)
theorem uM (x y:Str):glued y (Txt.split x y)=x:=by
 unfold Txt.split
 split
 ·rfl
 ·split
  ·rfl
  ·exact StrLaws.glued_between_self x y _
theorem cW (x y:Str):Txt.split x y≠[]:=by
 unfold Txt.split
 split
 ·simp
 ·split
  ·simp
  ·intro h
   have:=xlN List.length h
   rw[PyProof.Rows.len_partsBetween] at this
   simp at this
theorem xdH:∀ {qs:List (List Nat)} {q:List Nat},q∈qs→q <:+: gl y qs
 | [p],q,h=>by rw[xlg.mp h];exact List.infix_refl _
 | p::r::s,q,h=>by
  rw[wN (by simp)]
  rcases xk5.mp h with rfl | h
  ·exact(List.prefix_append _ _).isInfix
  ·exact((xdH h).trans (List.suffix_append _ _).isInfix).trans (List.suffix_append _ _).isInfix
theorem mG (h:q∈Txt.split x y):q.cps.toList <:+: x.cps.toList:=by
 have e:(glued y (Txt.split x y)).cps.toList=x.cps.toList:=by rw[uM]
 rw[yQ] at e
 rw[←e]
 exact xdH (xlb h)
theorem sJ (x y:Str)(hy:1≤y.length):(Txt.split x y).length≤x.length+1:=by
 have ge:=c_ y (Txt.split x y)
 rw[uM] at ge
 have:(Txt.split x y).length-1≤((Txt.split x y).length-1)*y.length:=xlu _ hy
 omega
def cutAt (c:Nat):List Nat→List (List Nat)
 | []=>[[]]
 | d::l=>if d=c then[]::cutAt c l else match cutAt c l with | []=>[[d]] | q::r=>(d::q)::r
theorem g6 (c:Nat)(l:List Nat):cutAt c l≠[]:=by
 cases l with
 | nil=>simp[cutAt]
 | cons d l =>
  unfold cutAt
  split
  ·simp
  ·split<;>simp
theorem pG (c:Nat):∀l,gl [c] (cutAt c l)=l
 | []=>rfl
 | d::l=>by
  have ih:=pG c l
  unfold cutAt
  split
  ·rename_i e
   subst e
   rw[wN (g6 d l),ih];rfl
  ·split
   ·rename_i e;exact absurd e (g6 c l)
   ·rename_i q r e
    rw[e] at ih
    cases r with
    | nil=>show d::q=d::l;rw[show q=l from ih]
    | cons p r =>
     rw[wN (by simp)] at ih ⊢
     rw[xko,ih]
theorem cZ (c:Nat):∀l,∀q∈cutAt c l,c∉q
 | [],q,h=>by rw[xlg.mp h];simp
 | d::l,q,h=>by
  have ih:=cZ c l
  unfold cutAt at h
  split at h
  ·rcases xk5.mp h with rfl | h
   ·simp
   ·exact ih q h
  ·rename_i nd
   split at h
   ·rename_i e;exact absurd e (g6 c l)
   ·rename_i p r e
    rw[e] at ih
    rcases xk5.mp h with rfl | h
    ·intro z
     rcases xk5.mp z with z | z
     ·exact nd z.symm
     ·exact ih p xk7 z
    ·exact ih q (xk6 _ h)
theorem xez (h:w∈Txt.split x (" " : Str)):32∉w.cps.toList:=by
 have e:x=glued (" " : Str) ((cutAt 32 x.cps.toList).map fun q=>⟨q.toArray⟩):=by
  apply Str.ext'
  apply xjG.mp
  rw[yQ,xkZ]
  have:((cutAt 32 x.cps.toList).map ((fun q:Str=>q.cps.toList) ∘ fun q=>⟨q.toArray⟩))=cutAt 32 x.cps.toList:=by
   conv=>rhs;rw[←List.map_id (cutAt 32 x.cps.toList)]
   refine xkW fun q _=>?_
   simp
  rw[this]
  exact(pG 32 _).symm
 have no:∀q∈(cutAt 32 x.cps.toList).map (fun q=>(⟨q.toArray⟩:Str)),32∉q.cps.toList:=fun q hq=>by
  obtain⟨p,hp,rfl⟩:=xla.mp hq
  simpa using cZ 32 _ p hp
 rw[e,fC (c:=32) (d:=0) (by decide) (by decide) xdD no (by simpa using g6 32 _) (j2 (by decide))] at h
 exact no w h
def tot (k:Nat)(qs:List Str):Nat:=(qs.map fun q=>q.length+k).sum
theorem kj (k:Nat)(q:Str)(qs:List Str):tot k (q::qs)=q.length+k+tot k qs:=by simp[tot]
theorem dA (k:Nat)(ps qs:List Str):tot k (ps++qs)=tot k ps+tot k qs:=by unfold tot;rw[xkV,List.sum_append]
theorem xeu (y:Str):∀qs:List Str,qs≠[]→(gl y.cps.toList (qs.map fun q=>q.cps.toList)).length+y.length=tot y.length qs
 | [],h=>absurd rfl h
 | [q],_=>by
  show q.cps.toList.length+y.length=_
  rw[kj,←str_len];rfl
 | q::p::r,_=>by
  have ih:=xeu y (p::r) (by simp)
  rw[xkX,wN (by simp),xkL,xkL,kj,←ih,←str_len,←str_len]
  omega
theorem t5 (y:Str)(qs:List Str)(h:qs≠[]):(glued y qs).length+y.length=tot y.length qs:=by
 rw[str_len,yQ];exact xeu y qs h
theorem pP (y:Str)(qs:List Str):(glued y qs).length≤tot y.length qs:=by
 cases qs with
 | nil=>exact xlJ _
 | cons q r=>have:=t5 y (q::r) (by simp);omega
theorem pY (y:Str):∀(qs:List Str) (acc:Nat),qs.foldl (· + ·.length+y.length) acc=acc+tot y.length qs
 | [],acc=>rfl
 | q::qs,acc=>by rw[xkx,pY y qs,kj];omega
theorem xb1 (x y:Str):tot y.length (Txt.split x y)=x.length+y.length:=by
 have:=t5 y (Txt.split x y) (cW x y)
 rw[uM] at this
 exact this.symm
structure Bt (L W:Nat)(x:Str):Prop where
 asc:∀c∈x.cps.toList,c<128
 len:x.length≤L
 run:vK W x.cps.toList
theorem Bt.sub (h:Bt L W x)(i:y.cps.toList <:+: x.cps.toList):Bt L W y :=
 ⟨fun c hc=>h.asc c (i.subset hc),by have:=i.length_le;have:=h.len;rw[str_len] at this ⊢;omega,h.run.sub i⟩
theorem Bt.mono {L W M V:Nat}{x:Str}(h:Bt L W x)(hl:L≤M)(hw:W≤V):Bt M V x:=⟨h.asc,xly h.len hl,h.run.mono hw⟩
theorem Bt.app {L W M V:Nat}{x y:Str}(hx:Bt L W x)(hy:Bt M V y):Bt (L+M) (W+V) (x++y):=by
 have e:(x++y).cps.toList=x.cps.toList++y.cps.toList:=by rw[Str.cps_append,xjF]
 refine⟨fun c hc=>?_,?_,?_⟩
 ·rw[e] at hc
  exact(xk2.mp hc).elim (hx.asc c) (hy.asc c)
 ·have:=hx.len;have:=hy.len
  rw[Str.length_append];omega
 ·rw[e];exact hx.run.app hy.run
theorem Bt.slice (h:Bt L W x)(lo hi:Option Int):Bt L W (Txt.slice x lo hi):=by
 obtain⟨a,m,e⟩:=xdm x lo hi
 refine h.sub ?_
 rw[e]
 exact(List.take_prefix _ _).isInfix.trans (List.drop_suffix _ _).isInfix
theorem p8 (h:∀c∈x.cps.toList,c<128)(hl:x.length≤L)(hw:x.length≤W):Bt L W x:=⟨h,hl,qY (by rw[←str_len];exact hw)⟩
theorem xd7:∀c∈((" " : Str)).cps.toList,c<128:=by decide
theorem xgg:∀c∈((" ; " : Str)).cps.toList,c<128:=by decide
theorem ou (w1:1≤W)(hy:y=(" " : Str)∨y=(" ; " : Str))(h:∀q∈qs,(∀c∈q.cps.toList,c<128)∧vK W q.cps.toList)(ht:tot y.length qs≤L):Bt L W (glued y qs):=by
 refine⟨fun c hc=>?_,xly (pP y qs) ht,?_⟩
 ·rw[yQ] at hc
  rcases nI _ hc with z | ⟨q,hq,z⟩
  ·rcases hy with rfl | rfl
   ·exact xd7 c z
   ·exact xgg c z
  ·obtain⟨w,hw,rfl⟩:=xla.mp hq
   exact(h w hw).1 c z
 ·rw[yQ]
  refine td w1 ?_ _ fun q hq=>?_
  ·rcases hy with rfl | rfl
   ·exact .inl rfl
   ·exact .inr rfl
  ·obtain⟨w,hw,rfl⟩:=xla.mp hq
   exact(h w hw).2
theorem Bt.word (h:Bt L W x)(hw:w∈Txt.split x (" " : Str)):w.length≤W:=by
 rw[str_len]
 exact h.run _ (mG hw) (xez hw)
theorem Bt.part (h:Bt L W x)(hq:q∈Txt.split x y):Bt L W q:=h.sub (mG hq)
theorem xeG (h:∀r∈rows,Pol.uC r)(l8:rows.length≤8):Bt 168 5 (uF rows):=by
 have row:∀r∈rows,Bt 168 5 (uh r):=fun r hr=>by
  refine⟨fun c hc=>?_,by have:=rO (h r hr);omega,?_⟩
  ·unfold uh at hc
   rw[yQ] at hc
   rcases nI _ hc with z | ⟨q,hq,z⟩
   ·exact xd7 c z
   ·obtain⟨w,hw,rfl⟩:=xla.mp hq
    exact((kh (h r hr) w hw).2 c z).2.2
  ·unfold uh
   rw[yQ]
   refine td (by decide) (.inl rfl) _ fun q hq=>?_
   obtain⟨w,hw,rfl⟩:=xla.mp hq
   exact qY (by rw[←str_len];exact(kh (h r hr) w hw).1)
 have b:=ou (L:=tot ((" ; " : Str)).length (rows.map uh)) (W:=5) (by decide) (.inr rfl) (qs:=rows.map uh) (fun q hq=>by obtain⟨r,hr,rfl⟩:=xla.mp hq;exact⟨(row r hr).asc,(row r hr).run⟩) (xlw _)
 exact⟨b.asc,oJ h l8,b.run⟩
end L2
namespace L2
open PySem PySem.Spec PyProof.Rows
section
variable {X:Cx} {e:Expr} {te:TE}
end
end L2
namespace L2
open PySem PySem.Spec PyProof.Rows
abbrev two (elt t1 i1:Expr)(f1:List Expr)(t2 i2:Expr)(f2:List Expr)(sc:Scope)(pos:Pos):Expr:=.ListComp elt [⟨t1,i1,f1,0⟩,⟨t2,i2,f2,0⟩] sc pos
section
variable {prog:Program} {w:World} {A:Around} {R:Result→Shared→Prop} {s:Shared} {elt t1 i1 t2 i2:Expr} {f1 f2:List Expr} {sc:Scope} {pos:Pos} {it acc:Value} {env:Env}
end
abbrev lo (its:List Value)(n:Nat):Obj:={ cls:=.type "list", data:=.seq its.toArray n }
section
variable {X:Cx} {sc:Scope} {N:List Str} {tau tid:List (Option Nat)} {pins:List (Addr×Obj)} {σ:St} {H:Hp} {s:Shared}
end
end L2
namespace L2
open PySem PySem.Spec PyProof.Rows
section
variable {K:PySem.W.Frag} {B:FB} {φ:Phi} {σ:St} {τ:TSt} {H H' H'':Hp} {fr:Bool}
theorem xcR (z:si tau φ τ i=some a):Av B φ a:=by
 unfold si at z
 split at z
 ·split at z
  ·exact .inr ⟨_,z⟩
  ·cases z
 ·cases z
end
end L2
namespace L2
open PySem PySem.Spec PyProof.Rows
section
variable {X:Cx} {sc:Scope} {N:List Str} {tau:List (Option Nat)} {pins:List (Addr×Obj)} {σ:St} {H:Hp} {s:Shared}
end
section
variable {X:Cx} {sc:Scope} {N:List Str} {tau:List (Option Nat)} {pins:List (Addr×Obj)} {σ:St} {H:Hp} {s:Shared}
end
end L2
namespace L2
open PySem PySem.Spec PyProof.Rows
section
variable {K:PySem.W.Frag} {fr:Bool} {H:Hp}
end
end L2
namespace L2
open PySem PySem.Spec PyProof.Rows
section
variable {M:Model} {A:Around} {Ex:Value→Shared→Prop} {s:Shared}
theorem xaN (h:env.frame=env'.frame):noteFrame x env=noteFrame x env':=by
 unfold noteFrame PySem.frameOf
 rw[h]
def nU (base:Heap)(l:List Env)(e:Addr)(cls a0 fl:Value)(h:Heap):Prop :=
 base.StaysIn h∧base.get? e=none∧h.FunFrames base l∧h.TracedAtW base e cls a0 fl
theorem nA {h h' base base':Heap}(kb:∀b,base.get? b=none→base'.get? b=none):∀ {l:List Env},(∀b∈frs l,h'.get? b=h.get? b)→h.FunFrames base l→h'.FunFrames base' l
 | [],_,_=>trivial
 | env::l,k,⟨a,⟨L,o,e1,e2,e3,e4⟩,r⟩=>by
  rw[fi e1] at k
  exact⟨a,⟨L,o,e1,kb L e2,(k L xk7).trans e3,e4⟩,nA kb (fun b hb=>k b (xk6 _ hb)) r⟩
theorem dN (n:base.get? b=none):(PySem.W.hideAll base l).get? b=none:=by
 cases q:(PySem.W.hideAll base l).get? b with
 | none=>rfl
 | some o=>rw[PySem.W.of_hideAll _ q] at n;cases n
theorem nU.but {base:Heap}{l:List Env}{e C:Addr}{cls a0 fl:Value}{h h':Heap}{oC:Obj}(x:nU base l e cls a0 fl h)(hC:h.get? C=some oC)(hd:∀vs,oC.data≠.fields vs)(nC:C∉frs l)(sb:Heap.SameBut C h h') :
  nU (PySem.W.hideAll base [C]) l e cls a0 fl h':=by
 obtain⟨k1,k2,k3,oe,vs,T,oT,ts,he,hc,hde,h1,hnT,hTe,hT,hdT,h3⟩:=x
 have eC:e≠C:=fun q=>by subst q;rw[hC] at he;cases he;exact hd _ hde
 have TC:T≠C:=fun q=>by subst q;rw[hC] at hT;cases hT;exact hd _ hdT
 refine⟨fun b o hb=>?_,dN k2,nA (fun _=>dN) (fun b hb=>sb.2 b fun q=>nC (q▸hb)) k3,oe,vs,T,oT,ts,(sb.2 e eC).trans he,hc,hde,h1,dN hnT,hTe,(sb.2 T TC).trans hT,hdT,h3⟩
 have bC:b≠C:=fun q=>by
  subst q
  rw[PySem.W.hideAll_none [b] xk7] at hb;cases hb
 exact(sb.2 b bC).trans (k1 b o (PySem.W.of_hideAll _ hb))
theorem o8 (hh:nU base l e cls a0 fl s.heap)
  (hQ:∀fl' h',nU base l e cls a0 fl' h'→s.heap.UpToSlots h'→Ex (.ref e) { s with heap:=h' }):wpAny M A (PySem.passOn what (.ref e) cenv:Sem α) Q Ex s:=by
 obtain⟨hkb,hne,hl,oe,vs,T,oT,ts,he,hcls,hd,h1,hnT,hTe,hT,hdT,h3⟩:=hh
 have hsz3:3<ts.size:=(xjB.mp h3).1
 have noRecord:∀b o,s.heap.get? b=some o→(∀vs,o.data≠.fields vs)→b≠T:=fun b o hb hnf q=>by
  rw[q,hT] at hb;injection hb with hb;subst hb;exact hnf ts hdT
 unfold PySem.passOn setFlight
 refine wpAny_bind (wpAny_field he hd h1 ?_)
 rw[if_neg (show ¬((Value.ref T == Value.none)=true) from by simp)]
 refine wpAny_bind (wpAny_bind (wpAny_field he hd h1 ?_))
 rw[if_pos (show(Value.ref T != Value.none)=true from by simp)]
 refine wpAny_setField hT hdT hsz3 (wpAny_throw ?_)
 generalize cenv.frame.elim Value.none (fun f=>rawInt f)=v
 have other:∀b,b≠T→(s.heap.update T (Obj.mapFields (·.setIfInBounds 3 v))).get? b=s.heap.get? b:=fun b hb=>Heap.get?_update_other _ _ (Ne.symm hb)
 exact hQ v _ ⟨fun b o hbo=>(other b fun q=>by rw[q,hnT] at hbo;cases hbo).trans (hkb b o hbo),hne,hl.of_keeps fun b o hb hnf=>⟨o,(other b (noRecord b o hb hnf)).trans hb,rfl⟩,
  oe,vs,T,_,_,(other e (Ne.symm hTe)).trans he,hcls,hd,h1,hnT,hTe,Heap.get?_update_self _ hT (Obj.isFreed_of_fields (Obj.data_mapFields hdT _)),Obj.data_mapFields hdT _,by simp[hsz3]⟩
  fun b o hb hnf=>⟨o.slots,(other b (noRecord b o hb hnf)).trans hb⟩
theorem xaW (hfr:A.frames=some (env::outer))(hf:env.frame=some L)(hh:nU base (env::outer) e cls a0 fl s.heap)
  (hQ:∀h',Heap.FlyingW base outer e cls a0 h'→s.heap.UpToSlots h'→Q () { s with heap:=h' }):wpAny M A (leaving env (.ref e)) Q Ex s:=by
 obtain⟨hkb,hne,hl,ht⟩:=hh
 unfold leaving
 refine wpAny_bind ?_
 have go:∀h',base.StaysIn h'→h'.FunFrames base (env::outer)→(∃fl,h'.TracedAtW base e cls a0 fl)→s.heap.UpToSlots h'→wpAny M A (setFlight (.ref e) none) Q Ex { s with heap:=h' }:=fun h' k1 k2 ⟨fl',k3⟩ up =>
  wpAny_setFlight_noneW (s:={ s with heap:=h' }) k1 k2 k3 fun h2 a1 a2 a3 a4=>hQ h2 ⟨a1,hne,a2.2.2,a3⟩ (up.trans fun b o hb hn=>⟨o.slots,a4 b o hb hn⟩)
 obtain⟨oe,vs,T,oT,ts,he,hcls,hd,h1,hnT,hTe,hT,hdT,h3⟩:=id ht
 unfold noteFrame
 simp only[hf]
 refine wpAny_bind (wpAny_field he hd h1 ?_)
 rw[if_pos (show(Value.ref T != Value.none)=true from by simp)]
 refine wpAny_bind (wpAny_field hT hdT h3 ?_)
 by_cases c:(fl == rawInt L)=true
 ·rw[if_pos c]
  exact wpAny_pure (go s.heap hkb hl ⟨fl,ht⟩ (.refl _))
 ·rw[if_neg c]
  obtain⟨hc1,h0⟩:=hcls
  subst hc1
  refine wpAny_bind (wpAny_setField hT hdT (xjB.mp h3).1 ?_)
  have other:∀b,b≠T→(s.heap.update T (Obj.mapFields (·.setIfInBounds 3 Value.none))).get? b=s.heap.get? b:=fun b hb=>Heap.get?_update_other _ _ (Ne.symm hb)
  have noRecord:∀b o,s.heap.get? b=some o→(∀vs,o.data≠.fields vs)→b≠T:=fun b o hb hnf q=>by
   rw[q,hT] at hb;injection hb with hb;subst hb;exact hnf ts hdT
  refine wpAny_entryW hfr (hl.of_keeps fun b o hb hnf=>⟨o,(other b (noRecord b o hb hnf)).trans hb,rfl⟩) hf ((other e (Ne.symm hTe)).trans he)
   (fun b o hbo=>(other b fun q=>by rw[q,hnT] at hbo;cases hbo).trans (hkb b o hbo)) hne hd (xjB.mp h1).1 h0
   fun h' ⟨x1,x2,x3,x4⟩=>go h' x1 x2 ⟨_,x3⟩ fun b o hb hnf=>x4 b o ((other b (noRecord b o hb hnf)).trans hb) hnf
end
def ju (Y:Cx)(E:XK):Cx:={ Y with xe:=fun e s'=>∃pins σ H s,Inv Y pins σ H s∧CXE Y.prog Y.w Y.stack H s E e s' }
theorem Inv.run (I:Inv Y pins σ H s):Inv (ju Y E) pins σ H s :=
 have k:=I.ok
 ⟨⟨k.mod,k.kind,k.glob,k.blt,k.above,k.inj,k.has,k.cab,k.hd,k.frames,k.stk,k.exf,k.bs,k.bsz,k.noex,k.exfs,k.funs,k.frf⟩,I.os,I.bare,I.base,I.loc,I.cell,I.free,I.freeC,I.pin,I.hok,I.len⟩
theorem Inv.unrun (I:Inv (ju Y E) pins σ H s):Inv Y pins σ H s :=
 have k:=I.ok
 ⟨⟨k.mod,k.kind,k.glob,k.blt,k.above,k.inj,k.has,k.cab,k.hd,k.frames,k.stk,k.exf,k.bs,k.bsz,k.noex,k.exfs,k.funs,k.frf⟩,I.os,I.bare,I.base,I.loc,I.cell,I.free,I.freeC,I.pin,I.hok,I.len⟩
theorem p6:gC (CXE Y.prog Y.w) (ju Y E) E:=fun pins σ H s e s' I h=>⟨pins,σ,H,s,I.unrun,h⟩
structure xdg (X:Cx)(EX:XK):Prop where
 hst:X.stack=X.env::X.outer
 hfr:X.env.frame=some X.env.locals
 hex:X.ex=[]
 hxe:∀e s',wpAny (model X.prog X.w) X.A (leaving X.env e) (fun _ s''=>CXE X.prog X.w X.outer X.H₀ X.s₀ EX e s'') (fun e' s''=>CXE X.prog X.w X.outer X.H₀ X.s₀ EX e' s'') s'→X.xe e s'
theorem xaR {K:PySem.W.Frag}:xdg (gU (CXE P w) P w K mg base N qual scope f cd A outer s H E) E:=⟨rfl,rfl,rfl,fun _ _ h=>h⟩
section
variable {X:Cx} {EX:XK} {sc:Scope} {N:List Str} {tau:List (Option Nat)} {pins:List (Addr×Obj)} {σ:St} {H:Hp} {s:Shared}
theorem c9 {tg:Expr}{it:Addr}{fp:List Addr}{tn:Nat→Heap→Prop}{J:It}{use:Option (Value→Sem Unit)}{Q:Value→Shared→Prop}{e:Value}{s':Shared}(PX:xdg X EX)(k:uU X sc N tau)(I:Inv X pins σ H s)(T:Turn X.prog X.w X.K tg J fp it tn)(hf:∀b∈fp,cL X pins H b)(st0:tn 0 s.heap)
  (x:(ju (x9 X sc N (s.heap.objs.size+1) s H fp) EX).xe e s') :
  notedBy (model X.prog X.w) X.A (compEnvC sc (gW X.env sc.names []) (s.heap.objs.size+1) X.env) (fun e s''=>compPost (model X.prog X.w) X.A X.xe use Q (.ref s.heap.objs.size) (s.heap.objs.size+1) (.error e) s'') e s':=by
 obtain⟨pins1,σ1,H1,s1,J1,ea,C,H2,rfl,⟨os,bare,un,hok,B,t,fl,kB,tB,trB⟩,q⟩:=x
 have hx:∀b,b∉X.ex:=fun b z=>by rw[PX.hex] at z;exact absurd z (by simp)
 have old:∀b o,X.s₀.heap.get? b=some o→b≠s.heap.objs.size+1:=fun b o e=>xlH (xlC (xlB (Heap.lt_size e) I.sz))
 have nfp:∀b o,X.s₀.heap.get? b=some o→b∉fp:=fun b o e z=>by
  obtain⟨_,_,_,f3,_,_⟩:=hf b z
  rcases f3 with f3 | f3
  ·exact hx b f3
  ·exact absurd (Heap.lt_size e) (Nat.not_lt.mpr f3)
 have ne:∀b o,X.s₀.heap.get? b=some o→b∉frs X.outer→b∉frs X.stack:=fun b o e nb z=>by
  rcases xk5.mp (I.stkSub b z) with z | z
  ·exact I.old e z
  ·exact nb z
 have inS:∀b,b∈frs X.outer→b∈frs X.stack:=fun b hb=>by rw[PX.hst,fi PX.hfr];exact xk6 _ hb
 have nC:s.heap.objs.size+1∉frs X.stack:=fun z=>by
  rcases xk5.mp (I.stkSub _ z) with z | z
  ·have l:=I.lt
   rw[←z] at l
   exact absurd l (Nat.not_lt.mpr (xlx _))
  ·obtain⟨_,o,ho,_⟩:=I.ok.funs.mem z
   exact old _ o ho rfl
 have fr:X.A.frames=some (X.env::X.outer):=by rw[←PX.hst];exact I.ok.frames
 obtain⟨m,hn,_⟩:=J1.loc
 have hn:s1.heap.Ns (s.heap.objs.size+1) m:=hn
 have nH1:H1 (s.heap.objs.size+1)=none:=J1.free
 have hn':s'.heap.Ns (s.heap.objs.size+1) m:=hn.at fun o ho=>un.keep _ o ho nH1 nC (by simp)
 have nH2:H2 (s.heap.objs.size+1)=none:=by
  obtain⟨o,_,_,ho,_⟩:=id hn
  exact un.free _ o ho nH1 (by simp)
 have fl:Heap.FlyingW B X.stack ea (.ref C) (.ref t) s'.heap:=fl
 rw[PX.hst] at fl
 have JB:Un (frs X.stack) fp H H1 s.heap s1.heap:=J1.base
 have Ik:∀b o,X.s₀.heap.get? b=some o→X.H₀ b=none→b∉frs X.outer→(PySem.W.hideAll B [s.heap.objs.size+1]).get? b=some o:=fun b o e n nb=>by
  have e1:=I.base.keep b o e n nb (hx b)
  have n1:=I.base.free b o e n (hx b)
  have e2:=JB.keep b o e1 n1 (ne b o e nb) (nfp b o e)
  have n2:=JB.free b o e1 n1 (nfp b o e)
  exact PySem.W.hideAll_get _ (kB b o e2 n2 (ne b o e nb)) (by simpa using old b o e)
 have It:∀b o,X.s₀.heap.get? b=some o→b∉frs X.outer→∃o',(PySem.W.hideAll B [s.heap.objs.size+1]).get? b=some o':=fun b o e nb=>by
  obtain⟨o1,e1⟩:=I.base.there b o e (hx b)
  obtain⟨o2,e2⟩:=JB.there b o1 e1 (nfp b o e)
  obtain⟨o3,e3⟩:=tB b o2 e2 (ne b o e nb)
  exact⟨o3,PySem.W.hideAll_get _ e3 (by simpa using old b o e)⟩
 have tr':∀b u,H2 b=some u→∃o,(PySem.W.hideAll B [s.heap.objs.size+1]).get? b=some o:=fun b u e=>by
  obtain⟨o,e1⟩:=trB b u e
  refine⟨o,PySem.W.hideAll_get _ e1 fun z=>?_⟩
  rw[xlg.mp z,nH2] at e;cases e
 show wpAny _ X.A (noteFrame (.ref ea) _) _ _ s'
 rw[xaN (env:=compEnvC sc (gW X.env sc.names []) (s.heap.objs.size+1) X.env) (env':=X.env) rfl]
 refine wpAny_looks_onW (L:=X.env.locals) fr PX.hfr fl fun h4 held4 up4=>?_
 have hn4:=up4.ns hn'
 refine⟨m,hn4,fun h' sb cenv _=>?_⟩
 obtain⟨oC,_,_,hoC,hdC,_⟩:=id hn4
 have hA:nU (PySem.W.hideAll B [s.heap.objs.size+1]) (X.env::X.outer) ea (.ref C) (.ref t) (rawInt X.env.locals) h':=nU.but held4 hoC (fun vs z=>by rw[hdC] at z;cases z) (by rw[←PX.hst];exact nC) sb
 refine o8 (s:={ s' with heap:=h' }) hA fun fl' h5 hA5 up5=>?_
 refine PX.hxe _ _ (xaW (s:={ s' with heap:=h5 }) fr PX.hfr hA5 fun h6 fl6 up6=>?_)
 have up:∀b o,s'.heap.get? b=some o→(∀vs,o.data≠.fields vs)→b≠s.heap.objs.size+1→∃sl,h6.get? b=some { o with slots:=sl }:=fun b o e nf nb=>by
  obtain⟨sl1,e1⟩:=up4 b o e nf
  have e2:h'.get? b=some { o with slots:=sl1 }:=(sb.2 b nb).trans e1
  obtain⟨sl3,e3⟩:=(Heap.UpToSlots.trans up5 up6) b _ e2 nf
  exact⟨sl3,e3⟩
 have sl:∀b o,X.s₀.heap.get? b=some o→X.H₀ b=none→b∈frs X.outer→∃sl,h6.get? b=some { o with slots:=sl }:=fun b o e n hb=>by
  obtain⟨sl,e1⟩:=I.base.slot b o e n hb (hx b)
  have n1:=I.base.free b o e n (hx b)
  obtain⟨sl2,e2⟩:=JB.slot b _ e1 n1 (inS b hb) (nfp b o e)
  obtain⟨sl3,e3⟩:=un.slot b _ e2 (JB.free b _ e1 n1 (nfp b o e)) (inS b hb) (by simp)
  obtain⟨_,o',ho',hnf⟩:=I.ok.funs.mem hb
  rw[e] at ho';cases ho'
  obtain⟨sl4,e4⟩:=up b _ e3 hnf (old b o e)
  exact⟨sl4,e4⟩
 refine⟨ea,C,H2,rfl,⟨os.trans (J1.os.trans I.os),bare,⟨fun b o e n nb _=>fl6.1 b o (Ik b o e n nb),fun b o e n hb _=>sl b o e n hb,fun b o e n _=>?_,fun b o e _=>?_,fun b xs e=>un.tups b xs (JB.tups b xs (I.base.tups b xs e)),fun b o u e=>un.frzs b o u (JB.frzs b o u (I.base.frzs b o u e)),fun b ps e=>?_⟩,hok.of_fly (fun b o e=>fl.1 b o (PySem.W.of_hideAll _ e)) fl6.1 tr',_,t,fl6,Ik,It,tr'⟩,q⟩
 ·obtain⟨o1,e1⟩:=I.base.there b o e (hx b)
  obtain⟨o2,e2⟩:=JB.there b o1 e1 (nfp b o e)
  exact un.free b o2 e2 (JB.free b o1 e1 (I.base.free b o e n (hx b)) (nfp b o e)) (by simp)
 ·by_cases nb:b∈frs X.outer
  ·obtain⟨sl,e1⟩:=sl b o e (I.ok.frf b nb) nb
   exact⟨_,e1⟩
  ·obtain⟨o',e1⟩:=It b o e nb
   exact⟨o',fl6.1 b o' e1⟩
 ·obtain⟨m1,e1⟩:=I.base.tbls b ps e
  obtain⟨m2,e2⟩:=JB.tbls b _ e1
  obtain⟨m3,e3⟩:=un.tbls b _ e2
  exact⟨m1++m2++m3,by rw[e3];simp only[Array.append_assoc]⟩
theorem fH {elt tg iter:Expr}{ifs:List Expr}{g:TG}{tc:TT}{te:TE}{pos:Pos}(k:uU X sc N tau)(hc:X.calm=true)(I:Inv X pins σ H s){it:Addr}{fp:List Addr}{tn:Nat→Heap→Prop}{J:It}
  (T:Turn X.prog X.w X.K tg J fp it tn) (st0:tn 0 s.heap) (hf:∀b∈fp,cL X pins H b) (hga:GA tau g)
  (hg:∀C s H ex,PG (ju (x9 X sc N C s H ex) EX) tg g) (ht:∀C s H ex,PIf (ju (x9 X sc N C s H ex) EX) ifs tc) (he:∀C s H ex,PE (ju (x9 X sc N C s H ex) EX) elt te)
  {W:Nat→Nat→List V→Hp→Prop} {Z:List V→Hp→Prop} (w0:∃m,W 0 m [] H) (turn:∀i m ys H,W i m ys H →
   (J.stop i H∧Z ys H) ∨
   (J.go i H∧ys.length<sizeLine∧∀x H',J.yld i H x H'→g x (g_ tau σ) H' fun σ2 H2=>tc σ2 H2 fun b H3=>if b=true then te σ2 H3 fun y H4=>∃m',m' < m∧W (i+1) m' (ys++[y]) H4 else ∃m',m' < m∧W (i+1) m' ys H3))
  {E:Value→Shared→Prop} {RR:Value→Addr→Result→Shared→Prop}
  (bad:∀e s',(ju (x9 X sc N (s.heap.objs.size+1) s H fp) EX).xe e s'→notedBy (model X.prog X.w) X.A (compEnvC sc (gW X.env sc.names []) (s.heap.objs.size+1) X.env) (fun e s''=>RR (.ref s.heap.objs.size) (s.heap.objs.size+1) (.error e) s'') e s')
  (fin:∀ σ' H' s' ys its n,Inv (x9 X sc N (s.heap.objs.size+1) s H fp) [(s.heap.objs.size,{ cls:=.type "list", data:=.seq its.toArray n })] σ' H' s'→zf ys its→ys.length≤sizeLine→Z ys H'→RR (.ref s.heap.objs.size) (s.heap.objs.size+1) (.ok .next) s') :
  wpAny (model X.prog X.w) X.A (newList []) (fun acc s₃=>wpAny (model X.prog X.w) X.A (newFunctionEnv sc X.env.globals (gW X.env sc.names []) [] X.env.qual none .none (some X.env)) (fun cenv s₄ =>
   codeAny (model X.prog X.w) X.A (.compStart (.ListComp elt [⟨tg,iter,ifs,0⟩] sc pos) 0 (.ref it) acc { cenv with scope:=relabel sc X.env }) (RR acc cenv.locals) s₄) E s₃) E s:=by
 have hob:∀b∈fp,∃o,s.heap.get? b=some o:=fun b hb=>let ⟨o,e,_⟩:=T.obj _ _ st0 b hb;⟨o,e⟩
 refine wpAny_newObj_type (wpAny_newFunctionEnv k.nocell (by intro y hy;simp at hy) (fun h₁ hns₁ hsb₁=>?_) k.kind)
 dsimp only at hns₁ hsb₁ ⊢
 generalize hH2:s.heap.push { cls:=.type "list", dict:=none,data:=.seq ([]:List Value).toArray }=H2 at hns₁ hsb₁ ⊢
 have hC:H2.objs.size=s.heap.objs.size+1:=by rw[←hH2,Heap.size_push]
 have old:∀b o,s.heap.get? b=some o→h₁.get? b=some o:=fun b o e=>hsb₁.extBut b o (by rw[hC];exact xlH (xlC (Heap.lt_size e))) (Heap.get?_push_of_some _ (hH2▸Heap.get?_push_of_some _ e))
 have hacc:h₁.get? s.heap.objs.size=some { cls:=.type "list", data:=.seq #[] 0 }:=hsb₁.extBut _ _ (by rw[hC];exact xlH (xlD _)) (Heap.get?_push_of_some _ (hH2▸Heap.get?_push_size _ rfl))
 rw[hC] at hns₁ ⊢
 have I1:Inv (x9 X sc N (s.heap.objs.size+1) s H fp) [(s.heap.objs.size,{ cls:=.type "list", data:=.seq #[] 0 })] (g_ tau σ) H { s with heap:=h₁,toks:=s.toks+([]:List (Str×Value)).length } :=
  pU k I hf hob old hns₁ hacc
 have st1:tn 0 h₁:=T.keep _ _ _ st0 fun b _ o e=>old b o e
 have ltD:∀b∈fp,b≠s.heap.objs.size:=fun b hb=>by
  obtain⟨o,e⟩:=hob b hb
  exact xlH (Heap.lt_size e)
 have ltC:∀b∈fp,b≠s.heap.objs.size+1:=fun b hb=>by
  obtain⟨o,e⟩:=hob b hb
  exact xlH (xlC (Heap.lt_size e))
 have stat:∀ {H':Hp} {its:List Value} {n:Nat},(∀b∈fp,H' b=none)→∀b∈fp,cL (x9 X sc N (s.heap.objs.size+1) s H fp) [(s.heap.objs.size,{ cls:=.type "list", data:=.seq its.toArray n })] H' b:=fun {H' its n} hn b hb=>by
  have cx:=cE (N:=N) k I hf hob
  refine⟨hn b hb,ltC b hb,cx.exfs b hb,.inl hb,(cx.exf b hb).2,fun p hp=>?_⟩
  have e:p=(s.heap.objs.size,{ cls:=.type "list", data:=.seq its.toArray n }):=by simpa [x9] using hp
  subst e
  exact Ne.symm (ltD b hb)
 obtain⟨m0,w0⟩:=w0
 have loop:codeAny (model X.prog X.w) X.A (.compLoop (.ListComp elt [⟨tg,iter,ifs,0⟩] sc pos) 0 (.ref it) (.ref s.heap.objs.size) (compEnvC sc (gW X.env sc.names []) (s.heap.objs.size+1) X.env)) (RR (.ref s.heap.objs.size) (s.heap.objs.size+1)) { s with heap:=h₁,toks:=s.toks+([]:List (Str×Value)).length }:=by
  refine gF (fun m s'=>∃i ys H' its n,Inv (x9 X sc N (s.heap.objs.size+1) s H fp) [(s.heap.objs.size,{ cls:=.type "list", data:=.seq its.toArray n })] (g_ tau σ) H' s'∧zf ys its∧ys.length≤sizeLine∧tn i s'.heap∧(∀b∈fp,H' b=none)∧W i m ys H') ?_ m0
   ⟨0,[],H,[],0,I1,.nil,xlJ _,st1,fun b hb=>(hf b hb).1,w0⟩
  rintro m s3 ⟨i,ys,H3,its,n,I3,rv,hz,st3,fr3,w3⟩
  rcases turn i m ys H3 w3 with ⟨stop,z⟩ | ⟨go,hlt,step⟩
  ·refine wpAny_mono (T.done (x9 X sc N (s.heap.objs.size+1) s H fp) rfl rfl rfl hc i _ s3 _ H3 (fun _ _=>False) I3 (stat fr3) st3 stop) (fun r s4 ⟨hr,I4⟩=>?_) fun _ _ f=>f.elim
   subst hr
   exact fin _ _ _ _ _ _ I4 rv hz z
  ·refine wpAny_mono (T.item (x9 X sc N (s.heap.objs.size+1) s H fp) rfl rfl rfl hc i _ s3 _ H3 (fun _ _=>False) I3 (stat fr3) st3 go) (fun r s4 ⟨u,hr,h4⟩=>?_) fun _ _ f=>f.elim
   subst hr
   refine wpAny_mono h4 (fun _ s5 ⟨x,H5,I5,r5,y5,st5,fr5⟩=>?_) fun _ _ f=>f.elim
   have I5':=I5.pinned (stat fr5) (T.obj _ _ st5)
   refine wpAny_mono (hg _ _ _ _ _ s5 _ H5 x u _ I5'.run r5 (hga _ _ _ _ (step x H5 y5))) (fun _ s6 ⟨σ6,H6,I6,q6,ag⟩=>?_) bad
   refine wpAny_mono (ht _ _ _ _ _ s6 σ6 H6 _ I6 q6) (fun b s7 ⟨H7,I7,q7⟩=>?_) bad
   have back:∀ {H8:Hp} {s8:Shared},Inv (x9 X sc N (s.heap.objs.size+1) s H fp) ([(s.heap.objs.size,{ cls:=.type "list", data:=.seq its.toArray n })]++sN fp s5.heap) σ6 H8 s8 →
     Inv (x9 X sc N (s.heap.objs.size+1) s H fp) [(s.heap.objs.size,{ cls:=.type "list", data:=.seq its.toArray n })] (g_ tau σ) H8 s8∧tn (i+1) s8.heap∧∀b∈fp,H8 b=none:=fun {H8 s8} I8=>by
    refine⟨I8.unpinned.weak (I1.len.trans I8.len.symm) fun j v e=>?_,T.keep _ _ _ st5 fun b hb o e=>(I8.pin (b,o) (xk4 _ (xk4 _ (ux hb e)))).1,fun b hb=>?_⟩
    ·obtain⟨j',t1,_⟩:=rG e
     rw[ag j j' t1];exact e
    ·obtain⟨o,e,d⟩:=T.obj _ _ st5 b hb
     exact(I8.pin (b,o) (xk4 _ (xk4 _ (ux hb e)))).2.1
   cases b with
   | false =>
    obtain⟨m',hm,w7⟩:=q7
    obtain⟨I8,st8,fr8⟩:=back I7.unrun
    rw[if_neg xjJ]
    exact⟨m',hm,i+1,ys,H7,its,n,I8,rv,hz,st8,fr8,w7⟩
   | true =>
    rw[if_pos rfl]
    refine wpAny_mono (he _ _ _ _ s7 σ6 H7 _ I7 q7) (fun y s8 ⟨yv,H8,I8,r8,m',hm,w8⟩=>?_) bad
    obtain⟨I9,st9,fr9⟩:=back I8.unrun
    obtain⟨pD,nD,dL,dF,dC⟩:=I9.pin (s.heap.objs.size,{ cls:=.type "list", data:=.seq its.toArray n }) (by simp[x9])
    refine call_meets F.slot_list_append ⟨_,pD,rfl⟩ F.entry_list_append (F.args_list_append_2 _ _) (PySem.list_append s.heap.objs.size its.toArray n y (by rw[xln,←rv.length];exact hz)) ⟨pD,?_⟩
    have q:=PySem.IsL.update pD (fun x=>x.push y)
    obtain⟨n',q'⟩:∃n',(s8.heap.update s.heap.objs.size (Obj.mapSeq fun x=>x.push y)).get? s.heap.objs.size=some { cls:=.type "list", data:=.seq (its++[y]).toArray n' }:=⟨_,by
     rw[show(its++[y]).toArray=its.toArray.push y by simp];exact q⟩
    have kp:∀b o,b≠s.heap.objs.size→s8.heap.get? b=some o→(s8.heap.update s.heap.objs.size (Obj.mapSeq fun x=>x.push y)).get? b=some o:=fun b o hb e=>(Heap.get?_update_other s8.heap _ (Ne.symm hb)).trans e
    have I10:Inv (x9 X sc N (s.heap.objs.size+1) s H fp) [] (g_ tau σ) H8 s8:=I9.pins_of fun p hp=>absurd hp (by simp)
    have I11:Inv (x9 X sc N (s.heap.objs.size+1) s H fp) [] (g_ tau σ) H8 { s8 with heap:=s8.heap.update s.heap.objs.size (Obj.mapSeq fun x=>x.push y),toks:=s8.toks } :=
     I10.turned (it:=s.heap.objs.size) (t':=s8.toks) kp nD dL (.inr (xlw _)) (fun x c e z=>by
      obtain⟨v,o,ho,hd⟩:=I10.cell x c e
      rw[z,pD] at ho
      cases ho
      cases hd) (fun p hp=>absurd hp (by simp[x9]))
    refine⟨m',hm,i+1,ys++[yv],H8,its++[y],n',I11.pins_of fun p hp=>?_,rv.append (.cons r8 .nil),?_,T.keep _ _ _ st9 fun b hb o e=>kp b o (ltD b hb) e,fr9,w8⟩
    ·have e:p=(s.heap.objs.size,{ cls:=.type "list", data:=.seq (its++[y]).toArray n' }):=by simpa using hp
     subst e
     exact⟨q',nD,dL,dF,fun v=>by simp⟩
    ·rw[xkL,xkS];exact hlt
 exact codeAny_compStart_list loop (T.self _ 0 _ _ _ st1 loop)
theorem xct (k:uU X sc N tau)(hc:X.calm=true)(hga:GA tau g)(hi:PI X tg iter wi)
  (hg:∀C s H ex,PG (ju (x9 X sc N C s H ex) EX) tg g) (ht:∀C s H ex,PIf (ju (x9 X sc N C s H ex) EX) ifs tc) (he:∀C s H ex,PE (ju (x9 X sc N C s H ex) EX) elt te)
  (PX:xdg X EX)
  (hs:∀x,foldedSetIterable iter X.env x=pure x:=by intro _;rfl):PE X (.ListComp elt [⟨tg,iter,ifs,0⟩] sc pos) (oY wi tau g tc te):=by
 intro pins s σ H Q I h
 rw[eval_ListComp]
 refine wpAny_comprehension_free (use:=none) rfl hs (rZ (k.cells I.ok)) k.kind k.loc ?_
 refine thn (@hi pins s σ H _ I h) fun v s1 h1=>thn h1 fun itv s2 h2=>?_
 obtain⟨it,fp,tn,J,H2,e,I2,T,st2,f2,W,w0,turn⟩:=h2
 subst e
 refine fH (EX:=EX) (RR:=fun acc C=>compPost (model X.prog X.w) X.A X.xe none (EP X pins σ Q) acc C) (W:=W) (Z:=fun ys H'=>∀p,H' p=none→Q (.ref p) (upd H' p (.lst ys))) k hc I2 T st2 f2 hga hg ht he w0 turn (fun e s' x=>c9 PX k I2 T f2 st2 x) ?_
 intro σ' H' s' ys its n J' rv hz z
 obtain⟨I',hD,hC⟩:=fe k I2 f2 J' rv hz
 obtain⟨m,hn,_⟩:=J'.loc
 exact⟨m,hn,fun h' hs'=>⟨.ref _,_,jI I2 I' hC hs',rfl,z _ hD⟩⟩
theorem cO (hN:X.N.Nodup)(hi':X.N[i]? = some x)(hx:Loc X.env.scope x)(k:uU X sc N tau)(hc:X.calm=true)(hga:GA tau g)(hi:PI X tg iter wi)
  (hg:∀C s H ex,PG (ju (x9 X sc N C s H ex) EX) tg g) (ht:∀C s H ex,PIf (ju (x9 X sc N C s H ex) EX) ifs tc) (he:∀C s H ex,PE (ju (x9 X sc N C s H ex) EX) elt te)
  (PX:xdg X EX)
  (hsw:swapsWith (.ListComp elt [⟨tg,iter,ifs,0⟩] sc pos) (some (.Name x py)) spos.line X.env=pure true:=by rfl)
  (hs:∀x,foldedSetIterable iter X.env x=pure x:=by intro _;rfl) (hf:X.fn x=true∨X.env.scope.names.lookup x=some .local:=by first | exact .inl rfl | exact .inr rfl | assumption) :
  PS X (.Assign [.Name x py] (.ListComp elt [⟨tg,iter,ifs,0⟩] sc pos) spos) (xcj (oY wi tau g tc te) (gN i)):=by
 intro pins s σ H D I h
 rw[exec_Assign_Name_used _ _ _ _ hsw]
 refine wpAny_bind (wpAny_standAt (wpAny_bind ?_))
 show wpAny _ X.A (do let _ ←comprehension (.ListComp elt [⟨tg,iter,ifs,0⟩] sc pos) sc X.env _ (newList []) false (eval iter X.env) (some (assign (.Name x py) X.env))) _ _ s
 refine wpAny_bind (wpAny_mono (wpAny_comprehension_free (use:=some (assign (.Name x py) X.env)) (Q:=fun _ s'=>SP X pins D .next s') rfl hs (rZ (k.cells I.ok)) k.kind k.loc ?_) (fun _ s' q=>wpAny_pure (wpAny_pure q)) fun _ _ e=>e)
 refine thn (@hi pins s σ H _ I h) fun v s1 h1=>thn h1 fun itv s2 h2=>?_
 obtain⟨it,fp,tn,J,H2,e,I2,T,st2,f2,W,w0,turn⟩:=h2
 subst e
 refine fH (EX:=EX) (RR:=fun acc C=>compPost (model X.prog X.w) X.A X.xe (some (assign (.Name x py) X.env)) (fun _ s'=>SP X pins D .next s') acc C) (W:=W) (Z:=fun ys H'=>∀p,H' p=none→D.nx (σ.set i (some (.ref p))) (upd H' p (.lst ys))) k hc I2 T st2 f2 hga hg ht he w0 turn (fun e s' x=>c9 PX k I2 T f2 st2 x) ?_
 intro σ' H' s' ys its n J' rv hz z
 obtain⟨I',hD,hC⟩:=fe k I2 f2 J' rv hz
 obtain⟨m,hn,_⟩:=J'.loc
 have hn:s'.heap.Ns (s2.heap.objs.size+1) m:=hn
 refine wpAny_assign_Name (fP (v:=.ref s2.heap.objs.size) I' hN hi' hx rfl (fun s'' I'' ⟨a,sb,ha⟩=>?_) hf)
 refine⟨m,hn.sameBut sb ?_,fun h' hs'=>⟨_,_,jI I2 I'' hC hs',z _ hD⟩⟩
 rcases ha with ha | ha
 ·rw[ha];exact xlG (xlC I2.lt)
 ·obtain⟨v,o,ho,_⟩:=I2.cell x a ha
  exact xlG (xlC (Heap.lt_size ho))
end
def xe3 (sp sx:Sp)(E:XK)(t:TA):TE:=fun σ H Q=>t σ H fun vs H1=>sp vs H1 Q E0∨sx vs H1 Q E
theorem xcc (h:Own X.prog X.w X.K X.mg X.base j x ps sp)(h2:oH X.prog X.w X.K X.mg X.base l x qs sx)(hr:kL k X.A)(hx:gC (CXE X.prog X.w) X E)(ha:PA X (e::es) t)(hjk:j≤k:=by decide)(hlk:l≤k:=by decide)(hg:Gl X x:=by rfl)
  (hdb:(x == ("__debug__" : Str))=false:=by decide) (he:starEach (e::es) X.env=(false,eval e X.env)::starEach es X.env:=by rfl) (hpl:(backTo pos (starEach es X.env)).any (·.1)=false:=by rfl) :
  PE X (.Call (.Name x p) (e::es) [] pos) (xe3 sp sx E t):=by
 obtain⟨f,fd,F,b,kp,m⟩:=(h.mono hjk).ex
 obtain⟨f2,fd2,F2,b2,kp2,m2⟩:=(h2.mono hlk).ex
 have:f2=f:=by rw[m] at m2;cases m2;rfl
 subst this
 intro pins s σ H Q I q
 refine wpAny_Call_Name_kw (hZ I hg m ?_ hdb)
 refine PySem.W.callWith_K (h₀:=X.base) I.ok.mod.kin kp (thn (@ha pos pins s σ H _ I q) fun us s1 ⟨vs,H1,I1,r,q⟩=>⟨I1.kIn,?_⟩) he hpl
 rcases q with q | q
 ·exact xa8 F hr b .nil xgt I1 r (by rw[xkn];exact q)
 ·exact xa8 F2 hr b2 .nil hx I1 r (by rw[xkn];exact q)
end L2
namespace L2
open PySem PySem.Spec PyProof.Rows
section
variable {K:PySem.W.Frag} {B:FB} {φ:Phi} {σ:St} {τ:TSt} {H H' H'':Hp}
theorem oV (ha:OkA K b n ta da):OkE K b (xe3 (spT n false fr sp) sx E ta) (xbj sp da):=fun B φ σ τ H Q KK R hd q =>
 ha B φ σ τ H _ _ R hd fun ts vs H1 x1 k1 l1 r1=>.inl ⟨AvB b B φ τ,SA B φ τ,ts,KK,vs,rfl,fun a z=>(R.hx x1).domB z,fun a z=>R.sB z,x1.st,r1,l1,k1,fun t v H' k e s r _=>q t v H' (x1.trans ⟨e,s⟩) k r⟩
theorem pW (hE:∀H',pE B H'→E (.ref C) none H')(ha:OkA K b n ta da):RXE K B (xe3 sp (spX n C R) E ta) (fun τ=>da τ R):=fun φ σ τ H Q R' hd =>
 ha B φ σ τ H _ _ R' hd fun ts vs H1 x1 k1 l1 r1=>.inr ⟨AvB b B φ τ,SA B φ τ,ts,vs,rfl,fun a z=>(R'.hx x1).domB z,fun a z=>R'.sB z,x1.st,r1,l1,k1,fun H2 k st=>hE _ (pE.on (R'.hx x1) k st)⟩
theorem xis (h:RXA K B ta D):RXE K B (tCB r ta) D:=fun φ σ τ H Q R hd=>h φ σ τ H _ R hd
def xhA (dg:DG)(de:DE)(dx:TSt→Prop)(τi:TSt):List Tr→Prop
 | []=>False
 | x::xs=>dg x τi dx∨dg x τi fun τ2=>de τ2 fun _=>xhA dg de dx τi xs
theorem xbm {b:Bool}{wi:TI}{tau:List (Option Nat)}{g:TG}{te:TE}{di:DI}{dg:DG}{de:DE}{dx:TSt→Prop}{E:XK}{C:Addr}(hE:∀H',pE B H'→E (.ref C) none H')(hi:xhn K wi di)(hg:OkN K g dg)(he:OkE K b te de)
  (hx:∀B',(∀H',pE B' H'→E (.ref C) none H')→RXE K B' te dx):RXE K B (oY wi tau g xap te) (fun τ=>di τ fun xs=>xs.length<sizeLine∧xhA dg de dx (j6 tau τ) xs):=fun φ σ τ H Q R hd =>
 hi B φ σ τ H _ _ R hd fun J ts Src H1 x1 k1 it s1=>by
  refine⟨fun i m ys H'=>m=ts.length-i∧i≤ts.length∧ys.length≤i∧HX B φ τ H H'∧Src H'∧xhA dg de dx (j6 tau τ) (ts.drop i),⟨_,rfl,xlJ _,xlJ _,x1,s1,k1.2⟩,?_⟩
  rintro i m ys H' ⟨rfl,hle,hys,x,s,f⟩
  have R':=R.hx x
  by_cases hlt:i<ts.length
  ·refine .inr ⟨it.go i H' s hlt,by have:=k1.1;omega,fun v H2 y=>?_⟩
   obtain⟨gr,t,ht,rt⟩:=it.yld i H' v H2 s (fun a z=>R'.dom z) hlt y
   have hx':=gr.hx R'
   have R2:=R'.hx hx'
   have ed:ts.drop i=t::ts.drop (i+1):=by
    rw[xkp hlt]
    rw[xkD hlt] at ht
    cases ht;rfl
   rw[ed] at f
   have av:∀a,Av (B.inner φ τ H2) (si tau φ τ) a→Av B φ a:=fun a z=>by
    rcases z with z | ⟨j,z⟩
    ·exact z
    ·exact xcR z
   rcases f with f | f
   ·refine hg (B.inner φ τ H2) _ _ _ H2 (Av B φ) t v _ _ R2.inner av rt f fun φ3 σ3 τ3 R3 ha k3=>?_
    unfold xap
    dsimp only
    rw[if_pos rfl]
    exact hx _ (fun H3 x3=>hE H3 (pE.on R2 (fun a o e n=>x3.ext a o e n) fun a z=>x3.st a z)) φ3 σ3 τ3 H2 _ R3 k3
   ·refine hg (B.inner φ τ H2) _ _ _ H2 (Av B φ) t v _ _ R2.inner av rt f fun φ3 σ3 τ3 R3 ha k3=>?_
    have hsa:∀a,SA (B.inner φ τ H2) φ3 τ3 a→SA B φ τ a:=fun a z=>by
     rcases z with z | ⟨j,z,hj⟩
     ·exact z
     ·have en:=R3.ent j
      rw[hj] at en
      obtain⟨p,e1,e2,e3⟩:=en
      rw[z] at e2;cases e2
      rcases e3 with e3 | e3
      ·exact e3
      ·exact absurd e3 (R3.sst a (.inr ⟨j,z,hj⟩)).ne_none
    have hxo:∀ {H3 H4:Hp},HX (B.inner φ τ H2) φ3 τ3 H3 H4→HX B φ τ H3 H4:=fun {H3 H4} h=>⟨fun a o e n=>h.keep a o e fun z=>n (hsa a z),fun a z=>h.st a (.inl z)⟩
    unfold xap
    dsimp only
    rw[if_pos rfl]
    refine he _ φ3 σ3 τ3 H2 _ _ R3 k3 fun u w H4 x4 k5 r5=>?_
    have x34:=hxo x4
    have s4:=it.stab _ _ (it.stab _ _ s fun a o e n=>hx'.keep a o e n) fun a o e n=>x34.keep a o e n
    exact⟨_,by omega,rfl,hlt,by rw[xkL,xkS];omega,(x.trans hx').trans x34,s4,k5⟩
  ·have:i=ts.length:=by omega
   subst this
   rw[List.drop_length] at f
   exact f.elim
end
section
variable {P:Program} {w:World} {K:PySem.W.Frag} {mg:Str→Option Value} {base:Heap} {k n:Nat} {x qual:Str} {st:Stmt} {f:Addr} {fd:FuncData} {N ps:List Str} {C:Addr} {R:List Tr→Prop}
theorem lJ (F:Fun K x qual st f fd)(S:xC N ps (xf st))(mgx:mg x=some (.ref f))(b:Binds K fd ps [])(hn:ps.length=n)
  (body:∀(cdv:Value) (A:Around) (outer:List Env) (s:Shared) (H:Hp) (E:XK),kL k (A.deeper (envOfC qual (xf st) s.heap.objs.size f cdv))→∀ts,ts.length=n→R ts →
   ∃T,PSs (gU (CXE P w) P w K mg base N qual (xf st) f cdv A outer s H E) (yZ st) T∧∀B:FB,(∀H',pE B H'→E (.ref C) none H')→∃D,RXS K B T D∧D (startT N false ts)) :
  oH P w K mg base (k+1) x ps (spX n C R):=by
 have hpl:ps.length≤N.length:=by have:=xlN List.length S.pre;rw[xkT] at this;omega
 refine xaT F S mgx b (fun vs H Q E h=>?_) (fun cdv A outer s H vs Q E hr h=>?_)
 ·obtain⟨F',S',ts,us,e,_,_,_,r,l,_⟩:=h
  subst e
  rw[←r.len,l,hn]
 ·obtain⟨F',S',ts,us,e,hF,hS,hst,r,l,hR,q⟩:=h
  subst e
  obtain⟨T,ht,h⟩:=body cdv A outer s H E hr ts l hR
  obtain⟨D,hd,hD⟩:=h ⟨F',S',H,[]⟩ fun H' x=>q H' x.ext x.st
  exact⟨T,ht,hd _ _ _ H _ (fW hF hS hst r (by omega)) hD⟩
end
end L2
namespace L2
open PySem PySem.Spec PyProof.Rows
section
variable {K:PySem.W.Frag} {fr:Bool}
def xi5 (x y:Tr)(KK:Tr→Prop):Prop:=match x,y with | .str z,.int i=>z.length≤sizeLine∧∃c,atI z.cps.toList i=some c∧KK (.str ⟨#[c]⟩) | _,_=>False
theorem xdC:OpS (rIx K) xi5:=fun F G H x y t u KK Q r1 r2 hf q=>by
 unfold xi5 at hf
 split at hf
 ·rename_i z i
  cases (show x=.str z from r1);cases (show y=.int i from r2)
  obtain⟨hz,c,hc,k⟩:=hf
  exact .inr (.inr ⟨z,i,c,rfl,rfl,hz,hc,q _ _ rfl k⟩)
 ·exact hf.elim
theorem xac {l:List Nat}{i:Int}(h:0≤i){c:Nat}(e:l[i.toNat]? = some c):atI l i=some c:=by
 rw[←Int.toNat_of_nonneg h]
 exact xaO e
def xdN (i:Nat)(dk:DE):DS:=fun G τ=>match nth τ i with | .ow ts=>dk τ fun k=>∃n:Nat,k=.int n∧n<ts.length∧ts.length<sizeLine∧G.nx (τ.set i (.ow (ts.eraseIdx n))) | _=>False
theorem lE (n:Nat)(r:zM F H ts ws):zM F H (ts.eraseIdx n) (ws.eraseIdx n):=by
 rw[xks,xks]
 exact(mV n r).app (mD (n+1) r)
theorem xaa {b:Bool}{i:Nat}{tk:TE}{dk:DE}(hk:OkE K b tk dk):OkS K fr (xdf (tBM K "list" xdz (sZ i) (uo tk bW))) (xdN i dk):=fun B φ σ τ H E G R hd e=>by
 have en:=R.ent i
 unfold xdN at hd
 revert en hd
 cases hi:nth τ i with
 | ow ts =>
  intro hd ⟨a,ws,e1,e2,e3,e4,r⟩
  refine⟨_,e1,.inl ⟨rfl,_,SqL.of e4⟩,hk B φ σ τ H _ _ R hd fun t0 v0 H0 x0 k0 r0=>?_⟩
  obtain⟨n,rfl,hn,hz,k1⟩:=k0
  cases (show v0=.int n from r0)
  obtain⟨ws',f4,f5,_⟩:=v8 R x0 hi e1
  have l:=f5.len
  have hn':n<ws'.length:=by rw[←l];exact hn
  have s63:(sizeLine:Int)<2 ^ 63:=by decide
  refine⟨a,ws',n,n,ws'[n],rfl,rfl,f4,by omega,by omega,seqIndex_of (by omega) (by omega),xkD hn',e.nx φ σ _ _ ((R.hx x0).wrOw hi e1 (lE n f5)) k1⟩
 | _=>exact fun z _=>z.elim
end
end L2
namespace L2
open PySem Tx NumText
open Builtin.Str (glued occurrences partsBetween strSub subAt strSliceIndices)
def xbh (w:Str):Bool:=decide (1≤(wJ w).length)&&decide ((wJ w).length≤4)&&(wJ w).cps.toList.all (fun c=>decide (48≤c∧c≤57))
structure xc6 (w:Str):Prop where
 f1:1≤(wJ w).length
 f4:(wJ w).length≤4
 dg:AllDigits (wJ w).cps.toList
theorem aI (w:Str):xbh w=true↔xc6 w:=by
 unfold xbh
 simp only[xjH,xlS,xki]
 exact⟨fun h=>⟨h.1.1,h.1.2,h.2⟩,fun h=>⟨⟨h.f1,h.f4⟩,h.dg⟩⟩
theorem xfu (h1:1≤(wJ w).length)(hd:AllDigits (wJ w).cps.toList)(hl:w.length≤4300):intText? w=some (wK w.cps.toList):=by
 rw[ud] at hd
 rw[str_len,ud] at h1
 rw[jk] at hd h1
 by_cases c:w.cps.toList.take 1=[45]
 ·rw[if_pos c] at hd h1
  have e:w.cps.toList=45::w.cps.toList.drop 1:=by
   conv=>lhs;rw[←xlq 1 w.cps.toList,c]
   rfl
  rw[intText_neg e hd (fun z=>by rw[z] at h1;exact absurd h1 (by decide)) hl]
  conv=>rhs;rw[e]
  rfl
 ·rw[if_neg c] at hd h1
  rw[intText_digits hd (fun z=>by rw[z] at h1;exact absurd h1 (by decide)) hl,j0 hd]
theorem xa_ (w:Str):w.length≤(wJ w).length+1:=by
 rw[str_len,str_len,ud,jk]
 split
 ·rw[xkN];omega
 ·omega
theorem xgp (h:xc6 w):intText? w=some (wK w.cps.toList):=xfu h.f1 h.dg (by have:=xa_ w;have:=h.f4;omega)
theorem xbd (h:-1000≤n∧n≤1000):xc6 (yq n):=⟨(jA h).f1,(jA h).f4,(jA h).dg⟩
def jY:Option Int→Tr
 | none=>.non
 | some n=>.int n
def xej (r:Str):Tr:=.tup ((Txt.split r (" " : Str)).map fun w=>jY (n5 w))
def m5 (x:Str):Tr:=.tup ((Txt.split x (" ; " : Str)).map xej)
def rdR (r:Str):Tr:=.tup ((Txt.split r (" " : Str)).map fun w=>.int (wK w.cps.toList))
theorem xfJ (h:Pol.uC r):xej (uh r)=trR r:=by
 unfold xej
 rw[fF h]
 show Tr.tup [jY (n5 (yq r.1)),jY (n5 (yq r.2.1)),jY (n5 (yq r.2.2))]=_
 rw[rK,rK,rK]
 rfl
theorem xcQ (hf:xt rows=true):m5 (uF rows)=.tup (rows.map trR):=by
 have fr:∀r∈rows,Pol.uC r:=fun r hr=>((xck hf).2.1 r hr).2
 unfold m5
 rw[sA fr (fun e=>by subst e;exact absurd (xck hf).1.1 (by decide)),xkZ]
 congr 1
 exact xkW fun r hr=>xfJ (fr r hr)
theorem xcP (h:xej s=trR r):s=uh r:=by
 unfold xej trR at h
 injection h with h
 have g:=uM s (" " : Str)
 match e:Txt.split s (" " : Str),h with
 | [a,b,c],h =>
  rw[e] at g
  simp only[xkX,xk0,List.cons.injEq,and_true] at h
  obtain⟨h1,h2,h3⟩:=h
  have num:∀ {w:Str} {n:Int},jY (n5 w)=.int n→w=yq n:=fun {w n} q=>by
   cases z:n5 w with
   | none=>rw[z] at q;cases q
   | some m=>rw[z] at q;cases q;exact(t7 z).symm
  rw[num h1,num h2,num h3] at g
  exact g.symm
 | [],h=>cases h
 | [_],h=>simp at h
 | [_,_],h=>simp at h
 | _::_::_::_::_,h=>simp at h
theorem xbs {ss:List Str}{rows:List Pol.R3}(h:ss.map xej=rows.map trR):ss=rows.map uh:=by
 induction ss generalizing rows with
 | nil=>cases rows with
  | nil=>rfl
  | cons r rs=>cases h
 | cons s ss ih=>cases rows with
  | nil=>cases h
  | cons r rs =>
   rw[xkX,xkX] at h
   injection h with h1 h2
   rw[xkX,←ih h2,←xcP h1]
theorem aA (h:isField (.tup us)=true):∃rows:List Pol.R3,us=rows.map trR∧xt rows=true:=by
 have h:(match rowsOf us with | some rows=>xt rows | none=>false)=true:=h
 cases e:rowsOf us with
 | none=>rw[e] at h;cases h
 | some rows=>rw[e] at h;exact⟨rows,wU e,h⟩
theorem xbG {x:Str}(h:isField (m5 x)=true):∃rows:List Pol.R3,x=uF rows∧xt rows=true∧m5 x=.tup (rows.map trR):=by
 obtain⟨rows,e,hf⟩:=aA h
 have:=uM x (" ; " : Str)
 rw[xbs e] at this
 exact⟨rows,this.symm,hf,by unfold m5;rw[e]⟩
theorem xcH (h:isField (m5 x)=false)(hf:xt rows=true):uF rows≠x:=fun e=>by
 subst e
 rw[xcQ hf,dZ hf] at h;cases h
theorem rM (h:x≠y):teq (.str x) (.str y)=false:=by
 show(x == y)=false
 exact beq_false_of_ne h
theorem rk (h:∀c∈x.cps.toList,c<128):okS x:=fun c hc=>Nat.lt_trans (h c hc) (by decide)
theorem cP (h:okS x):pln (.str x)=true:=(ot h).1
theorem qF (hx:okS x)(hy:okS y):xdb (.str x) (.str y):=⟨cP hx,cP hy,by show min 0 0≤64;decide⟩
theorem ck (bad:α→Bool):∀ {l:List α},(∀a∈l,bad a=false→∀N:Tr→Prop,(∀y,N y)→dg (f a) τi fun τ2=>de τ2 N)→(∀a∈l,bad a=true→dg (f a) τi dx)→(∃a∈l,bad a=true)→xhA dg de dx τi (l.map f)
 | [],_,_,h=>by obtain⟨_,h,_⟩:=h;cases h
 | a::l,h1,h0,hb=>by
  cases e:bad a with
  | true=>exact .inl (h0 a xk7 e)
  | false =>
   refine .inr (h1 a xk7 e _ fun _=>ck bad (fun b hb=>h1 b (xk6 _ hb)) (fun b hb=>h0 b (xk6 _ hb)) ?_)
   obtain⟨b,hb,eb⟩:=hb
   rcases xk5.mp hb with rfl | hb
   ·rw[e] at eb;cases eb
   ·exact⟨b,hb,eb⟩
theorem b_ (hl:w.length≤100000)(N:Tr→Prop)(hN:N (.str (wJ w))):if xdG w=true then w.length≤sizeLine∧N (.str (Txt.slice w (some 1) none)) else N (.str w):=by
 unfold wJ at hN
 split
 ·rename_i c;rw[if_pos c] at hN;exact⟨wg (by omega),hN⟩
 ·rename_i c;rw[if_neg c] at hN;exact hN
theorem xe7 {D1:DS}{D2:TSt→Prop}{τ:TSt}(P:TSt→Prop)(h2:∀ τ',P τ'→D2 τ')(h1:∀N:TSt→Prop,(∀ τ',P τ'→N τ')→D1 { nx:=N,rt:=fun _=>False } τ):D1 { nx:=D2,rt:=fun _=>False } τ:=h1 D2 h2
theorem dR (w:Str):(wJ w).length≤w.length:=by
 rw[str_len,str_len w,ud,jk]
 split
 ·rw[xkN];omega
 ·exact xlw _
theorem cI (h:∀c∈w.cps.toList,c<128):(wJ w).cps.all (· < 128)=true:=by
 rw[xjA]
 intro i hi
 have m:=xjD hi
 rw[ud,jk] at m
 refine xlR (h _ ?_)
 split at m
 ·exact xld m
 ·exact m
def cU (c:Nat):Bool:=decide (48≤c∧c≤57)
theorem xaA (c:Nat):(!(!(occurrences ("0123456789" : Str) ⟨#[c]⟩ 0 (("0123456789" : Str)).length 1).isEmpty)) = !cU c:=by
 have e:(("0123456789" : Str)).cps.toList=[48,49,50,51,52,53,54,55,56,57]:=by decide
 rw[StrLaws.found_one,e]
 congr 1
 unfold cU
 rw[xlO]
 simp only[xk5,xlk,xlW]
 omega
theorem xga (h:xbh w=false)(h1:1≤(wJ w).length)(h4:(wJ w).length≤4):(((wJ w).cps.toList.map fun c=>!cU c).any id)=true:=by
 unfold xbh at h
 rw[xlR h1,xlR h4,Bool.true_and,Bool.true_and,xkh] at h
 obtain⟨c,hc,n⟩:=h
 rw[xkl]
 refine⟨_,xlb hc,?_⟩
 unfold cU
 rw[id,xjK,←Bool.not_eq_true]
 exact n
theorem xfq (h:xc6 w):(((wJ w).cps.toList.map fun c=>!cU c).any id)=false:=by
 rw[xkk]
 intro b hb
 obtain⟨c,hc,rfl⟩:=xla.mp hb
 have:=h.dg c hc
 unfold cU
 rw[xlR this]
 exact xjJ
theorem xfd (h:Pol.uC r):rdR (uh r)=trR r:=by
 unfold rdR
 rw[fF h]
 show Tr.tup [.int (wK (yq r.1).cps.toList),.int (wK (yq r.2.1).cps.toList),.int (wK (yq r.2.2).cps.toList)]=_
 rw[kE,kE,kE]
 rfl
theorem xhx (h:Pol.uC r):∀w∈Txt.split (uh r) (" " : Str),xc6 w:=fun w hw=>by
 rw[fF h] at hw
 obtain⟨a,b,c⟩:=l6 h
 simp only[xk5,xlk,xlW] at hw
 rcases hw with rfl | rfl | rfl
 ·exact xbd a
 ·exact xbd b
 ·exact xbd c
theorem xc9 (h:¬xbh w=false):xc6 w:=(aI w).mp (by cases e:xbh w with | true=>rfl | false=>exact absurd e h)
theorem uy (h:x.length≤100000)(y:Str)(hy:1≤y.length):(Txt.split x y).length≤100001:=by have:=sJ x y hy;omega
theorem uX (h:x.length≤100000)(y:Str):(partsBetween x (occurrences x y 0 x.length (x.length+1)) y.length).length≤sizeLine:=by have:=tM x y;exact wg (by omega)
theorem xav (h:AllDigits l):l.take 1≠[45]:=by
 cases l with
 | nil=>simp
 | cons c l =>
  have:=h.head
  intro e
  simp only[List.take_succ_cons,List.take_zero,List.cons.injEq,and_true] at e
  omega
theorem xeW (n:Int):(wJ (yq n)).cps.toList=xe8 n.natAbs:=by
 rw[ud]
 rcases t6 n with ⟨h,e⟩ | ⟨h,e⟩
 ·rw[e,jk,if_neg (xav (rg _))]
 ·rw[e];rfl
theorem xcy (h:n5 w=some n):AllDigits (wJ w).cps.toList∧(wJ w).cps.toList≠[]:=by
 rw[←t7 h,xeW];exact⟨rg _,xfs _⟩
theorem sM (h:AllDigits (wJ w).cps.toList):wK w.cps.toList=((digitsVal (wJ w).cps.toList:Nat):Int)*(if xdG w=true then -1 else 1):=by
 rw[ud,fk] at *
 rw[jk] at h ⊢
 by_cases c:w.cps.toList.take 1=[45]
 ·rw[if_pos c,if_pos (xlR c)]
  have e:w.cps.toList=45::w.cps.toList.drop 1:=by
   conv=>lhs;rw[←xlq 1 w.cps.toList,c]
   rfl
  conv=>lhs;rw[e]
  show -((digitsVal (w.cps.toList.drop 1):Nat):Int)=_
  omega
 ·rw[if_neg c] at h
  rw[if_neg c,if_neg (by rw[xlP c];exact xjJ),j0 h]
  omega
theorem br {x y:Str}:x=y↔x.cps.toList=y.cps.toList:=⟨fun h=>by rw[h],fun h=>Str.ext' (xjG.mp h)⟩
theorem a_ (x y:Str):teq (.str x) (.str y)=decide (x.cps.toList=y.cps.toList):=by
 by_cases h:x=y
 ·subst h;rw[r9,xlR rfl]
 ·rw[rM h,xlP fun e=>h (br.mpr e)]
theorem xfr (w:Str):teq (.str (Txt.slice w none (some 1))) (.str ("-" : Str))=xdG w:=by
 rw[a_,xbc,fk]
 rfl
theorem xcJ (h:w.cps.toList[0]? = some c):teq (.str ⟨#[c]⟩) (.str ("-" : Str))=xdG w:=by
 rw[a_,fk]
 cases e:w.cps.toList with
 | nil=>rw[e] at h;cases h
 | cons d l =>
  rw[e] at h
  cases h
  rfl
theorem nJ:∀(l:List Nat) (acc:Nat),AllDigits l→l.foldl (fun acc c=>acc*10+(c-48)) acc+1≤(acc+1)*10 ^ l.length
 | [],acc,_=>by simp
 | c::l,acc,h=>by
  have ih:=nJ l (acc*10+(c-48)) h.tail
  have hc:=h.head
  rw[xkx,xkM,Nat.pow_succ,Nat.mul_comm (10 ^ l.length) 10,←Nat.mul_assoc]
  refine xly ih (xlF _ ?_)
  omega
theorem mE (h:AllDigits l)(hl:l.length≤99):digitsVal l<10 ^ 99:=by
 have:=nJ l 0 h
 rw[Nat.zero_add,Nat.one_mul] at this
 have m:10 ^ l.length≤10 ^ 99:=Nat.pow_le_pow_right (by decide) hl
 unfold digitsVal
 omega
theorem nN (h:AllDigits (wJ w).cps.toList)(hl:w.length≤99):(wK w.cps.toList).natAbs<10 ^ 99:=by
 have v:=mE h (by rw[←str_len];have:=dR w;omega)
 rw[sM h]
 split<;>omega
theorem xbp {i:Int}(h:i.natAbs<10 ^ 99):i.natAbs.log2<1920:=by
 have:=log2_lt_of (k:=400) (n:=i.natAbs) (Nat.lt_trans h (by decide)) (by decide)
 omega
structure Wds (k L W:Nat)(ws:List Str):Prop where
 ok:∀q∈ws,(∀c∈q.cps.toList,c<128)∧vK W q.cps.toList
 sum:L2.tot k ws≤L
theorem xaD (h:Bt L W x)(y3:y.length≤3):Wds y.length (L+3) W (Txt.split x y) :=
 ⟨fun q hq=>⟨(h.part hq).asc,(h.part hq).run⟩,by rw[xb1];have:=h.len;omega⟩
theorem xdX:∀ {ws:List Str},q∈ws→q.length+k≤tot k ws
 | p::ws,h=>by
  rw[kj]
  rcases xk5.mp h with rfl | h
  ·omega
  ·have:=xdX (k:=k) h;omega
theorem jR (k n:Nat)(ws:List Str):tot k (ws.take n)+tot k (ws.drop n)=tot k ws:=by rw[←dA,xlq]
theorem Wds.erase (h:Wds k L W ws)(n:Nat):Wds k L W (ws.eraseIdx n):=by
 refine⟨fun q hq=>h.ok q (List.mem_of_mem_eraseIdx hq),?_⟩
 rw[xks,dA]
 have a:=jR k n ws
 have b:=jR k 1 (ws.drop n)
 rw[List.drop_drop,show n+1=n+1 from rfl] at b
 have:=h.sum
 omega
theorem Wds.ins {k L W:Nat}{ws:List Str}(h:Wds k L W ws)(n:Nat){q:Str}(hq:q∈ws):Wds k (L+L) W (ws.take n++[q]++ws.drop n):=by
 refine⟨fun p hp=>?_,?_⟩
 ·rcases xk2.mp hp with hp | hp
  ·rcases xk2.mp hp with hp | hp
   ·exact h.ok p (xle hp)
   ·rw[xlg.mp hp];exact h.ok q hq
  ·exact h.ok p (xld hp)
 ·rw[dA,dA,kj]
  have a:=jR k n ws
  have b:=xdX (k:=k) hq
  have c:=h.sum
  have:tot k []=0:=rfl
  omega
theorem Wds.put (h:Wds k L W ws)(hn:n<ws.length)(hq:∀c∈q.cps.toList,c<128)(hl:q.length≤4)(w4:4≤W)(k3:k≤3):Wds k (L+7) W (ws.set n q):=by
 refine⟨fun p hp=>?_,?_⟩
 ·rcases List.mem_or_eq_of_mem_set hp with hp | rfl
  ·exact h.ok p hp
  ·exact⟨hq,qY (by rw[←str_len];omega)⟩
 ·rw[List.set_eq_take_append_cons_drop,if_pos hn,dA,kj]
  have a:=jR k n ws
  have b:=jR k 1 (ws.drop n)
  rw[List.drop_drop] at b
  have:=h.sum
  omega
theorem xbY (f:α→β)(l:List α)(n:Nat):(l.map f).eraseIdx n=(l.eraseIdx n).map f:=by
 rw[xks,xks,xkV,xk1,xkY]
theorem xa6 {α:Type}{f:α→Tr}{n:Nat}{l:List α}{w:α}(hn:n<l.length):xf0 (l.map f) (f w) (n:Int)=some ((l.set n w).map f):=by
 show(if n<(l.map f).length then some ((l.map f).set n (f w)) else none)=_
 rw[if_pos (by rw[xkP];exact hn),List.map_set]
theorem xdT (h:c<128):Bt 1 1 ⟨#[c]⟩:=by
 refine p8 (fun d hd=>?_) (by show 1≤1;decide) (by show 1≤1;decide)
 have:d=c:=by simpa using hd
 rw[this];exact h
theorem xex (h0:0≤r)(h1:r<12):∃c,c<128∧atI (("01259 -;+.x/" : Str)).cps.toList r=some c:=by
 have e:(("01259 -;+.x/" : Str)).cps.toList=[48,49,50,53,57,32,45,59,43,46,120,47]:=by decide
 rw[e]
 have l:r.toNat < [48,49,50,53,57,32,45,59,43,46,120,47].length:=by show r.toNat<12;omega
 refine⟨[48,49,50,53,57,32,45,59,43,46,120,47][r.toNat],?_,xac h0 (xkD l)⟩
 have m:=xkJ l
 revert m
 generalize [48,49,50,53,57,32,45,59,43,46,120,47][r.toNat]=c
 intro m
 simp only[xk5,xlk,xlW] at m
 omega
theorem xdk (h:tot y.length ws≤L)(hL:L≤1000000):ws.toArray.foldl (· + ·.length+y.length) 0≤sizeLine∧(glued y ws).length≤sizeLine:=by
 rw[List.foldl_toArray,pY]
 have:=pP y ws
 exact⟨wg (by omega),wg (by omega)⟩
def lN:Nat→Nat×Nat
 | 0=>(168,5)
 | j+1=>(2*(lN j).1+6,2*(lN j).2+1)
theorem xfS (h:lN j=(L,W)):lN (j+1)=(2*L+6,2*W+1):=by
 show(2*(lN j).1+6,2*(lN j).2+1)=_
 rw[h]
theorem xcA (hj:j<4)(h:lN j=(L,W)):(5≤L∧L≤2000)∧5≤W∧W≤99:=by
 match j,hj with
 | 0,_=>cases h;decide
 | 1,_=>cases h;decide
 | 2,_=>cases h;decide
 | 3,_=>cases h;decide
def fX:TSp:=fun ts KK=>∃w:Str,ts=[.str w]∧xc6 w∧KK (.int (wK w.cps.toList))
def pK (ts:List Tr):Prop:=∃w:Str,ts=[.str w]∧xbh w=false∧(∀c∈w.cps.toList,c<128)∧w.length≤100000
def dE:TSp:=fun ts KK=>∃r:Str,ts=[.str r]∧r.length≤100000∧(∀w∈Txt.split r (" " : Str),xc6 w)∧KK (rdR r)
def pZ (ts:List Tr):Prop:=∃r:Str,ts=[.str r]∧Bt 100000 100000 r∧∃w∈Txt.split r (" " : Str),xbh w=false
def sV (ts:List Tr):Prop:=∃t,ts=[t]∧((∀x,t≠.str x)∨∃x,t=.str x∧Bt 100000 100000 x∧isField (m5 x)=false)
def xdV:TSp:=fun ts KK=>∃w:Str,ts=[.str w]∧w.length≤99∧(∀c∈w.cps.toList,c<128)∧KK (jY (n5 w))
def duL (us:List (List (Option Int))):Tr:=.tup (us.map fun u=>.tup (u.map jY))
def xgk:TSp:=fun ts KK=>∃us:List (List (Option Int)),ts=[duL us]∧KK (.bl (isField (duL us)))
def xdY:TSp:=fun ts KK=>∃x:Str,ts=[.str x]∧Bt 100000 99 x∧KK (if isField (m5 x)=true then m5 x else .non)
def xew:TSp:=fun ts KK=>∃(x:Str) (L W:Nat),ts=[.str x]∧Bt L W x∧5≤W∧5≤L∧L≤40000∧∀y,Bt (2*L+6) (2*W+1) y→KK (.str y)
theorem c7 (x:Str):m5 x=duL ((Txt.split x (" ; " : Str)).map fun r=>(Txt.split r (" " : Str)).map n5):=by
 unfold m5 duL
 rw[xkZ]
 congr 1
 refine xkW fun r _=>?_
 unfold xej
 simp only[Function.comp,xkZ]
 rfl
end L2
namespace L2
open PySem
theorem xD (K:PySem.W.Frag)(i:Nat)(e:X.K=K:=by rfl)(hN:X.N[i]? = some x:=by rfl)(hv:Vis X.env.scope x:=by first | exact Or.inl rfl | exact Or.inr (Or.inl rfl) | exact Or.inr (Or.inr rfl))(hd:(x == ("__debug__" : Str))=false:=by decide)
  (hcd:(x == ("__classdict__" : Str))=false:=by decide):PE X (.Subscript (.Name x p) (.Constant (.int n) j q) r) (tOp (rIx K) (sZ i) (tC (.int n))):=wH (yW K e) (pv i hN hv hd hcd) xg (fun _ _=>rfl)
theorem xE {K:PySem.W.Frag}:OkE K true (tOp (rIx K) (sZ i) (tC (.int n))) (d2 fIx (nX i) (dC (Tr.int n))):=kK xa (vp (t:=Tr.int _))
theorem yn (a:PE X e te)(h:starEach [e] X.env=(false,eval e X.env)::starEach [] X.env:=by rfl):PA X [e] (uo te bW):=xQ a u9 h
theorem x8 (a:PE X e te)(b:PE X f tf)(h:starEach [f] X.env=(false,eval f X.env)::starEach [] X.env:=by rfl)(g:starEach [e,f] X.env=(false,eval e X.env)::starEach [f] X.env:=by rfl):PA X [e,f] (uo te (uo tf bW)):=xQ a (xQ b u9 h) g
theorem xw {K:PySem.W.Frag}(h:OkE K b te de):OkA K b 1 (uo te bW) (rp de xdR):=xI h uP
theorem xN {K:PySem.W.Frag}(h:OkE K b te de)(g:OkE K b tf df):OkA K b 2 (uo te (uo tf bW)) (rp de (rp df xdR)):=xI h (xI g uP)
theorem xn {K:PySem.W.Frag}:OkE K true (tC (.int i)) (dC (.int i)):=vp
theorem vg {K:PySem.W.Frag}:OkE K true (tC (.bl i)) (dC (.bl i)):=vp
theorem yI (h:sc.kind=.function∧sc.isCoroutine=false∧sc.isGenerator=false∧N.Nodup∧N.take P.length=P∧(∀x∈P,sc.names.lookup x=some .local∨sc.names.lookup x=some .cell)∧∀y∈sc.names,y.2≠.free:=by decide +kernel):xC N P sc:=⟨h.1,h.2.1,h.2.2.1,h.2.2.2.1,h.2.2.2.2.1,h.2.2.2.2.2.1,h.2.2.2.2.2.2⟩
theorem zJ (i:Nat)(hN:X.N.Nodup)(hi:X.N[i]? = some x:=by rfl)(hx:X.env.scope.names.lookup x=some .local:=by rfl):PG X (.Name x pos) (gN i):=xS hN hi (.inl hx) (.inr hx)
theorem yL (i:Nat)(hN:X.N.Nodup)(he:PE X e te)(hi:X.N[i]? = some x:=by rfl)(hx:X.env.scope.names.lookup x=some .local:=by rfl)(hs:swapsWith e (some (.Name x pos')) pos.line X.env=pure false:=by rfl):PS X (.Assign [.Name x pos'] e pos) (xcj te (gN i)):=ug hN hi (.inl hx) he hs (.inr hx)
end L2
namespace K91
open PySem L2 Tx NumText
open Builtin.Str (occurrences)
def top (i:Nat):Stmt:=PySem.Challenge.pw_roundcuts_k91_texts_that_write_no_field.main.body.getD i (.Pass ⟨0,0,0,0⟩)
abbrev gu:Stmt:=top 13
abbrev vU:Stmt:=top 14
abbrev wG:Stmt:=top 15
abbrev aC:Stmt:=top 16
abbrev vx:Stmt:=top 19
abbrev q9:Stmt:=top 20
abbrev h_:Stmt:=top 21
abbrev v_:Stmt:=top 22
abbrev ji:Stmt:=top 23
abbrev tw:Stmt:=top 24
abbrev wC:Stmt:=top 25
abbrev qT:Stmt:=top 26
abbrev gw:Stmt:=top 27
abbrev rz:Stmt:=top 29
abbrev fK:Stmt:=top 30
abbrev hU:Stmt:=top 31
abbrev hJ:Stmt:=top 32
abbrev qd:Stmt:=top 33
abbrev vA:Stmt:=top 35
abbrev vy:Stmt:=top 36
abbrev jQ:Stmt:=top 37
abbrev vT:Stmt:=top 39
abbrev zC:Stmt:=top 40
abbrev uB:Stmt:=top 41
abbrev zG:Stmt:=top 42
abbrev vn:Stmt:=top 44
abbrev qP:Stmt:=top 45
abbrev ja:Stmt:=top 46
abbrev ub:Stmt:=top 47
abbrev vt:Stmt:=top 48
abbrev j4:Stmt:=top 49
abbrev uS:Stmt:=top 50
abbrev qB:Stmt:=top 51
abbrev qw:Stmt:=top 52
abbrev jr:Stmt:=top 53
abbrev qQ:Stmt:=top 54
abbrev qE:Stmt:=top 55
abbrev qA:Stmt:=top 56
abbrev wW:Stmt:=top 57
abbrev wy:Stmt:=top 58
abbrev wX:Stmt:=top 59
abbrev uG:Stmt:=top 60
abbrev w_:Stmt:=top 61
abbrev zW:Stmt:=top 62
abbrev zi:Stmt:=top 63
abbrev kD:Stmt:=top 64
abbrev jh:Stmt:=top 65
abbrev fU:Stmt:=top 66
theorem bO:xC ["thing"] ["thing"] (xf gu):=yI
theorem mC:xC ["things"] ["things"] (xf vU):=yI
theorem zX:xC ["one", "other"] ["one", "other"] (xf wG):=yI
theorem tT:xC ["top", "bottom", "shared"] ["top", "bottom"] (xf aC):=yI
theorem dH:xC ["rows"] ["rows"] (xf vx):=yI
theorem rR:xC ["rows"] ["rows"] (xf q9):=yI
theorem jb:xC ["piece", "rows", "row"] ["piece", "rows"] (xf h_):=yI
theorem nV:xC ["piece"] ["piece"] (xf v_):=yI
theorem z_:xC ["piece", "row", "left", "at", "corner", "before", "crossing"] ["piece", "row"] (xf ji):=yI
theorem uQ:xC ["row", "corner", "a", "b", "c", "x", "y", "bottom"] ["row", "corner"] (xf tw):=yI
theorem yC:xC ["row", "one", "other", "one_off", "other_off", "x", "y", "bottom", "shared"] ["row", "one", "other"] (xf wC):=yI
theorem wI:xC ["piece", "start", "at", "corner"] ["piece"] (xf qT):=yI
theorem bx:xC ["one", "other"] ["one", "other"] (xf gw):=yI
theorem xa1:xC ["thing"] ["thing"] (xf rz):=yI
theorem lQ:xC ["one", "other"] ["one", "other"] (xf fK):=yI
theorem qf:xC ["rows", "first", "left", "right"] ["rows"] (xf hU):=yI
theorem qg:xC ["first", "rows", "sign", "last", "row"] ["first", "rows", "sign"] (xf hJ):=yI
theorem kQ:xC ["first", "rows", "row"] ["first", "rows"] (xf qd):=yI
theorem bR:xC ["thing"] ["thing"] (xf vA):=yI
theorem wx:xC ["thing", "a", "b", "c"] ["thing"] (xf vy):=yI
theorem lu:xC ["place"] ["place"] (xf jQ):=yI
theorem tF:xC ["rows"] ["rows"] (xf vT):=yI
theorem y_:xC ["text", "rows", "field"] ["text"] (xf zC):=yI
theorem fy:xC ["words"] ["words"] (xf uB):=yI
theorem wZ:xC ["word", "figures"] ["word"] (xf zG):=yI
theorem dS:xC ["_law_script", "_law_k"] ["_law_script", "_law_k"] (xf vn):=yI
theorem jC:xC ["_law_script", "_law_k", "_law_cell"] ["_law_script", "_law_k"] (xf qP):=yI
theorem u4:xC ["_law_state_here", "_law_many", "_law_found", "_law_stirred"] ["_law_state_here", "_law_many"] (xf ja):=yI
theorem xV:xC ["_law_state_here", "_law_way", "_law_rows", "_law_a", "_law_b", "_law_by", "_law_turn", "_law_near", "_law_k", "_law_some", "_law_u", "_law_v"] ["_law_state_here"] (xf ub):=yI
theorem qK:xC ["_law_one", "_law_other"] ["_law_one", "_law_other"] (xf vt):=yI
theorem jg:xC ["_law_top", "_law_bottom", "_law_by"] ["_law_top", "_law_bottom"] (xf j4):=yI
theorem um:xC ["_law_one", "_law_other", "_law_by", "_law_x"] ["_law_one", "_law_other"] (xf uS):=yI
theorem vZ:xC ["_law_row", "_law_place", "_law_x", "_law_y"] ["_law_row", "_law_place"] (xf qB):=yI
theorem jD:xC ["_law_row", "_law_place", "_law_here"] ["_law_row", "_law_place"] (xf qw):=yI
theorem nt:xC ["_law_one", "_law_other"] ["_law_one", "_law_other"] (xf jr):=yI
theorem rV:xC ["_law_one", "_law_other"] ["_law_one", "_law_other"] (xf qQ):=yI
theorem rX:xC ["_law_one", "_law_other"] ["_law_one", "_law_other"] (xf qE):=yI
theorem jO:xC ["_law_one", "_law_other", "_law_third", "_law_first"] ["_law_one", "_law_other", "_law_third"] (xf qA):=yI
theorem yV:xC ["_law_places", "_law_some", "_law_place", "_law_ahead", "_law_found", "_law_k", "_law_here"] ["_law_places"] (xf wW):=yI
theorem gT:xC ["_law_here", "_law_place", "_law_some"] ["_law_here", "_law_place", "_law_some"] (xf wy):=yI
theorem zh:xC ["_law_rows", "_law_found", "_law_at", "_law_other", "_law_place"] ["_law_rows"] (xf wX):=yI
theorem gH:xC ["_law_found", "_law_due_here"] ["_law_found", "_law_due_here"] (xf uG):=yI
theorem y4:xC ["_law_call", "_law_error", "e", "_law_kinds"] ["_law_call"] (xf w_):=yI
theorem wQ:xC ["_law_word", "_law_figures", "_law_number"] ["_law_word"] (xf zW):=yI
theorem yo:xC ["_law_rows", "_law_row", "_law_a", "_law_b", "_law_c", "_law_u", "_law_v", "_law_place"] ["_law_rows"] (xf zi):=yI
theorem fu:xC ["_law_text", "_law_rows"] ["_law_text"] (xf kD):=yI
theorem zy:xC ["_law_state_here", "_law_text", "_law_way", "_law_at", "_law_sign", "_law_cut", "_law_words", "_law_k"] ["_law_state_here", "_law_text"] (xf jh):=yI
theorem jw:xC ["_law_script", "_law_k", "_law_state_here", "_law_field_here", "_law_text", "_law_turn", "_law_due_here", "_law_odd"] ["_law_script"] (xf fU):=yI
abbrev bn:List Str:=["len", "range", "max", "min", "abs", "isinstance", "tuple", "list", "int", "bool", "str", "dict", "all", "zip", "enumerate", "ValueError", "any"]
section
variable {P:Program} {w:World} {K:PySem.W.Frag} {mg:Str→Option Value} {base:Heap} {f:Addr} {fd:FuncData}
theorem f_ (B:Blt mg bn)(F:Fun K "_law_cell_at" "_law_cell_at" vn f fd)(m:mg "_law_cell_at" = some (.ref f))(b:Binds K fd ["_law_script", "_law_k"] []):Own P w K mg base 1 "_law_cell_at" ["_law_script", "_law_k"] (xek K):=by
 refine dY F dS m b (fun vs H Q E h=>?_) (fun cdv A outer s H vs Q E hr h=>?_)
 ·obtain⟨a,ns,k,rfl,_⟩:=h
  rfl
 obtain⟨a,ns,k,rfl,hS,h63,h0,q⟩:=h
 refine⟨_,(xc (yA (xK xgE (pv 1) (xl (yD K) rfl (B.get "len") wk (xQ (pv 0) u9)) (xY _)) (xi (xG (wH (va K) (pv 0) (pv 1) (fun _ _=>rfl)))) xX)
  (xi (xG xg))),?_⟩
 refine⟨_,rfl,_,rfl,a,_,rfl,.inl hS,_,_,rfl,rfl,_,rfl,?_⟩
 have hl:(ns.map V.int).length=ns.length:=xkP _
 refine xiS (fun c=>?_) (fun c=>?_)
 ·have c':=xlV c
  rw[hl] at c'
  obtain⟨v,hv⟩:=xcO h0 c'
  exact⟨_,rfl,_,rfl,a,_,_,_,rfl,rfl,hS,hv,q v⟩
 ·exact q 0
theorem aY (F:Fun K "_law_state" "_law_state" qP f fd)(m:mg "_law_state" = some (.ref f))(b:Binds K fd ["_law_script", "_law_k"] [])(vi:Own P w K mg base 1 "_law_cell_at" ["_law_script", "_law_k"] (xek K)) :
  Own P w K mg base 2 "_law_state" ["_law_script", "_law_k"] (cg K):=by
 refine dY F jC m b (fun vs H Q E h=>?_) (fun cdv A outer s H vs Q E hr h=>?_)
 ·obtain⟨a,ns,k,rfl,_⟩:=h
  rfl
 obtain⟨a,ns,k,rfl,hS,h63,h0,q⟩:=h
 refine⟨_,(xc (ug (i:=2) jC.nd rfl (Or.inl rfl) (xq vi hr (xQ (pv 0) (xQ (pv 1) u9))))
  (xc (yA (xK xhS (pv 2) (xy xdy xg xg) (xY _)) (xi (xG (yX (xQ (xy zN (pv 2) (xy xdy xg xg)) (xQ uN u9))))) xX)
  (xi (xG (yX (xQ (xy ax (pv 2) xg) (xQ uN u9))))))),?_⟩
 refine⟨_,rfl,_,rfl,a,ns,k,rfl,hS,h63,h0,fun n=>?_⟩
 have pw:xi8 10 18:=⟨by decide,by decide,by decide⟩
 refine⟨_,rfl,_,_,rfl,rfl,pw,_,_,rfl,rfl,_,rfl,?_⟩
 refine xiS (fun c=>?_) (fun c=>?_)
 ·have c':n≥10 ^ (18:Int).toNat:=xlV c
  refine⟨_,rfl,_,_,rfl,rfl,pw,_,_,rfl,rfl,(by show 2≤sizeLine;decide),fun p hp=>q p _ _ hp ⟨?_,fun z=>by cases z⟩⟩
  show 0≤n-10 ^ (18:Int).toNat
  omega
 ·refine⟨_,rfl,_,_,rfl,rfl,(by show(0:Int)<2147483647;decide),(by show 2≤sizeLine;decide),fun p hp=>q p _ _ hp ⟨?_,fun _=>?_⟩⟩
  ·show 0≤n % 2147483647
   omega
  ·show n % 2147483647<2147483647
   omega
theorem tN (F:Fun K "_law_take" "_law_take" ja f fd)(m:mg "_law_take" = some (.ref f))(b:Binds K fd ["_law_state_here", "_law_many"] []):Own P w K mg base 1 "_law_take" ["_law_state_here", "_law_many"] xdF:=by
 refine dY F u4 m b (fun vs H Q E h=>?_) (fun cdv A outer s H vs Q E hr h=>?_)
 ·obtain⟨p,k,rfl,_⟩:=h
  rfl
 obtain⟨p,many,rfl,⟨n,bb,hp,hn,hb⟩,h0,h1,q⟩:=h
 refine⟨_,(xc (yA (yY (wH (va K) (pv 0) xg (fun _ _=>rfl))) (xc (ug (i:=2) u4.nd rfl (Or.inl rfl) (xy ax (wH (va K) (pv 0) xg (fun _ _=>rfl)) (pv 1)))
  (xc (kN (xy pC (wH (va K) (pv 0) xg (fun _ _=>rfl)) (pv 1)) (xa0 (pv 0) xg set_list))
  (xi (xG (pv 2))))) xX)
  (xc (kN (xy ax (xy zT (xy nQ (wH (va K) (pv 0) xg (fun _ _=>rfl)) xg) xg) xg) (xa0 (pv 0) xg set_list))
  (xc (ug (i:=3) u4.nd rfl (Or.inl rfl) (xy ax (xy zT (xy zT (xy nQ (wH (va K) (pv 0) xg (fun _ _=>rfl)) (wH (va K) (pv 0) xg (fun _ _=>rfl))) (xy nQ xg (wH (va K) (pv 0) xg (fun _ _=>rfl)))) xg) xg))
  (xc (ug (i:=3) u4.nd rfl (Or.inl rfl) (xy ax (xy zT (xy nQ (pv 3) (pv 3)) (xy nQ xg (pv 3))) xg))
  (xi (xG (xy ax (xy pC (pv 3) xg) (pv 1)))))))),?_⟩
 refine⟨_,rfl,p,_,_,_,rfl,rfl,SqL.of hp,rfl,bb,rfl,?_⟩
 have fin:∀(r n':Int),0≤r→r<many→xhL n' bb→Q (.int r) (upd H p (.lst [.int n',.bl bb])):=fun r n' h2 h3 h4=>q r _ h2 h3 ⟨fun b o hb k=>by rw[xW hb];exact k,n',bb,xZ,h4⟩
 cases bb with
 | true =>
  refine lV ?_
  refine⟨_,rfl,p,_,_,_,rfl,rfl,SqL.of hp,rfl,_,rfl,_,_,rfl,rfl,h0,?_⟩
  refine⟨_,rfl,p,_,_,_,rfl,rfl,SqL.of hp,rfl,_,rfl,_,_,rfl,rfl,dq h0 h1,?_⟩
  refine⟨_,rfl,p,_,_,0,rfl,rfl,hp,rfl,?_⟩
  refine⟨_,rfl,?_⟩
  exact fin _ _ (xjQ _ (by omega)) (xjP _ h0) ⟨Int.ediv_nonneg hn (by omega),fun z=>by cases z⟩
 | false =>
  refine bV ?_
  have hb':=hb rfl
  have cm:∀(i j:Int),0≤i→i<2147483700→xhE i j:=fun i j a b=>.inl ⟨by omega,by omega⟩
  refine⟨_,rfl,p,_,_,_,rfl,rfl,SqL.of hp,rfl,_,_,rfl,rfl,cm _ _ hn (by omega),_,_,rfl,rfl,_,_,rfl,rfl,(by show(0:Int)<2147483647;decide),?_⟩
  refine⟨_,rfl,p,_,_,0,rfl,rfl,hp,rfl,?_⟩
  have hz:∃z:Int,(n*48271+29) % 2147483647=z∧0≤z∧z<2147483647:=⟨_,rfl,by omega,by omega⟩
  obtain⟨z,ez,z0,z1⟩:=hz
  have hp':(upd H p (.lst [.int z,.bl false])) p=some (.lst [.int z,.bl false]):=xZ
  show xfX _ _ _ _ (upd H p (.lst [.int ((n*48271+29) % 2147483647),.bl false]))
  rw[ez]
  refine⟨_,rfl,p,_,_,_,rfl,rfl,SqL.of hp',rfl,_,rfl,p,_,_,_,rfl,rfl,SqL.of hp',rfl,_,_,rfl,rfl,cm _ _ z0 (by omega),?_⟩
  refine⟨_,rfl,p,_,_,_,rfl,rfl,SqL.of hp',rfl,_,_,rfl,rfl,.inl ⟨by decide,by decide⟩,_,_,rfl,rfl,_,_,rfl,rfl,_,_,rfl,rfl,(by show(0:Int)<2147483629;decide),?_⟩
  have hy:∃y:Int,(z*z+39373*z+7) % 2147483629=y∧0≤y∧y<2147483629:=⟨_,rfl,xjQ _ (by decide),xjP _ (by decide)⟩
  obtain⟨y,ey,y0,y1⟩:=hy
  show xfX _ _ _ [_,_,_,some (.int ((z*z+39373*z+7) % 2147483629))] _
  rw[ey]
  refine⟨_,rfl,_,rfl,_,_,rfl,rfl,cm _ _ y0 (by omega),_,rfl,_,_,rfl,rfl,.inl ⟨by decide,by decide⟩,_,_,rfl,rfl,_,_,rfl,rfl,(by show(0:Int)<2147483587;decide),?_⟩
  refine⟨_,rfl,_,_,rfl,rfl,dq (by decide) (by decide),_,rfl,_,_,rfl,rfl,h0,?_⟩
  exact fin _ _ (xjQ _ (by omega)) (xjP _ h0) ⟨z0,fun _=>z1⟩
end
end K91
namespace K91
open PySem L2 Tx NumText
open Builtin.Str (occurrences)
section
variable {P:Program} {w:World} {K:PySem.W.Frag} {mg:Str→Option Value} {base:Heap} {f:Addr} {fd:FuncData}
theorem bZ (B:Blt mg bn)(F:Fun K "is_whole" "is_whole" gu f fd)(m:mg "is_whole" = some (.ref f))(b:Binds K fd ["thing"] [])  :
  Own P w K mg base 1 "is_whole" ["thing"] (spT 1 false false xd4):=by
 refine xM F bO m b rfl (fun _ _ _ _ _ _ hr=>⟨_,_,
  (xi (xG (p7 (xl ze rfl (B.get "isinstance") xu (x8 (pv 0) (zF (v:=V.ty "int") rfl (B.get "int") tQ rfl))) (me (xhd (xl ze rfl (B.get "isinstance") xu (x8 (pv 0) (zF (v:=V.ty "bool") rfl (B.get "bool") ba rfl)))))))),
  (xA (rP (ve xa) (xey (ve xa)))),fun ts KK hl h=>?_⟩)
 obtain⟨t,rfl,k⟩:=h
 cases t<;>exact k
theorem nK (B:Blt mg bn)(F:Fun K "are_whole" "are_whole" vU f fd)(m:mg "are_whole" = some (.ref f))(b:Binds K fd ["things"] [])(j1:Own P w K mg base 1 "is_whole" ["thing"] (spT 1 false false xd4)) :
  Own P w K mg base 2 "are_whole" ["things"] (spT 1 false false tK):=by
 refine xM F mC m b rfl (fun _ _ _ _ _ _ hr=>⟨_,_,
  (xi (xG (xl (vF K rfl) rfl (B.get "all") tH (yn (yF (xT (N:=["thing"]) (tau:=[none]) (XN:=["things"]) (xs:=xf vU) (by decide +kernel) rfl rfl) rfl (yB rfl) (yy K (pv 0)) (fun _ _ _ _=>(xS (i:=0) (show(["thing"]:List Str).Nodup by decide +kernel) rfl (Or.inl rfl))) (fun _ _ _ _=>yM) (fun _ _ _ _=>(xq j1 hr (yn (pv 0))))))))),
  (xA (yb fM (xw (OkF.e (ya (yf xa).c xk yt (xR (xw xa))))))),fun ts KK hl h=>?_⟩)
 obtain⟨t,rfl,us,hs,hz,k⟩:=h
 rcases hs with rfl | rfl
 ·refine⟨hz,ko (fun x=>.bl (xfV x)) (fun x _ N hN=>⟨x,rfl,hN⟩) ⟨us.map xfV,by rw[xkZ];rfl,?_⟩⟩
  simpa using k
 ·refine⟨hz,ko (fun x=>.bl (xfV x)) (fun x _ N hN=>⟨x,rfl,hN⟩) ⟨us.map xfV,by rw[xkZ];rfl,?_⟩⟩
  simpa using k
theorem kX (B:Blt mg bn)(F:Fun K "greatest_divisor" "greatest_divisor" wG f fd)(m:mg "greatest_divisor" = some (.ref f))(b:Binds K fd ["one", "other"] [])  :
  Own P w K mg base 1 "greatest_divisor" ["one", "other"] (spT 2 false false xgM):=by
 refine xM F zX m b rfl (fun _ _ _ _ _ _ hr=>⟨_,_,
  (xc (pH (i:=0) (j:=1) rfl zX.nd rfl rfl (by decide) rfl rfl (x8 (xl zH rfl (B.get "abs") vM (yn (pv 0))) (xl zH rfl (B.get "abs") vM (yn (pv 1)))) (by rfl))
  (xc (oG PassesOwn.never (xK (uV hr.units) (pv 1) xg (xY _)) (xi (pH (i:=0) (j:=1) rfl zX.nd rfl rfl (by decide) rfl rfl (x8 (pv 1) (xy l9 (pv 0) (pv 1))) (by rfl))))
  (xi (xG (pv 0))))),
  (xj (rD (xN (yb vD (xw xa)) (yb vD (xw xa))))
  (xj (mz (xr (xh k8 xa xn)) (rD (xN xa (xh xd2 xa xa))))
  (xA xa))),fun ts KK hl h=>?_⟩)
 obtain⟨a,c,rfl,k⟩:=h
 refine nu (fun n τ=>∃x y:Int,τ=[.fz (.int x),.fz (.int y)]∧0≤x∧0≤y∧n=y.toNat∧Int.gcd x y=Int.gcd a c) c.natAbs ⟨_,_,rfl,by split<;>omega,by split<;>omega,by split<;>omega,?_⟩ ?_
 ·have e1:(if a<0 then -a else a)=(a.natAbs:Int):=by split<;>omega
  have e2:(if c<0 then -c else c)=(c.natAbs:Int):=by split<;>omega
  rw[e1,e2];simp[Int.gcd]
 ·rintro n τ N ⟨x,y,rfl,hx,hy,rfl,hg⟩ hN
  refine xU (b := !decide (y=0)) (fun c0=>?_) (fun c0=>?_)
  ·have c0:y≠0:=by simpa using c0
   have e:x.fmod y=x % y:=xcx hy
   have l:=xjP x (show 0<y by omega)
   have l0:=xjQ x c0
   refine⟨c0,hN (x % y).toNat _ (by omega) ⟨_,_,rfl,hy,by rw[e];exact l0,by rw[e],?_⟩⟩
   rw[e,←hg,xcs hx hy]
  ·have c0:y=0:=by simpa using c0
   subst c0
   have:(Int.gcd a c:Int)=x:=by rw[←hg];simp[Int.gcd];omega
   exact this▸k
theorem xaP (B:Blt mg bn)(F:Fun K "lowest" "lowest" aC f fd)(m:mg "lowest" = some (.ref f))(b:Binds K fd ["top", "bottom"] [])(ym:Own P w K mg base 1 "greatest_divisor" ["one", "other"] (spT 2 false false xgM)) :
  Own P w K mg base 2 "lowest" ["top", "bottom"] (spT 2 false false xjb):=by
 refine xM F tT m b rfl (fun _ _ _ _ _ _ hr=>⟨_,_,
  (xc (yL 2 tT.nd (xq ym hr (x8 (pv 0) (pv 1))))
  (xi (xG (yr (x8 (xy jq (pv 0) (pv 2)) (xy jq (pv 1) (pv 2))))))),
  (xj (xO (xR (xN xa xa)))
  (xA (yu (b:=true) (xN (xh dz xa xa) (xh dz xa xa))))),fun ts KK hl h=>?_⟩)
 obtain⟨t,bo,rfl,hb,bd,k⟩:=h
 have gp:(0:Int)<(Int.gcd t bo:Int):=by have:=xjU t hb;omega
 have gb:=xbC (t:=t) hb bd
 refine⟨t,bo,rfl,⟨by omega,gb⟩,⟨by omega,gb⟩,?_⟩
 show KK (.tup [.int (t.fdiv (Int.gcd t bo)),.int (bo.fdiv (Int.gcd t bo))])
 rw[u6 (by omega),u6 (by omega)]
 exact k
theorem dI (B:Blt mg bn)(F:Fun K "corners_left" "corners_left" vx f fd)(m:mg "corners_left" = some (.ref f))(b:Binds K fd ["rows"] [])(jm:Own P w K mg base 3 "places_of" ["piece"] (spT 1 false true mO))(qV:Own P w K mg base 5 "piece_left" ["rows"] (spT 1 false false sU)) :
  Own P w K mg base 6 "corners_left" ["rows"] (spT 1 false true gJ):=by
 refine xM F dH m b rfl (fun _ _ _ _ _ _ hr=>⟨_,_,
  (xi (xG (xq jm hr (yn (xq qV hr (yn (pv 0))))))),
  (fh (xeM (xw (xR (xw xa))))),fun ts KK hl h=>?_⟩)
 obtain⟨t,rows,rfl,ht,hr,k⟩:=h
 have sm:=hr.small rows.length
 have pl:=hr.plen rows.length
 rw[xlr (xlw _)] at sm pl
 exact⟨t,rows,rfl,ht,hr,_,rfl,sm,pl,k⟩
theorem aR (B:Blt mg bn)(F:Fun K "piece_left" "piece_left" q9 f fd)(m:mg "piece_left" = some (.ref f))(b:Binds K fd ["rows"] []){t_FAR:Tok}(sf:mg "FAR" = some (.int 60001 t_FAR))(j7:Own P w K mg base 4 "cut_down" ["piece", "rows"] (spT 2 false false pQ)) :
  Own P w K mg base 5 "piece_left" ["rows"] (spT 1 false false sU):=by
 refine xM F rR m b rfl (fun _ _ _ _ _ _ hr=>⟨_,_,
  (xi (xG (xq j7 hr (x8 (yX (xQ (yr (xQ (vX wB (zb (v:=V.int 60001) rfl sf ⟨_,rfl⟩)) (x8 (vX wB (zb (v:=V.int 60001) rfl sf ⟨_,rfl⟩)) xg))) (xQ (yr (xQ (zb (v:=V.int 60001) rfl sf ⟨_,rfl⟩) (x8 (vX wB (zb (v:=V.int 60001) rfl sf ⟨_,rfl⟩)) xg))) (x8 (yr (xQ (zb (v:=V.int 60001) rfl sf ⟨_,rfl⟩) (x8 (zb (v:=V.int 60001) rfl sf ⟨_,rfl⟩) xg))) (yr (xQ (vX wB (zb (v:=V.int 60001) rfl sf ⟨_,rfl⟩)) (x8 (zb (v:=V.int 60001) rfl sf ⟨_,rfl⟩) xg))))))) (pv 0))))),
  (xA (xR (xN (wa (b:=true) (xI (yu (b:=true) (xI (wo xn) (xN (wo xn) xn))) (xI (yu (b:=true) (xI xn (xN (wo xn) xn))) (xN (yu (b:=true) (xI xn (xN xn xn))) (yu (b:=true) (xI (wo xn) (xN xn xn))))))) xa))),fun ts KK hl h=>?_⟩)
 obtain⟨t,rows,rfl,ht,hr,k⟩:=h
 exact⟨t,[],rows,rfl,ht,hr,k⟩
theorem cG (B:Blt mg bn)(F:Fun K "cut_down" "cut_down" h_ f fd)(m:mg "cut_down" = some (.ref f))(b:Binds K fd ["piece", "rows"] [])(kZ:Own P w K mg base 3 "cut_piece" ["piece", "row"] (spT 2 false false fO)) :
  Own P w K mg base 4 "cut_down" ["piece", "rows"] (spT 2 false false pQ):=by
 refine xM F jb m b rfl (fun _ _ _ _ _ _ hr=>⟨_,_,
  (xc (ue PassesOwn.never rfl (yy K (pv 1)) (zJ 2 jb.nd) (xi (yL 0 jb.nd (xq kZ hr (x8 (pv 0) (pv 2))))))
  (xi (xG (pv 0)))),
  (xj (zE (yf xa) xk.g (xO (xR (xN xa xa))))
  (xA xa)),fun ts KK hl h=>?_⟩)
 obtain⟨t,r0,rows,rfl,ht,hr,k⟩:=h
 have tk:∀i,((r0++rows).take (r0.length+i)).foldl Pol.yP Pol.box=(rows.take i).foldl Pol.yP (Pol.pieces r0):=fun i=>by rw[List.take_append,xlr (by omega),show r0.length+i-r0.length=i by omega,xkw];rfl
 have main:xcl (eName 2) (xhJ 0 (xbj fO (rp (nX 0) (rp (nX 2) xdR)))) { nx:=xhI (nX 0) { nx:=fun x=>false=false∧KK Tr.non,rt:=KK },rt:=KK } (rows.map trR) [.fz (.lst ((Pol.pieces r0).map trR)),.fz t,.un]:=by
  refine wu (fun i τ=>∃x2,τ=[.fz (.lst (((rows.take i).foldl Pol.yP (Pol.pieces r0)).map trR)),.fz t,x2]) ⟨_,rfl⟩ ?_ ?_
  ·rintro i x τ N hx ⟨x2,rfl⟩ hN
   obtain⟨r,hri,rfl⟩:=qc hx
   rw[Pol.gy _ _ hri] at hN
   have sm:=hr.small (r0.length+i)
   have pl:=hr.plen (r0.length+i)
   rw[tk] at sm pl
   exact⟨_,r,rfl,hr.sm r (xk4 _ (xlc hri)),sm,pl,hN _ ⟨_,rfl⟩⟩
  ·rintro τ ⟨x2,rfl⟩
   rw[xkP,xlr (xlw _)]
   unfold Pol.pieces at k ⊢
   rw[xkw] at k
   exact k
 rcases ht with rfl | rfl<;>exact main
theorem nk (B:Blt mg bn)(F:Fun K "places_of" "places_of" v_ f fd)(m:mg "places_of" = some (.ref f))(b:Binds K fd ["piece"] [])(fc:Own P w K mg base 2 "lowest" ["top", "bottom"] (spT 2 false false xjb))(qO:Own P w K mg base 2 "from_least" ["piece"] (spT 1 false true ak)) :
  Own P w K mg base 3 "places_of" ["piece"] (spT 1 false true mO):=by
 refine xM F nV m b rfl (fun _ _ _ _ _ _ hr=>⟨_,_,
  (xi (xG (yF (xT (N:=["x", "y", "bottom"]) (tau:=[none,none,none]) (XN:=["piece"]) (xs:=xf v_) (by decide +kernel) rfl rfl) rfl (vJ (zd rfl (zd rfl (zd rfl j5)))) (yy K (xq qO hr (yn (pv 0)))) (fun _ _ _ _=>(zz K (n:=3) rfl (xH (xS (i:=0) (show(["x", "y", "bottom"]:List Str).Nodup by decide +kernel) rfl (Or.inl rfl)) (xH (xS (i:=1) (show(["x", "y", "bottom"]:List Str).Nodup by decide +kernel) rfl (Or.inl rfl)) (xH (xS (i:=2) (show(["x", "y", "bottom"]:List Str).Nodup by decide +kernel) rfl (Or.inl rfl)) za))))) (fun _ _ _ _=>yM) (fun _ _ _ _=>(yr (x8 (xq fc hr (x8 (pv 0) (pv 2))) (xq fc hr (x8 (pv 1) (pv 2))))))))),
  (fh (ya (yf (xR (xw xa))).c (zg (xx xk (xx xk (xx xk yO)))) yt (yu (b:=true) (xN (xR (xN xa xa)) (xR (xN xa xa)))))),fun ts KK hl h=>?_⟩)
 obtain⟨l,rfl,sm,pl,k⟩:=h
 refine⟨l,rfl,fun v hv=>(sm v hv).1.b3,pl,?_,?_⟩
 ·rw[xkP,vQ];exact sqz (by omega)
 ·refine ko (fun x=>match jc x with | some v=>wc v | none=>.non) (fun x hx N hN=>?_) ?_
  ·obtain⟨v,hv,rfl⟩:=xla.mp hx
   have hb:=sm v (wq hv)
   exact⟨rfl,_,_,rfl,by omega,hb.1.2.bd,_,_,rfl,by omega,hb.1.2.bd,hN⟩
  ·rw[xkZ];exact k
theorem nR (B:Blt mg bn)(F:Fun K "cut_piece" "cut_piece" ji f fd)(m:mg "cut_piece" = some (.ref f))(b:Binds K fd ["piece", "row"] [])(uL:Own P w K mg base 2 "where_crossed" ["row", "one", "other"] (spT 3 false false cT))(uw:Own P w K mg base 1 "beyond" ["row", "corner"] (spT 2 false false bU)) :
  Own P w K mg base 3 "cut_piece" ["piece", "row"] (spT 2 false false fO):=by
 refine xM F z_ m b rfl (fun _ _ _ _ _ _ hr=>⟨_,_,
  (xc (yL 2 z_.nd (yX u9))
  (xc (ue PassesOwn.never rfl (xaM K rfl (B.get "enumerate") (yn (pv 0))) (zz K (n:=2) rfl (xH (zJ 3 z_.nd) (xH (zJ 4 z_.nd) za))) (xc (yL 5 z_.nd (wH (yW K) (pv 0) (xy zN (pv 3) xg) (fun _ _=>rfl)))
  (xc (yA (xK (jy K hr.units) (xy xP (xq uw hr (x8 (pv 1) (pv 5))) (xq uw hr (x8 (pv 1) (pv 4)))) xg (xY _)) (xc (yL 6 z_.nd (xq uL hr (xQ (pv 1) (x8 (pv 5) (pv 4)))))
  (xi (yA (xK (bK hr.units) (pv 6) (pv 2) (by with_unfolding_all rfl)) (xi (vk (ur PySem.F.plainAttrs_list PySem.F.slot_list_append PySem.F.type_list_append uR (pv 2) (yn (pv 6))))) xX))) xX)
  (xi (yA (xK jj (xq uw hr (x8 (pv 1) (pv 4))) xg (xY _)) (xi (vk (ur PySem.F.plainAttrs_list PySem.F.slot_list_append PySem.F.type_list_append uR (pv 2) (yn (pv 4))))) xX)))))
  (xi (xG (pv 2))))),
  (xj (wF (hV uP))
  (xj (zE (cX (xw xa)) (zg (xx xk (xx xk yO))).g (xj (xO (kK xa (xh zQ xa xn)))
  (xj (yd (xr (xh jE (xh x_ (xR (xN xa xa)) (xR (xN xa xa))) xn)) (xj (xO (xR (xI xa (xN xa xa))))
  (yd (xr (xh lD xa kg)) (jl xa) xJ)) xJ)
  (yd (xr (xh jo (xR (xN xa xa)) xn)) (jl xa) xJ))))
  p_)),fun ts KK hl h=>?_⟩)
 obtain⟨l,r,rfl,hr,hl',hz,k⟩:=h
 refine wu (all:=k9 (l.map trR)) (fun i τ=>∃x3 x4 x5 x6,τ=[.fz (.lst (l.map trR)),.fz (trR r),.ow ((((Pol.cyc l).take i).foldl (Pol.yg r) []).map trR),x3,x4,x5,x6]∧(((Pol.cyc l).take i).foldl (Pol.yg r) []).length≤2*i)
  ⟨_,_,_,_,rfl,xlw _⟩ ?_ ?_
 ·rintro i x τ N hx ⟨x3,x4,x5,x6,rfl,hlen⟩ hN
  obtain⟨v,hv,rfl⟩:=om hx
  obtain⟨u,hu,hc,ha⟩:=lP hv
  have hvm:=xlc hv
  have hi:=(xkF.mp hv).1
  have fold:=Pol.gy (Pol.yg r) [] hc
  generalize hacc:((Pol.cyc l).take i).foldl (Pol.yg r) []=acc at fold hlen ⊢
  have leaf:∀(ts:List Tr) (y6:TV),ts=(Pol.yg r acc (u,v)).map trR→N [.fz (.lst (l.map trR)),.fz (trR r),.ow ts,.fz (.int i),.fz (trR v),.fz (trR u),y6]:=fun ts y6 e=>by
   rw[fold] at hN
   refine hN _ ⟨_,_,_,y6,by rw[e],?_⟩
   ·have:=Pol.oz r acc (u,v)
    have s2:(Pol.seg r (u,v)).length≤2:=by unfold Pol.seg;split<;>split<;>simp
    omega
  have bu:=hl' u hu
  have bv:=hl' v hvm
  have len0:∀n:Nat,n≤acc.length+1→n<sizeLine:=fun n hn=>sqz (by omega)
  refine⟨rfl,?_⟩
  show lU (atT (l.map trR) ((i:Int)-1)) _
  rw[ha]
  refine⟨r,u,rfl,hr.b3,bu.1.b3,r,v,rfl,hr.b3,bv.1.b3,⟨(hr.val bu.1).bd,(hr.val bv.1).bd⟩,?_⟩
  refine xU (b:=decide (Pol.val r u*Pol.val r v<0)) (fun c=>?_) (fun c=>?_)
  ·have c:=xlV c
   refine⟨r,u,v,rfl,⟨hr,bu.1,bv.1⟩,⟨bu.2,bv.2⟩,c,⟨bf _,uE trR bf acc,(by show(1:Nat)≤60;decide)⟩,?_⟩
   refine xU (b := !((acc.map trR).any fun t=>teq t (trR (Pol.xo r u v)))) (fun d=>?_) (fun d=>?_)
   ·rw[xb7] at d
    have d:Pol.xo r u v∉acc:=by simpa using d
    refine⟨len0 _ (by simp),r,v,rfl,hr.b3,bv.1.b3,?_⟩
    refine xU (b:=decide (Pol.val r v≤0)) (fun e=>?_) (fun e=>?_)
    ·have e:=xlV e
     exact⟨len0 _ (by simp),leaf _ _ (by simp[Pol.yg,c,d,e])⟩
    ·have e:=xlU e
     exact leaf _ _ (by simp[Pol.yg,c,d,e])
   ·rw[xb7] at d
    have d:Pol.xo r u v∈acc:=by simpa using d
    refine⟨r,v,rfl,hr.b3,bv.1.b3,?_⟩
    refine xU (b:=decide (Pol.val r v≤0)) (fun e=>?_) (fun e=>?_)
    ·have e:=xlV e
     exact⟨len0 _ (by simp),leaf _ _ (by simp[Pol.yg,c,d,e])⟩
    ·have e:=xlU e
     exact leaf _ _ (by simp[Pol.yg,c,d,e])
  ·have c:=xlU c
   refine⟨r,v,rfl,hr.b3,bv.1.b3,?_⟩
   refine xU (b:=decide (Pol.val r v≤0)) (fun e=>?_) (fun e=>?_)
   ·have e:=xlV e
    exact⟨len0 _ (by simp),leaf _ _ (by simp[Pol.yg,c,e])⟩
   ·have e:=xlU e
    exact leaf _ _ (by simp[Pol.yg,c,e])
 ·rintro τ ⟨x3,x4,x5,x6,rfl,hlen⟩
  rw[pV,xlr (by rw[Pol.xfE];exact xlw _)]
  exact k
theorem xai (B:Blt mg bn)(F:Fun K "beyond" "beyond" tw f fd)(m:mg "beyond" = some (.ref f))(b:Binds K fd ["row", "corner"] [])  :
  Own P w K mg base 1 "beyond" ["row", "corner"] (spT 2 false false bU):=by
 refine xM F uQ m b rfl (fun _ _ _ _ _ _ hr=>⟨_,_,
  (xc (kN (pv 0) (zz K (n:=3) rfl (xH (zJ 2 uQ.nd) (xH (zJ 3 uQ.nd) (xH (zJ 4 uQ.nd) za)))))
  (xc (kN (pv 1) (zz K (n:=3) rfl (xH (zJ 5 uQ.nd) (xH (zJ 6 uQ.nd) (xH (zJ 7 uQ.nd) za)))))
  (xi (xG (xy zN (xy zT (xy xP (pv 2) (pv 5)) (xy xP (pv 3) (pv 6))) (xy xP (pv 4) (pv 7))))))),
  (xj (qx xa (zg (xx xk (xx xk (xx xk yO)))).g)
  (xj (qx xa (zg (xx xk (xx xk (xx xk yO)))).g)
  (xA (xh zQ (xh uu (xh x_ xa xa) (xh x_ xa xa)) (xh x_ xa xa))))),fun ts KK hl h=>?_⟩)
 obtain⟨r,p,rfl,hr,hp,k⟩:=h
 exact⟨rfl,rfl,⟨hr.1.1,hp.1.1⟩,⟨hr.1.2,hp.1.2⟩,⟨hr.2,hp.2⟩,k⟩
theorem gP (B:Blt mg bn)(F:Fun K "where_crossed" "where_crossed" wC f fd)(m:mg "where_crossed" = some (.ref f))(b:Binds K fd ["row", "one", "other"] [])(ym:Own P w K mg base 1 "greatest_divisor" ["one", "other"] (spT 2 false false xgM))(uw:Own P w K mg base 1 "beyond" ["row", "corner"] (spT 2 false false bU)) :
  Own P w K mg base 2 "where_crossed" ["row", "one", "other"] (spT 3 false false cT):=by
 refine xM F yC m b rfl (fun _ _ _ _ _ _ hr=>⟨_,_,
  (xc (kN (yr (x8 (xl zH rfl (B.get "abs") vM (yn (xq uw hr (x8 (pv 0) (pv 1))))) (xl zH rfl (B.get "abs") vM (yn (xq uw hr (x8 (pv 0) (pv 2))))))) (zz K (n:=2) rfl (xH (xS (i:=3) yC.nd rfl (Or.inr rfl)) (xH (xS (i:=4) yC.nd rfl (Or.inr rfl)) za))))
  (xc (kN (yF (xT (N:=["here", "there", "other_off", "one_off"]) (tau:=[none,none,some 4,some 3]) (XN:=["row", "one", "other", "one_off", "other_off", "x", "y", "bottom", "shared"]) (xs:=xf wC) (by decide +kernel) rfl rfl) rfl (vJ (zd rfl (zd rfl j5))) (xbJ K rfl (B.get "zip") (x8 (pv 1) (pv 2))) (fun _ _ _ _=>(zz K (n:=2) rfl (xH (xS (i:=0) (show(["here", "there", "other_off", "one_off"]:List Str).Nodup by decide +kernel) rfl (Or.inl rfl)) (xH (xS (i:=1) (show(["here", "there", "other_off", "one_off"]:List Str).Nodup by decide +kernel) rfl (Or.inl rfl)) za)))) (fun _ _ _ _=>yM) (fun _ _ _ _=>(xy zT (xy xP (pv 2) (pv 0)) (xy xP (pv 3) (pv 1))))) (xfo K (n:=3) rfl (xH (zJ 5 yC.nd) (xH (zJ 6 yC.nd) (xH (zJ 7 yC.nd) za)))))
  (xc (yL 8 yC.nd (xq ym hr (x8 (xq ym hr (x8 (pv 5) (pv 6))) (pv 7))))
  (xi (xG (yr (xQ (xy jq (pv 5) (pv 8)) (x8 (xy jq (pv 6) (pv 8)) (xy jq (pv 7) (pv 8)))))))))),
  (xj (qx (yu (b:=true) (xN (yb vD (xw (xR (xN xa xa)))) (yb vD (xw (xR (xN xa xa)))))) (zg (xx xk (xx xk yO))).g)
  (xj (qx (OkF.e (ya (pL (xN xa xa)).c (zg (xx xk (xx xk yO))) yt (xh uu (xh x_ xa xa) (xh x_ xa xa)))) (xeU (xx xk (xx xk (xx xk yO)))).g)
  (xj (xO (xR (xN (xR (xN xa xa)) xa)))
  (xA (yu (b:=true) (xI (xh dz xa xa) (xN (xh dz xa xa) (xh dz xa xa)))))))),fun ts KK hl h=>?_⟩)
 obtain⟨r,u,v,rfl,⟨hr,hu,hv⟩,⟨zu,zv⟩,hn,k⟩:=h
 have au:Bk 1000 (Pol.abs (Pol.val r u)):=((hr.val hu).mono (by decide)).abs
 have av:Bk 1000 (Pol.abs (Pol.val r v)):=((hr.val hv).mono (by decide)).abs
 have cu:∀ {i},Bk 800 i→CM (Pol.abs (Pol.val r v)) i:=fun h=>⟨av.bd,h.bd⟩
 have cv:∀ {i},Bk 800 i→CM (Pol.abs (Pol.val r u)) i:=fun h=>⟨au.bd,h.bd⟩
 obtain⟨b,_,_,_⟩:=Pol.kF zu zv hn
 have wz:0<(Pol.cw r u v).2.2:=by
  have h1:=Pol.pp b.pa zu
  have h2:=Pol.pp b.pb zv
  show 0<Pol.abs (Pol.val r v)*u.2.2+Pol.abs (Pol.val r u)*v.2.2
  omega
 have wb:Bd (Pol.cw r u v).2.2:=((av.mul hu.2).add (au.mul hv.2)).bd
 have gp:=Pol.kA wz
 have gb:Bd (Pol.uW (Pol.cw r u v):Int):=xbC (by omega) wb
 refine⟨r,u,rfl,hr.b3,hu.b3,r,v,rfl,hr.b3,hv.b3,rfl,sqz (show(3:Nat)≤1000000 by decide),rfl,cu hu.1.1,cv hv.1.1,rfl,cu hu.1.2,cv hv.1.2,rfl,cu hu.2,cv hv.2,rfl,_,_,rfl,_,_,rfl,⟨?_,gb⟩,⟨?_,gb⟩,⟨?_,gb⟩,?_⟩
 ·show(Pol.uW (Pol.cw r u v):Int)≠0;omega
 ·show(Pol.uW (Pol.cw r u v):Int)≠0;omega
 ·show(Pol.uW (Pol.cw r u v):Int)≠0;omega
 show KK (.tup [.int ((Pol.cw r u v).1.fdiv (Pol.uW (Pol.cw r u v))),.int ((Pol.cw r u v).2.1.fdiv (Pol.uW (Pol.cw r u v))),.int ((Pol.cw r u v).2.2.fdiv (Pol.uW (Pol.cw r u v)))])
 rw[u6 (by omega),u6 (by omega),u6 (by omega)]
 exact k
theorem aL (B:Blt mg bn)(F:Fun K "from_least" "from_least" qT f fd)(m:mg "from_least" = some (.ref f))(b:Binds K fd ["piece"] [])(j3:Own P w K mg base 1 "is_ahead" ["one", "other"] (spT 2 false false xd0)) :
  Own P w K mg base 2 "from_least" ["piece"] (spT 1 false true ak):=by
 refine xM F wI m b rfl (fun _ _ _ _ _ _ hr=>⟨_,_,
  (xc (yL 1 wI.nd xg)
  (xc (ue PassesOwn.never rfl (xaM K rfl (B.get "enumerate") (yn (pv 0))) (zz K (n:=2) rfl (xH (zJ 2 wI.nd) (xH (zJ 3 wI.nd) za))) (xi (yA (yY (xq j3 hr (x8 (pv 3) (wH (yW K) (pv 0) (pv 1) (fun _ _=>rfl))))) (xi (yL 1 wI.nd (pv 2))) xX)))
  (xi (xG (xy sC (yS (fj K) (pv 0) (zm (pv 1)) zt) (yS (fj K) (pv 0) zt (zm (pv 1)))))))),
  (xj (xO xn)
  (xj (zE (cX (xw xa)) (zg (xx xk (xx xk yO))).g (yd (yG (xR (xN xa (kK xa xa)))) (xO xa) xJ))
  (fh (bJ (xem xa (yT xa) yU) (xem xa yU (yT xa)))))),fun ts KK hl h=>?_⟩)
 obtain⟨l,rfl,hl',hz,k⟩:=h
 refine wu (all:=k9 (l.map trR)) (fun i τ=>∃x2 x3,τ=[.fz (.lst (l.map trR)),.fz (.int ((List.range i).foldl (ye l) 0:Nat)),x2,x3]∧((List.range i).foldl (ye l) 0<l.length∨l=[]))
  ⟨_,_,rfl,?_⟩ ?_ ?_
 ·cases l with
  | nil=>exact .inr rfl
  | cons a t=>exact .inl (by simp)
 ·rintro i x τ N hx ⟨x2,x3,rfl,hlen⟩ hN
  obtain⟨v,hv,rfl⟩:=om hx
  have hvm:=xlc hv
  have hi:=(xkF.mp hv).1
  have fold:(List.range (i+1)).foldl (ye l) 0=ye l ((List.range i).foldl (ye l) 0) i:=by rw[xll,xkw];rfl
  generalize hs:(List.range i).foldl (ye l) 0=s at fold hlen ⊢
  have hs':s<l.length:=hlen.resolve_right (fun z=>by rw[z] at hi;simp at hi)
  have eu:atT (l.map trR) (s:Int)=some (trR l[s]):=by rw[aZ,xkG,xkD hs'];rfl
  refine⟨rfl,?_⟩
  show lU (atT (l.map trR) (s:Int)) _
  rw[eu]
  have ev:l.getD i (0,0,0)=v:=by rw[xkz,hv];rfl
  have es:l.getD s (0,0,0)=l[s]:=by rw[xkz,xkD hs'];rfl
  refine⟨v,l[s],rfl,hl' _ hvm,hl' _ (xkJ hs'),?_⟩
  refine xU (b:=ahead v l[s]) (fun c=>?_) (fun c=>?_)
  ·have f2:ye l s i=i:=by unfold ye;rw[ev,es,if_pos c]
   rw[fold,f2] at hN
   exact hN _ ⟨_,_,rfl,.inl hi⟩
  ·have c':¬ahead v l[s]=true:=by rw[c];exact xjJ
   have f2:ye l s i=s:=by unfold ye;rw[ev,es,if_neg c']
   rw[fold,f2] at hN
   exact hN _ ⟨_,_,rfl,.inl hs'⟩
 ·rintro τ ⟨x2,x3,rfl,hlen⟩
  rw[pV]
  show(fV (l.map trR) (some ((vR l:Nat):Int)) none).length+(fV (l.map trR) none (some ((vR l:Nat):Int))).length≤sizeLine∧KK (.lst (fV (l.map trR) (some ((vR l:Nat):Int)) none++fV (l.map trR) none (some ((vR l:Nat):Int))))
  rw[tz,oa]
  refine⟨xhF (by simp;omega),?_⟩
  unfold yi at k
  rw[xkV,xkY,xk1] at k
  exact k
theorem bH (B:Blt mg bn)(F:Fun K "is_ahead" "is_ahead" gw f fd)(m:mg "is_ahead" = some (.ref f))(b:Binds K fd ["one", "other"] [])  :
  Own P w K mg base 1 "is_ahead" ["one", "other"] (spT 2 false false xd0):=by
 refine xM F bx m b rfl (fun _ _ _ _ _ _ hr=>⟨_,_,
  (xi (xG (zA (jy K hr.units) (yr (x8 (xy xP (xD K 0) (xD K 1)) (xy xP (xD K 0) (xD K 1)))) (yr (x8 (xy xP (xD K 1) (xD K 0)) (xy xP (xD K 1) (xD K 0)))) (xY _)))),
  (xA (xh jE (yu (b:=true) (xN (xh x_ xE xE) (xh x_ xE xE))) (yu (b:=true) (xN (xh x_ xE xE) (xh x_ xE xE))))),fun ts KK hl h=>?_⟩)
 obtain⟨p,q,rfl,hp,hq,k⟩:=h
 refine⟨⟨hp.1.1,hq.2⟩,⟨hp.1.2,hq.2⟩,⟨hq.1.1,hp.2⟩,⟨hq.1.2,hp.2⟩,[p.1*q.2.2,p.2.1*q.2.2],[q.1*p.2.2,q.2.1*p.2.2],rfl,rfl,?_⟩
 rw[xhh]
 exact k
theorem xa3 (B:Blt mg bn)(F:Fun K "is_row" "is_row" rz f fd)(m:mg "is_row" = some (.ref f))(b:Binds K fd ["thing"] [])(kW:Own P w K mg base 2 "are_whole" ["things"] (spT 1 false false tK)) :
  Own P w K mg base 3 "is_row" ["thing"] (spT 1 false false xdM):=by
 refine xM F xa1 m b rfl (fun _ _ _ _ _ _ hr=>⟨_,_,
  (xc (yA (PW.pt (je (wD (yY (xl ze rfl (B.get "isinstance") xu (x8 (pv 0) (zF (v:=V.ty "tuple") rfl (B.get "tuple") zV rfl))))) (je (xK (uV hr.units) (xl (yD K) rfl (B.get "len") wk (yn (pv 0))) xg (xY _)) (vH (wD (yY (xq kW hr (yn (pv 0))))))))) (xi (xG uN)) xX)
  (xi (xG (xgj (zA (uV hr.units) (xD K 0) xg (xY _)) (me (zA (uV hr.units) (xD K 0) xg (xY _))))))),
  (xj (yd (uT (y8 (yG (ve xa))) (uT (xr (xh k8 (yb vc (xw xa)) xn)) (y8 (yG (xR (xw xa)))))) (xA vg) xJ)
  (xA (xd9 (xh k8 xE xn) (xh k8 xE xn)))),fun ts KK hl h=>?_⟩)
 obtain⟨t,rfl,k⟩:=h
 cases t with
 | tup us =>
  refine xU (b := !decide ((us.length:Int)=3)) (fun c=>?_) (fun c=>?_)
  ·have c:¬(us.length:Int)=3:=by simpa using c
   have e:vN (.tup us)=false:=by
    unfold vN
    cases e:jc (.tup us) with
    | none=>rfl
    | some r =>
     have:=uA e
     unfold trR at this
     injection this with this
     rw[this] at c
     exact absurd rfl c
   rw[e] at k
   exact k
  ·have c:us.length=3:=by simp at c;omega
   obtain⟨x,y,z,rfl⟩:∃x y z,us=[x,y,z]:=by
    match us,c with
    | [x,y,z],_=>exact⟨x,y,z,rfl⟩
   refine⟨_,rfl,_,.inl rfl,xaI c,?_⟩
   cases x with
   | int a =>
    cases y with
    | int b =>
     cases z with
     | int d =>
      show if (!decide (a=0))=true then KK (.bl true) else KK (.bl (!decide (b=0)))
      by_cases ha:a=0<;>by_cases hb:b=0<;>simp[ha,hb,vN,jc] at k ⊢<;>exact k
     | _=>exact k
    | _=>exact k
   | _=>exact k
 | _=>exact k
theorem lG (B:Blt mg bn)(F:Fun K "turn_to" "turn_to" fK f fd)(m:mg "turn_to" = some (.ref f))(b:Binds K fd ["one", "other"] [])  :
  Own P w K mg base 1 "turn_to" ["one", "other"] (spT 2 false false xcS):=by
 refine xM F lQ m b rfl (fun _ _ _ _ _ _ hr=>⟨_,_,
  (xi (xG (xy zN (xy xP (xD K 0) (xD K 1)) (xy xP (xD K 0) (xD K 1))))),
  (xA (xh zQ (xh x_ xE xE) (xh x_ xE xE))),fun ts KK hl h=>?_⟩)
 obtain⟨a,b,c,d,x,y,rfl,hb,k⟩:=h
 exact⟨⟨hb.1.1,hb.2.2⟩,⟨hb.1.2,hb.2.1⟩,k⟩
theorem bh (B:Blt mg bn)(F:Fun K "go_round" "go_round" hU f fd)(m:mg "go_round" = some (.ref f))(b:Binds K fd ["rows"] [])(kC:Own P w K mg base 2 "furthest" ["first", "rows", "sign"] (spT 3 false false t8))(v5:Own P w K mg base 2 "points_back" ["first", "rows"] (spT 2 false false xgn))(zR:Own P w K mg base 1 "turn_to" ["one", "other"] (spT 2 false false xcS)) :
  Own P w K mg base 3 "go_round" ["rows"] (spT 1 false false p9):=by
 refine xM F qf m b rfl (fun _ _ _ _ _ _ hr=>⟨_,_,
  (xc (yA (xK (we hr.units) (xl (yD K) rfl (B.get "len") wk (yn (pv 0))) xg (xY _)) (xi (xG uN)) xX)
  (xc (yL 1 qf.nd (xD K 0))
  (xc (yL 2 qf.nd (xq kC hr (xQ (pv 1) (x8 (pv 0) xg))))
  (xc (yL 3 qf.nd (xq kC hr (xQ (pv 1) (x8 (pv 0) (vX wB xg)))))
  (xc (yA (PW.pt (je (tP (cY (pv 2))) (vH (tP (cY (pv 3)))))) (xi (xG uN)) xX)
  (xi (xG (xgj (zA bB (xq zR hr (x8 (pv 2) (pv 3))) xg (xY _)) (me (xq v5 hr (x8 (pv 1) (pv 0)))))))))))),
  (xj (yd (xr (xh os_eq (yb vc (xw xa)) xn)) (xA vg) xJ)
  (xj (xO xE)
  (xj (xO (xR (xI xa (xN xa xn))))
  (xj (xO (xR (xI xa (xN xa (wo xn)))))
  (xj (yd (uT (yG (oW xa)) (yG (oW xa))) (xA vg) xJ)
  (xA (xd9 (xh cD (xR (xN xa xa)) xn) (xR (xN xa xa))))))))),fun ts KK hl h=>?_⟩)
 obtain⟨rows,rfl,hx,k⟩:=h
 cases rows with
 | nil=>exact k
 | cons r t =>
  have hr:=hx r xk7
  refine⟨r,r::t,1,rfl,.inl rfl,hr,hx,r,r::t,-1,rfl,.inr rfl,hr,hx,?_⟩
  have e:Pol.zj (r::t)=match Pol.far r 1 (r::t),Pol.far r (-1) (r::t) with
   | some l,some k=>decide (0<Pol.turn l k) || Pol.back r (r::t)
   | _,_=>false:=rfl
  rw[e] at k
  cases e1:Pol.far r 1 (r::t) with
  | none=>rw[e1] at k;exact k
  | some l =>
   cases e2:Pol.far r (-1) (r::t) with
   | none=>rw[e1,e2] at k;exact k
   | some q =>
    rw[e1,e2] at k
    have hl2:=hx l (Pol.km e1).mem
    have hq2:=hx q (Pol.km e2).mem
    refine⟨l.1,l.2.1,q.1,q.2.1,_,_,rfl,⟨⟨hl2.1.1.bd,hl2.1.2.bd⟩,hq2.1.1.bd,hq2.1.2.bd⟩,?_⟩
    have k:KK (.bl (decide (0<Pol.turn l q) || Pol.back r (r::t))):=k
    refine xU (b:=decide (0<Pol.turn l q)) (fun c=>?_) (fun c=>?_)
    ·rw[c] at k;exact k
    ·rw[c,Bool.false_or] at k
     exact⟨r,r::t,rfl,hr,hx,k⟩
theorem cM (B:Blt mg bn)(F:Fun K "furthest" "furthest" hJ f fd)(m:mg "furthest" = some (.ref f))(b:Binds K fd ["first", "rows", "sign"] [])(zR:Own P w K mg base 1 "turn_to" ["one", "other"] (spT 2 false false xcS)) :
  Own P w K mg base 2 "furthest" ["first", "rows", "sign"] (spT 3 false false t8):=by
 refine xM F qg m b rfl (fun _ _ _ _ _ _ hr=>⟨_,_,
  (xc (yL 3 qg.nd gA)
  (xc (ue PassesOwn.never rfl (yy K (pv 1)) (zJ 4 qg.nd) (xi (yA (PW.pt (fo (xK bB (xy xP (pv 2) (xq zR hr (x8 (pv 0) (pv 4)))) xg (xY _)) (k_ (PW.pt (je (tP (cY (pv 3))) (vH (xK bB (xy xP (pv 2) (xq zR hr (x8 (pv 3) (pv 4)))) xg (xY _)))))))) (xi (yL 3 qg.nd (pv 4))) xX)))
  (xi (xG (pv 3))))),
  (xj (xO (vp (t:=Tr.non)))
  (xj (zE (yf xa) xk.g (yd (k7 (xr (xh cD (xh x_ xa (xR (xN xa xa))) xn)) (uT (yG (oW xa)) (xr (xh cD (xh x_ xa (xR (xN xa xa))) xn)))) (xO xa) xJ))
  (xA xa))),fun ts KK hl h=>?_⟩)
 obtain⟨r,rows,s,rfl,hs,hr,hx,k⟩:=h
 have tb:∀ {p q:Pol.R3},B3k 900 p→B3k 900 q→Bk 1801 (Pol.turn p q):=fun hp hq=>(hp.1.1.mul hq.1.2).sub (hp.1.2.mul hq.1.1)
 have sb:Bd s:=by rcases hs with rfl | rfl<;>exact cj (by decide) (by decide)
 refine wu (all:=rows.map trR) (fun i τ=>∃x4,τ=[.fz (trR r),.fz (.tup (rows.map trR)),.fz (.int s),.fz (xh3 ((rows.take i).foldl (Pol.wA r s) none)),x4]∧∀y,(rows.take i).foldl (Pol.wA r s) none=some y→B3k 900 y) ⟨_,rfl,fun y hy=>by cases hy⟩ ?_ ?_
 ·rintro i x τ N hxi ⟨x4,rfl,hb⟩ hN
  obtain⟨y,hyi,rfl⟩:=qc hxi
  have hy:=hx y (xlc hyi)
  have fold:=Pol.gy (Pol.wA r s) none hyi
  generalize hacc:(rows.take i).foldl (Pol.wA r s) none=acc at fold hb ⊢
  have leaf:∀o:Option Pol.R3,o=Pol.wA r s acc y→N [.fz (trR r),.fz (.tup (rows.map trR)),.fz (.int s),.fz (xh3 o),.fz (trR y)]:=fun o e=>by
   rw[fold] at hN
   refine hN _ ⟨_,by rw[e],?_⟩
   ·unfold Pol.wA
    split
    ·intro z hz;cases hz;exact hy
    ·exact hb
  refine⟨r.1,r.2.1,y.1,y.2.1,_,_,rfl,⟨⟨hr.1.1.bd,hr.1.2.bd⟩,hy.1.1.bd,hy.1.2.bd⟩,⟨sb,(tb hr hy).bd⟩,?_⟩
  refine xU (b:=decide (0<s*Pol.turn r y)) (fun c=>?_) (fun c=>?_)
  ·have c:=xlV c
   cases acc with
   | none=>exact leaf (some y) (by unfold Pol.wA;rw[if_pos ⟨c,rfl⟩])
   | some z =>
    have hz:=hb z rfl
    refine⟨z.1,z.2.1,y.1,y.2.1,_,_,rfl,⟨⟨hz.1.1.bd,hz.1.2.bd⟩,hy.1.1.bd,hy.1.2.bd⟩,⟨sb,(tb hz hy).bd⟩,?_⟩
    refine xU (b:=decide (0<s*Pol.turn z y)) (fun d=>?_) (fun d=>?_)
    ·exact leaf (some y) (by unfold Pol.wA;rw[if_pos ⟨c,d⟩])
    ·refine leaf (some z) ?_
     unfold Pol.wA
     rw[if_neg (fun w=>by have w2:decide (0<s*Pol.turn z y)=true:=w.2;rw[d] at w2;cases w2)]
  ·have c:=xlU c
   exact leaf acc (by unfold Pol.wA;rw[if_neg fun w=>c w.1])
 ·rintro τ ⟨x4,rfl,_⟩
  rw[xkP,xlr (xlw _)]
  exact k
theorem sk (B:Blt mg bn)(F:Fun K "points_back" "points_back" qd f fd)(m:mg "points_back" = some (.ref f))(b:Binds K fd ["first", "rows"] [])(zR:Own P w K mg base 1 "turn_to" ["one", "other"] (spT 2 false false xcS)) :
  Own P w K mg base 2 "points_back" ["first", "rows"] (spT 2 false false xgn):=by
 refine xM F kQ m b rfl (fun _ _ _ _ _ _ hr=>⟨_,_,
  (xc (ue PassesOwn.never rfl (yy K (pv 1)) (zJ 2 kQ.nd) (xi (yA (PW.pt (fo (xK (we hr.units) (xq zR hr (x8 (pv 0) (pv 2))) xg (xY _)) (k_ (xK (jy K hr.units) (xy zT (xy xP (xD K 0) (xD K 2)) (xy xP (xD K 0) (xD K 2))) xg (xY _))))) (xi (xG uN)) xX)))
  (xi (xG uN))),
  (xj (zE (yf xa) xk.g (yd (k7 (xr (xh os_eq (xR (xN xa xa)) xn)) (xr (xh jE (xh uu (xh x_ xE xE) (xh x_ xE xE)) xn))) (xA vg) xJ))
  (xA vg)),fun ts KK hl h=>?_⟩)
 obtain⟨r,rows,rfl,hr,hx,k⟩:=h
 refine wu (all:=rows.map trR) (fun i τ=>∃x2,τ=[.fz (trR r),.fz (.tup (rows.map trR)),x2]∧∀y∈rows.take i,¬(Pol.turn r y=0∧Pol.dot r y<0)) ⟨_,rfl,fun y hy=>by simp at hy⟩ ?_ ?_
 ·rintro i x τ N hxi ⟨x2,rfl,hb⟩ hN
  obtain⟨y,hyi,rfl⟩:=qc hxi
  have hym:=xlc hyi
  have hy:=hx y hym
  have leaf:¬(Pol.turn r y=0∧Pol.dot r y<0)→N [.fz (trR r),.fz (.tup (rows.map trR)),.fz (trR y)]:=fun c=>hN _ ⟨_,rfl,fun z hz=>by
   rw[xls,hyi] at hz
   rcases xk2.mp hz with q | q
   ·exact hb z q
   ·have:z=y:=by simpa using q
    rw[this];exact c⟩
  refine⟨r.1,r.2.1,y.1,y.2.1,_,_,rfl,⟨⟨hr.1.1.bd,hr.1.2.bd⟩,hy.1.1.bd,hy.1.2.bd⟩,?_⟩
  refine xU (b:=decide (Pol.turn r y=0)) (fun c=>?_) (fun c=>?_)
  ·have c:=xlV c
   refine⟨⟨hr.1.1.bd,hy.1.1.bd⟩,⟨hr.1.2.bd,hy.1.2.bd⟩,?_⟩
   refine xU (b:=decide (Pol.dot r y<0)) (fun d=>?_) (fun d=>?_)
   ·have d:=xlV d
    have:Pol.back r rows=true:=by unfold Pol.back;rw[xkl];exact⟨y,hym,by simp[c,d]⟩
    rw[this] at k
    exact k
   ·have d:=xlU d
    exact leaf fun w=>d w.2
  ·have c:=xlU c
   exact leaf fun w=>c w.1
 ·rintro τ ⟨x2,rfl,hb⟩
  rw[xkP,xlr (xlw _)] at hb
  have:Pol.back r rows=false:=by
   unfold Pol.back
   rw[xkk]
   intro y hy w
   simp at w
   exact hb y hy w
  rw[this] at k
  exact k
theorem bp (B:Blt mg bn)(F:Fun K "is_field" "is_field" vA f fd)(m:mg "is_field" = some (.ref f))(b:Binds K fd ["thing"] [])(hX:Own P w K mg base 3 "go_round" ["rows"] (spT 1 false false p9))(fR:Own P w K mg base 1 "is_near" ["place"] (spT 1 false false xau))(vv:Own P w K mg base 6 "corners_left" ["rows"] (spT 1 false true gJ))(vz:Own P w K mg base 4 "is_field_row" ["thing"] (spT 1 false false dO)) :
  Own P w K mg base 7 "is_field" ["thing"] (spT 1 false false aD):=by
 refine xM F bR m b rfl (fun _ _ _ _ _ _ hr=>⟨_,_,
  (xc (yA (PW.pt (je (wD (yY (xl ze rfl (B.get "isinstance") xu (x8 (pv 0) (zF (v:=V.ty "tuple") rfl (B.get "tuple") zV rfl))))) (vH (wD (gX jj jj xg (xl (yD K) rfl (B.get "len") wk (yn (pv 0))) xg))))) (xi (xG uN)) xX)
  (xc (yA (PW.pt (je (wD (yY (xl (vF K rfl) rfl (B.get "all") tH (yn (yF (xT (N:=["row"]) (tau:=[none]) (XN:=["thing"]) (xs:=xf vA) (by decide +kernel) rfl rfl) rfl (yB rfl) (yy K (pv 0)) (fun _ _ _ _=>(xS (i:=0) (show(["row"]:List Str).Nodup by decide +kernel) rfl (Or.inl rfl))) (fun _ _ _ _=>yM) (fun _ _ _ _=>(xq vz hr (yn (pv 0))))))))) (vH (wD (yY (xq hX hr (yn (pv 0)))))))) (xi (xG uN)) xX)
  (xi (xG (xl (vF K rfl) rfl (B.get "all") tH (yn (yF (xT (N:=["place"]) (tau:=[none]) (XN:=["thing"]) (xs:=xf vA) (by decide +kernel) rfl rfl) rfl (yB rfl) (yy K (xq vv hr (yn (pv 0)))) (fun _ _ _ _=>(xS (i:=0) (show(["place"]:List Str).Nodup by decide +kernel) rfl (Or.inl rfl))) (fun _ _ _ _=>yM) (fun _ _ _ _=>(xq fR hr (yn (pv 0))))))))))),
  (xj (yd (uT (y8 (yG (ve xa))) (y8 (xr (g9 jo jo xn (yb vc (xw xa)) xn)))) (xA vg) xJ)
  (xj (yd (uT (y8 (yG (yb fM (xw (OkF.e (ya (yf xa).c xk yt (xR (xw xa)))))))) (y8 (yG (xR (xw xa))))) (xA vg) xJ)
  (xA (yb fM (xw (OkF.e (ya (yf (xR (xw xa))).c xk yt (xR (xw xa))))))))),fun ts KK hl h=>?_⟩)
 obtain⟨t,rfl,k⟩:=h
 cases t with
 | tup us =>
  refine xU (b:=decide ((3:Int)≤us.length)) (fun c1=>?_) (fun c1=>?_)
  ·have c1:=xlV c1
   refine xU (b := !decide ((us.length:Int)≤8)) (fun c2=>?_) (fun c2=>?_)
   ·have c2:8<us.length:=by simp at c2;omega
    have e:isField (.tup us)=false:=by
     show(match rowsOf us with | some rows=>xt rows | none=>false)=false
     cases e:rowsOf us with
     | none=>rfl
     | some rows =>
      show xt rows=false
      unfold xt
      rw[wU e,xkP] at c2
      rw[xlP (by omega)];rfl
    rw[e] at k
    exact k
   ·have c2:us.length≤8:=by simp at c2;omega
    refine⟨sqz (by omega),ko (fun x=>.bl (yh x)) (fun x _ N hN=>⟨x,rfl,hN⟩) ⟨us.map yh,by rw[xkZ];rfl,?_⟩⟩
    rw[xkj]
    show if (!us.all yh)=true then _ else _
    refine xU (fun c=>?_) (fun c=>?_)
    ·rw[sO (by simpa using c)] at k
     exact k
    ·have c:us.all yh=true:=by simpa using c
     obtain⟨rows,rfl,hrows⟩:=bQ c
     rw[xkP] at c1 c2
     have ea:(rows.all fun r=>decide ((r.1≠0∨r.2.1≠0)∧Pol.uC r))=true:=by
      rw[xki];intro r hr;exact xlR (hrows r hr)
     have ef:isField (.tup (rows.map trR))=(Pol.zj rows&&(Pol.pieces rows).all qN):=by
      show(match rowsOf (rows.map trR) with | some rows=>xt rows | none=>false)=_
      rw[jZ]
      show xt rows=_
      unfold xt
      rw[ea,xlR (by omega)];simp
     rw[ef] at k
     have ok:kP rows:=⟨fun r hr=>(hrows r hr).1,fun r hr=>ae (hrows r hr).2,by omega⟩
     refine⟨rows,rfl,fun r hr=>(ok.sm r hr).mono (by decide),?_⟩
     refine xU (b := !Pol.zj rows) (fun d=>?_) (fun d=>?_)
     ·have d:Pol.zj rows=false:=by simpa using d
      rw[d] at k
      exact k
     ·have d:Pol.zj rows=true:=by simpa using d
      rw[d,Bool.true_and] at k
      have sm:=ok.small rows.length
      have pl:=ok.plen rows.length
      rw[xlr (xlw _)] at sm pl
      refine⟨_,rows,rfl,.inl rfl,ok,?_,?_⟩
      ·rw[xkP,vQ];exact sqz (by have:(Pol.pieces rows).length≤100000:=pl;omega)
      ·refine ko (fun x=>match x with | .tup [.tup [.int n,.int d],.tup [.int n2,.int d2]]=>.bl (nearF n d&&nearF n2 d2) | _=>.non) (fun x hx N hN=>?_) ?_
       ·obtain⟨v,hv,rfl⟩:=xla.mp hx
        have hb:=sm v (wq hv)
        have ld:∀i,Bd (mB i v.2.2):=fun i=>xeK hb.2 hb.1.2.bd
        refine⟨[(oh v.1 v.2.2,mB v.1 v.2.2),(oh v.2.1 v.2.2,mB v.2.1 v.2.2)],rfl,(show(2:Nat)≤1000 by decide),fun f hf=>?_,?_⟩
        ·simp only[xk5,xlk,xlW] at hf
         rcases hf with rfl | rfl<;>exact ld _
        ·have e:([(oh v.1 v.2.2,mB v.1 v.2.2),(oh v.2.1 v.2.2,mB v.2.1 v.2.2)].all fun f=>nearF f.1 f.2)=(nearF (oh v.1 v.2.2) (mB v.1 v.2.2)&&nearF (oh v.2.1 v.2.2) (mB v.2.1 v.2.2)):=by simp
         rw[e];exact hN
       ·refine⟨(yi (Pol.pieces rows)).map qN,by rw[xkZ,xkZ];rfl,?_⟩
        rw[xkj]
        have e:=aX qN (Pol.pieces rows)
        show KK (.bl ((yi (Pol.pieces rows)).all qN))
        rw[e];exact k
  ·have c1:us.length<3:=by have:=xlU c1;omega
   have e:isField (.tup us)=false:=by
    show(match rowsOf us with | some rows=>xt rows | none=>false)=false
    cases e:rowsOf us with
    | none=>rfl
    | some rows =>
     show xt rows=false
     unfold xt
     rw[wU e,xkP] at c1
     rw[xlP (by omega)];rfl
   rw[e] at k
   exact k
 | _=>exact k
theorem fS (B:Blt mg bn)(F:Fun K "is_field_row" "is_field_row" vy f fd)(m:mg "is_field_row" = some (.ref f))(b:Binds K fd ["thing"] [])(aU:Own P w K mg base 3 "is_row" ["thing"] (spT 1 false false xdM)) :
  Own P w K mg base 4 "is_field_row" ["thing"] (spT 1 false false dO):=by
 refine xM F wx m b rfl (fun _ _ _ _ _ _ hr=>⟨_,_,
  (xc (yA (wD (yY (xq aU hr (yn (pv 0))))) (xi (xG uN)) xX)
  (xc (kN (pv 0) (zz K (n:=3) rfl (xH (zJ 1 wx.nd) (xH (zJ 2 wx.nd) (xH (zJ 3 wx.nd) za)))))
  (xi (xG (p7 (zA jj (xl zH rfl (B.get "abs") vM (yn (pv 1))) xg (xY _)) (p7 (zA jj (xl zH rfl (B.get "abs") vM (yn (pv 2))) xg (xY _)) (me (zA jj (xl zH rfl (B.get "abs") vM (yn (pv 3))) xg (xY _))))))))),
  (xj (yd (y8 (yG (xR (xw xa)))) (xA vg) xJ)
  (xj (qx xa (zg (xx xk (xx xk (xx xk yO)))).g)
  (xA (rP (xh jo (yb vD (xw xa)) xn) (rP (xh jo (yb vD (xw xa)) xn) (xh jo (yb vD (xw xa)) xn)))))),fun ts KK hl h=>?_⟩)
 obtain⟨t,rfl,k⟩:=h
 refine⟨t,rfl,?_⟩
 unfold vN
 unfold yh at k
 cases e:jc t with
 | none=>rw[e] at k;exact k
 | some r =>
  rw[e] at k
  cases uA e
  have k:KK (.bl (decide ((r.1≠0∨r.2.1≠0)∧Pol.uC r))):=k
  refine xU (b := !decide (r.1≠0∨r.2.1≠0)) (fun c=>?_) (fun c=>?_)
  ·have c:¬(r.1≠0∨r.2.1≠0):=by simpa using c
   rw[xlP fun w=>c w.1] at k
   exact k
  ·have c:r.1≠0∨r.2.1≠0:=by simp at c;omega
   refine⟨rfl,?_⟩
   have ab:∀i m:Int,(if i<0 then -i else i)≤m↔-m≤i∧i≤m:=fun i m=>by split<;>omega
   refine xU (b:=decide ((if r.1<0 then -r.1 else r.1)≤30)) (fun d=>?_) (fun d=>?_)
   ·have d:=(ab _ _).mp (xlV d)
    refine xU (b:=decide ((if r.2.1<0 then -r.2.1 else r.2.1)≤30)) (fun d2=>?_) (fun d2=>?_)
    ·have d2:=(ab _ _).mp (xlV d2)
     show KK (.bl (decide ((if r.2.2<0 then -r.2.2 else r.2.2)≤1000)))
     have e3:decide ((r.1≠0∨r.2.1≠0)∧Pol.uC r)=decide ((if r.2.2<0 then -r.2.2 else r.2.2)≤1000):=by
      rw[xlO,ab]
      exact⟨fun w=>w.2.2,fun w=>⟨c,⟨d,d2⟩,w⟩⟩
     rw[←e3];exact k
    ·have d2:=fun w=>xlU d2 ((ab _ _).mpr w)
     rw[xlP fun w=>d2 w.2.1.2] at k
     exact k
   ·have d:=fun w=>xlU d ((ab _ _).mpr w)
    rw[xlP fun w=>d w.2.1.1] at k
    exact k
theorem lj (B:Blt mg bn)(F:Fun K "is_near" "is_near" jQ f fd)(m:mg "is_near" = some (.ref f))(b:Binds K fd ["place"] [])  :
  Own P w K mg base 1 "is_near" ["place"] (spT 1 false false xau):=by
 refine xM F lu m b rfl (fun _ _ _ _ _ _ hr=>⟨_,_,
  (xi (xG (xl (vF K rfl) rfl (B.get "all") tH (yn (yF (xT (N:=["top", "bottom"]) (tau:=[none,none]) (XN:=["place"]) (xs:=xf jQ) (by decide +kernel) rfl rfl) rfl (vJ (zd rfl (zd rfl j5))) (yy K (pv 0)) (fun _ _ _ _=>(zz K (n:=2) rfl (xH (xS (i:=0) (show(["top", "bottom"]:List Str).Nodup by decide +kernel) rfl (Or.inl rfl)) (xH (xS (i:=1) (show(["top", "bottom"]:List Str).Nodup by decide +kernel) rfl (Or.inl rfl)) za)))) (fun _ _ _ _=>yM) (fun _ _ _ _=>(zA jj (xl zH rfl (B.get "abs") vM (yn (pv 0))) (xy xP xg (pv 1)) (xY _)))))))),
  (xA (yb fM (xw (OkF.e (ya (yf xa).c (zg (xx xk (xx xk yO))) yt (xh jo (yb vD (xw xa)) (xh x_ xn xa))))))),fun ts KK hl h=>?_⟩)
 obtain⟨fs,rfl,hz,hb,k⟩:=h
 refine⟨by rw[xkP];exact sqz (by omega),?_⟩
 have ab:∀i m:Int,decide ((if i<0 then -i else i)≤12*m)=nearF i m:=fun i m=>by
  unfold nearF
  rw[xlO];split<;>omega
 refine ko (fun x=>match x with | .tup [.int n,.int d]=>.bl (nearF n d) | _=>.non) (fun x hx N hN=>?_) ?_
 ·obtain⟨f,hf,rfl⟩:=xla.mp hx
  refine⟨rfl,⟨cj (by decide) (by decide),hb f hf⟩,?_⟩
  show N (.bl (decide ((if f.1<0 then -f.1 else f.1)≤12*f.2)))
  rw[ab];exact hN
 ·refine⟨fs.map fun f=>nearF f.1 f.2,by rw[xkZ,xkZ];rfl,?_⟩
  rw[xkj];exact k
end
end K91
namespace K91
open PySem L2 Tx NumText
open Builtin.Str (occurrences)
section
variable {P:Program} {w:World} {K:PySem.W.Frag} {mg:Str→Option Value} {base:Heap} {f:Addr} {fd:FuncData}
theorem m7 (B:Blt mg bn)(F:Fun K "rows_text" "rows_text" vT f fd)(m:mg "rows_text" = some (.ref f))(b:Binds K fd ["rows"] [])  :
  Own P w K mg base 1 "rows_text" ["rows"] (spT 1 false false dj):=by
 refine xM F tF m b rfl (fun _ _ _ _ _ _ hr=>⟨_,_,
  (xi (xG (ur PySem.F.plainAttrs_str PySem.F.slot_str_join PySem.F.type_str_join (jB K) yE (yn (yF (xT (N:=["row"]) (tau:=[none]) (XN:=["rows"]) (xs:=xf vT) (by decide +kernel) rfl rfl) rfl (yB rfl) (yy K (pv 0)) (fun _ _ _ _=>(xS (i:=0) (show(["row"]:List Str).Nodup by decide +kernel) rfl (Or.inl rfl))) (fun _ _ _ _=>yM) (fun _ _ _ _=>(ur PySem.F.plainAttrs_str PySem.F.slot_str_join PySem.F.type_str_join (jB K) yE (yn (yF (xT (N:=["number"]) (tau:=[none]) (XN:=["row"]) (xs:=_) (by kernel_rfl) rfl rfl) rfl (yB rfl) (yy K (pv 0)) (fun _ _ _ _=>(xS (i:=0) (show(["number"]:List Str).Nodup by decide +kernel) rfl (Or.inl rfl))) (fun _ _ _ _=>yM) (fun _ _ _ _=>(yR qR (by rfl) (by exact B.get "str") dn (yn (pv 0))))))))))))),
  (xA (fq dB (vp (t:=Tr.str _)) (xw (OkF.e (ya (yf xa).c xk yt (fq dB (vp (t:=Tr.str _)) (xw (OkF.e (ya (yf xa).c xk yt (yb cJ (xw xa))))))))))),fun ts KK hl h=>?_⟩)
 obtain⟨rows,rfl,hr,l8,k⟩:=h
 refine⟨trivial,by rw[xkP];exact sqz (by omega),?_⟩
 refine yK (fun r=>.str (uh r)) (fun r hm N hN=>?_) ?_
 ·refine⟨trivial,sqz (by show 3≤1000000;decide),?_⟩
  show bc _ _ _ _ _ ([r.1,r.2.1,r.2.2].map Tr.int) []
  refine yK (fun n=>.str (yq n)) (fun n hn N hN=>⟨n,rfl,pA (xaf (hr r hm) n hn),hN⟩) ?_
  exact⟨_,[yq r.1,yq r.2.1,yq r.2.2],rfl,rfl,(aP (hr r hm)).1,(aP (hr r hm)).2,hN⟩
 ·have jf:=p0 hr l8
  exact⟨_,rows.map uh,rfl,by rw[xkZ];rfl,jf.1,jf.2,k⟩
theorem tm (B:Blt mg bn)(F:Fun K "read_field" "read_field" zC f fd)(m:mg "read_field" = some (.ref f))(b:Binds K fd ["text"] [])(wR:Own P w K mg base 2 "read_row" ["words"] (spT 1 false false dE))(uz:Own P w K mg base 7 "is_field" ["thing"] (spT 1 false false aD))(wV:Own P w K mg base 1 "rows_text" ["rows"] (spT 1 false false dj)) :
  Own P w K mg base 8 "read_field" ["text"] (spT 1 false false sT):=by
 refine xM F y_ m b rfl (fun _ _ _ _ _ _ hr=>⟨_,_,
  (xc (yA (wD (yY (xl ze rfl (B.get "isinstance") xu (x8 (pv 0) (zF (v:=V.ty "str") rfl (B.get "str") dn rfl))))) (xi jJ) xX)
  (xc (vE (i:=1) y_.nd rfl (Or.inl rfl) (xT (N:=["words"]) (tau:=[none]) (XN:=["text", "rows", "field"]) (xs:=xf zC) (by decide +kernel) rfl rfl) rfl (yB rfl) (yy K (ur PySem.F.plainAttrs_str PySem.F.slot_str_split PySem.F.type_str_split u5 (pv 0) (yn yE))) (fun _ _ _ _=>(xS (i:=0) (show(["words"]:List Str).Nodup by decide +kernel) rfl (Or.inl rfl))) (fun _ _ _ _=>yM) (fun _ _ _ _=>(xq wR hr (yn (pv 0)))))
  (xc (yL 2 y_.nd (yR (zY K) rfl (B.get "tuple") zV (yn (pv 1))))
  (xc (yA (PW.pt (je (wD (yY (xq uz hr (yn (pv 2))))) (vH (xK (uV hr.units) (xq wV hr (yn (pv 2))) (pv 0) (xY _))))) (xi jJ) xX)
  (xi (xG (pv 2))))))),
  (xj (yd (y8 (yG (ve xa))) vB xJ)
  (xj (xO (OkF.e (ya (yf (OkF.e (uc xa (xw (vp (t:=Tr.str _)))))).c xk yt (xR (xw xa)))))
  (xj (xO (kG (xw xa)))
  (xj (yd (uT (y8 (yG (xR (xw xa)))) (xr (xh k8 (xR (xw xa)) xa))) vB xJ)
  (xA xa))))),fun ts KK hl h=>?_⟩)
 obtain⟨rows,rfl,hf,k⟩:=h
 have fr:∀r∈rows,Pol.uC r:=fun r hr=>((xck hf).2.1 r hr).2
 have l8:=(xck hf).1.2
 have ln:=oJ fr l8
 have pf:=tM (uF rows) (" ; " : Str)
 refine⟨trivial,_,_,rfl,rfl,rfl,wg (by omega),wg (by omega),?_⟩
 rw[sA fr (fun e=>by subst e;exact absurd (xck hf).1.1 (by decide))]
 refine⟨by rw[xkP,xkP];exact sqz (by omega),?_⟩
 rw[xkZ]
 refine yK trR (fun r hm N hN=>⟨uh r,rfl,by have:=rO (fr r hm);omega,xhx (fr r hm),by rw[xfd (fr r hm)];exact hN⟩) ?_
 refine⟨_,rfl,?_⟩
 rw[dZ hf]
 refine⟨rows,rfl,fr,l8,ot (oS rows),?_⟩
 show if (!teq (.str (uF rows)) (.str (uF rows)))=true then _ else _
 rw[r9]
 exact k
theorem bX (B:Blt mg bn)(F:Fun K "read_row" "read_row" uB f fd)(m:mg "read_row" = some (.ref f))(b:Binds K fd ["words"] [])(zK:Own P w K mg base 1 "read_number" ["word"] (spT 1 false false fX)) :
  Own P w K mg base 2 "read_row" ["words"] (spT 1 false false dE):=by
 refine xM F fy m b rfl (fun _ _ _ _ _ _ hr=>⟨_,_,
  (xi (xG (yR (zY K) rfl (B.get "tuple") zV (yn (yF (xT (N:=["word"]) (tau:=[none]) (XN:=["words"]) (xs:=xf uB) (by decide +kernel) rfl rfl) rfl (yB rfl) (yy K (ur PySem.F.plainAttrs_str PySem.F.slot_str_split PySem.F.type_str_split u5 (pv 0) (yn yE))) (fun _ _ _ _=>(xS (i:=0) (show(["word"]:List Str).Nodup by decide +kernel) rfl (Or.inl rfl))) (fun _ _ _ _=>yM) (fun _ _ _ _=>(xq zK hr (yn (pv 0))))))))),
  (xA (kG (xw (OkF.e (ya (yf (OkF.e (uc xa (xw (vp (t:=Tr.str _)))))).c xk yt (xR (xw xa))))))),fun ts KK hl h=>?_⟩)
 obtain⟨r,rfl,hl,hw,k⟩:=h
 refine⟨trivial,_,_,rfl,rfl,rfl,wg (by omega),uX hl _,?_⟩
 refine⟨by rw[xkP];exact sqz (by have:=uy hl (" " : Str) (by decide);omega),?_⟩
 exact yK (fun w=>.int (wK w.cps.toList)) (fun w hm N hN=>⟨w,rfl,hw w hm,hN⟩) k
theorem sr (B:Blt mg bn)(F:Fun K "read_number" "read_number" zG f fd)(m:mg "read_number" = some (.ref f))(b:Binds K fd ["word"] [])  :
  Own P w K mg base 1 "read_number" ["word"] (spT 1 false false fX):=by
 refine xM F wZ m b rfl (fun _ _ _ _ _ _ hr=>⟨_,_,
  (xc (yL 1 wZ.nd (jF (yY (ur PySem.F.plainAttrs_str PySem.F.slot_str_startswith PySem.F.type_str_startswith mR (pv 0) (yn yE))) (yS kO (pv 0) (zm xg) zt) (pv 0)))
  (xc (yA (PW.pt (je (wD (gX jj jj xg (xl qD rfl (B.get "len") wk (yn (pv 1))) xg)) (vH (yY (xl (aa K rfl) rfl (B.get "any") xea (yn (yF (xT (N:=["sign"]) (tau:=[none]) (XN:=["word", "figures"]) (xs:=xf zG) (by decide +kernel) rfl rfl) rfl (yB rfl) (xbD (pv 1)) (fun _ _ _ _=>(xS (i:=0) (show(["sign"]:List Str).Nodup by decide +kernel) rfl (Or.inl rfl))) (fun _ _ _ _=>yM) (fun _ _ _ _=>(zA q_ (pv 0) yE (by with_unfolding_all rfl)))))))))) (xi jJ) xX)
  (xi (xG (yR nh rfl (B.get "int") tQ (yn (pv 0))))))),
  (xj (xO (nr (yG (fq tS xa (xw (vp (t:=Tr.str _))))) (kR xa (yT xn) yU) xa))
  (xj (yd (uT (y8 (xr (g9 jo jo xn (yb cq (xw xa)) xn))) (yG (yb lX (xw (OkF.e (ya (bP xa).c xk yt (xh bG xa (vp (t:=Tr.str _))))))))) vB xJ)
  (xA (yb xbt (xw xa))))),fun ts KK hl h=>?_⟩)
 obtain⟨w,rfl,hw,k⟩:=h
 have l4:=hw.f4
 have f1:=hw.f1
 have fl:=xa_ w
 refine yc (fun τ=>τ=[.fz (.str w),.fz (.str (wJ w))]) ?_ (fun N hN=>⟨trivial,_,_,rfl,rfl,b_ (by omega) (fun t=>N [.fz (.str w),.fz t]) (hN _ rfl)⟩)
 rintro _ rfl
 refine⟨_,rfl,wg (by omega),?_⟩
 refine xU (b:=decide ((1:Int)≤(wJ w).length)) (fun _=>?_) (fun c=>by simp only[xlQ] at c;omega)
 refine xU (b := !decide (((wJ w).length:Int)≤4)) (fun c=>by simp only[xjK,xlQ] at c;omega) (fun _=>?_)
 refine⟨?_,by unfold gL;rw[xkP,←str_len];exact sqz (by omega),?_⟩
 ·rw[xjA]
  intro i hi
  have:=hw.dg _ (xjD hi)
  exact xlR (by omega)
 show bc _ _ _ _ _ ((wJ w).cps.toList.map fun c=>Tr.str ⟨#[c]⟩) []
 refine yK (fun c=>.bl (!cU c)) (fun c hc N hN=>by rw[←xaA] at hN;exact hN) ?_
 refine⟨(wJ w).cps.toList.map fun c=>!cU c,by rw[xkZ];rfl,?_⟩
 rw[xfq hw]
 exact⟨_,_,rfl,xgp hw,by omega,k⟩
theorem qe (B:Blt mg bn)(F:Fun K "read_number" "read_number" zG f fd)(m:mg "read_number" = some (.ref f))(b:Binds K fd ["word"] []){a_NoText:Addr}(O_NoText:PyProof.Rows.OwnCls "NoText" a_NoText xil "ValueError.__new__" mg base) :
  oH P w K mg base 1 "read_number" ["word"] (spX 1 a_NoText pK):=by
 refine nq F wZ m b rfl (fun _ _ _ _ _ _ hr=>⟨_,
  (xc (yL 1 wZ.nd (jF (yY (ur PySem.F.plainAttrs_str PySem.F.slot_str_startswith PySem.F.type_str_startswith mR (pv 0) (yn yE))) (yS kO (pv 0) (zm xg) zt) (pv 0)))
  (xc (yA (PW.pt (je (wD (gX jj jj xg (xl qD rfl (B.get "len") wk (yn (pv 1))) xg)) (vH (yY (xl (aa K rfl) rfl (B.get "any") xea (yn (yF (xT (N:=["sign"]) (tau:=[none]) (XN:=["word", "figures"]) (xs:=xf zG) (by decide +kernel) rfl rfl) rfl (yB rfl) (xbD (pv 1)) (fun _ _ _ _=>(xS (i:=0) (show(["sign"]:List Str).Nodup by decide +kernel) rfl (Or.inl rfl))) (fun _ _ _ _=>yM) (fun _ _ _ _=>(zA q_ (pv 0) yE (by with_unfolding_all rfl)))))))))) (xi (aM O_NoText PySem.F.excBase_ValueError (yn yE))) zZ) zZ)),fun BB hE=>⟨_,
  (mS (fr:=false) (xO (nr (yG (fq tS xa (xw (vp (t:=Tr.str _))))) (kR xa (yT xn) yU) xa))
  (oD (xfb (uT (y8 (xr (g9 jo jo xn (yb cq (xw xa)) xn))) (yG (yb lX (xw (OkF.e (ya (bP xa).c xk yt (xh bG xa (vp (t:=Tr.str _))))))))) (rT hE (xw (vp (t:=Tr.str _)))) rW))),fun ts hl h=>?_⟩⟩)
 obtain⟨w,rfl,hb,asc,hl⟩:=h
 have fl:=dR w
 refine xe7 (fun τ=>τ=[.fz (.str w),.fz (.str (wJ w))]) ?_ (fun N hN=>⟨trivial,_,_,rfl,rfl,b_ hl (fun t=>N [.fz (.str w),.fz t]) (hN _ rfl)⟩)
 rintro _ rfl
 refine⟨_,rfl,wg (by omega),?_⟩
 refine xU (b:=decide ((1:Int)≤(wJ w).length)) (fun c1=>?_) (fun c=>trivial)
 refine xU (b := !decide (((wJ w).length:Int)≤4)) (fun c=>trivial) (fun c2=>?_)
 refine⟨cI asc,by unfold gL;rw[xkP,←str_len];exact sqz (by omega),?_⟩
 show bc _ _ _ _ _ ((wJ w).cps.toList.map fun c=>Tr.str ⟨#[c]⟩) []
 refine yK (fun c=>.bl (!cU c)) (fun c hc N hN=>by rw[←xaA] at hN;exact hN) ?_
 refine⟨(wJ w).cps.toList.map fun c=>!cU c,by rw[xkZ];rfl,?_⟩
 rw[xga hb (by have:=xlV c1;omega) (by simp only[Bool.not_eq_false',xlS] at c2;omega)]
 exact trivial
theorem kM (B:Blt mg bn)(F:Fun K "read_row" "read_row" uB f fd)(m:mg "read_row" = some (.ref f))(b:Binds K fd ["words"] []){a_NoText:Addr}(zK:Own P w K mg base 1 "read_number" ["word"] (spT 1 false false fX))(ox_read_number__NoText:oH P w K mg base 1 "read_number" ["word"] (spX 1 a_NoText pK)) :
  oH P w K mg base 2 "read_row" ["words"] (spX 1 a_NoText pZ):=by
 refine nq F fy m b rfl (fun _ _ _ _ _ _ hr=>⟨_,
  (xi (xG (yR (zY K) rfl (B.get "tuple") zV (yn (xct (xT (N:=["word"]) (tau:=[none]) (XN:=["words"]) (xs:=xf uB) (by decide +kernel) rfl rfl) rfl (yB rfl) (yy K (ur PySem.F.plainAttrs_str PySem.F.slot_str_split PySem.F.type_str_split u5 (pv 0) (yn yE))) (fun _ _ _ _=>(xS (i:=0) (show(["word"]:List Str).Nodup by decide +kernel) rfl (Or.inl rfl))) (fun _ _ _ _=>yM) (fun _ _ _ _=>(xcc zK ox_read_number__NoText hr p6 (yn (pv 0)))) xaR))))),fun BB hE=>⟨_,
  (xhw (xis (xcU (xbm hE (yf (OkF.e (uc xa (xw (vp (t:=Tr.str _)))))).c xk (oV (xw xa)) (fun _ hE'=>pW hE' (xw xa)))))),fun ts hl h=>?_⟩⟩)
 obtain⟨r,rfl,hb,hw⟩:=h
 have hl:=hb.len
 refine⟨trivial,_,_,rfl,rfl,rfl,wg (by omega),uX hl _,?_⟩
 refine⟨by rw[xkP];exact sqz (by have:=uy hl (" " : Str) (by decide);omega),?_⟩
 obtain⟨w0,m0,b0⟩:=hw
 exact ck (fun w=>!xbh w) (fun w hm e N hN=>⟨w,rfl,(aI w).mp (by simpa using e),hN _⟩) (fun w hm e=>⟨w,rfl,by simpa using e,(hb.part hm).asc,(hb.part hm).len⟩) ⟨w0,m0,by rw[b0];rfl⟩
theorem qj (B:Blt mg bn)(F:Fun K "read_field" "read_field" zC f fd)(m:mg "read_field" = some (.ref f))(b:Binds K fd ["text"] []){a_NoText:Addr}(O_NoText:PyProof.Rows.OwnCls "NoText" a_NoText xil "ValueError.__new__" mg base)(uz:Own P w K mg base 7 "is_field" ["thing"] (spT 1 false false aD))(wV:Own P w K mg base 1 "rows_text" ["rows"] (spT 1 false false dj))(wR:Own P w K mg base 2 "read_row" ["words"] (spT 1 false false dE))(ox_read_row__NoText:oH P w K mg base 2 "read_row" ["words"] (spX 1 a_NoText pZ)) :
  oH P w K mg base 8 "read_field" ["text"] (spX 1 a_NoText sV):=by
 refine lJ F y_ m b rfl (fun cdv A outer s H E hr ts hl h=>?_)
 obtain⟨t,rfl,h⟩:=h
 rcases h with h | ⟨x,rfl,hb,hd⟩
 ·refine⟨_,
  (xc (yA (wD (yY (xl ze rfl (B.get "isinstance") xu (x8 (pv 0) (zF (v:=V.ty "str") rfl (B.get "str") dn rfl))))) (xi (aM O_NoText PySem.F.excBase_ValueError (yn yE))) zZ) zZ),fun BB hE=>⟨_,
  (oD (xfb (y8 (yG (ve xa))) (rT hE (xw (vp (t:=Tr.str _)))) rW)),?_⟩⟩
  cases t with
  | str x=>exact absurd rfl (h x)
  | _=>exact trivial
 have hl:=hb.len
 by_cases c:∃s∈Txt.split x (" ; " : Str),∃w∈Txt.split s (" " : Str),xbh w=false
 ·refine⟨_,
  (xc (yA (wD (yY (xl ze rfl (B.get "isinstance") xu (x8 (pv 0) (zF (v:=V.ty "str") rfl (B.get "str") dn rfl))))) (xi jJ) xX)
  (xc (cO (i:=1) y_.nd rfl (Or.inl rfl) (xT (N:=["words"]) (tau:=[none]) (XN:=["text", "rows", "field"]) (xs:=xf zC) (by decide +kernel) rfl rfl) rfl (yB rfl) (yy K (ur PySem.F.plainAttrs_str PySem.F.slot_str_split PySem.F.type_str_split u5 (pv 0) (yn yE))) (fun _ _ _ _=>(xS (i:=0) (show(["words"]:List Str).Nodup by decide +kernel) rfl (Or.inl rfl))) (fun _ _ _ _=>yM) (fun _ _ _ _=>(xcc wR ox_read_row__NoText hr p6 (yn (pv 0)))) xaR) zZ)),fun BB hE=>⟨_,
  (mS (fr:=false) (yd (y8 (yG (ve xa))) vB xJ)
  (oD (xgS (xbm hE (yf (OkF.e (uc xa (xw (vp (t:=Tr.str _)))))).c xk (oV (xw xa)) (fun _ hE'=>pW hE' (xw xa)))))),?_⟩⟩
  obtain⟨s0,m0,w0,n0,b0⟩:=c
  refine⟨trivial,_,_,rfl,rfl,rfl,wg (by omega),uX hl _,?_⟩
  refine⟨by rw[xkP];exact sqz (by have:=uy hl (" ; " : Str) (by decide);omega),?_⟩
  refine ck (fun s=>(Txt.split s (" " : Str)).any fun w=>!xbh w) (fun s hm e N hN=>⟨s,rfl,(hb.part hm).len,fun w hw=>?_,hN _⟩) (fun s hm e=>⟨s,rfl,hb.part hm,?_⟩) ⟨s0,m0,xkl.mpr ⟨w0,n0,by rw[b0];rfl⟩⟩
  ·have:=xkk.mp e w hw
   exact(aI w).mp (by simpa using this)
  ·obtain⟨w,hw,z⟩:=xkl.mp e
   exact⟨w,hw,by simpa using z⟩
 ·refine⟨_,
  (xc (yA (wD (yY (xl ze rfl (B.get "isinstance") xu (x8 (pv 0) (zF (v:=V.ty "str") rfl (B.get "str") dn rfl))))) (xi jJ) xX)
  (xc (vE (i:=1) y_.nd rfl (Or.inl rfl) (xT (N:=["words"]) (tau:=[none]) (XN:=["text", "rows", "field"]) (xs:=xf zC) (by decide +kernel) rfl rfl) rfl (yB rfl) (yy K (ur PySem.F.plainAttrs_str PySem.F.slot_str_split PySem.F.type_str_split u5 (pv 0) (yn yE))) (fun _ _ _ _=>(xS (i:=0) (show(["words"]:List Str).Nodup by decide +kernel) rfl (Or.inl rfl))) (fun _ _ _ _=>yM) (fun _ _ _ _=>(xq wR hr (yn (pv 0)))))
  (xc (yL 2 y_.nd (yR (zY K) rfl (B.get "tuple") zV (yn (pv 1))))
  (xc (yA (PW.pt (je (wD (yY (xq uz hr (yn (pv 2))))) (vH (xK (uV hr.units) (xq wV hr (yn (pv 2))) (pv 0) (xY _))))) (xi (aM O_NoText PySem.F.excBase_ValueError (yn yE))) zZ) zZ)))),fun BB hE=>⟨_,
  (mS (fr:=false) (yd (y8 (yG (ve xa))) vB xJ)
  (mS (fr:=false) (xO (OkF.e (ya (yf (OkF.e (uc xa (xw (vp (t:=Tr.str _)))))).c xk yt (xR (xw xa)))))
  (mS (fr:=false) (xO (kG (xw xa)))
  (oD (xfb (uT (y8 (yG (xR (xw xa)))) (xr (xh k8 (xR (xw xa)) xa))) (rT hE (xw (vp (t:=Tr.str _)))) rW))))),?_⟩⟩
  have good:∀s∈Txt.split x (" ; " : Str),∀w∈Txt.split s (" " : Str),xc6 w:=fun s hs w hw=>xc9 fun e=>c ⟨s,hs,w,hw,e⟩
  refine⟨trivial,_,_,rfl,rfl,rfl,wg (by omega),uX hl _,?_⟩
  refine⟨by rw[xkP];exact sqz (by have:=uy hl (" ; " : Str) (by decide);omega),?_⟩
  refine yK rdR (fun s hm N hN=>⟨s,rfl,(hb.part hm).len,good s hm,hN⟩) ?_
  refine⟨_,rfl,?_⟩
  cases e:isField (.tup ((Txt.split x (" ; " : Str)).map rdR)) with
  | false=>exact trivial
  | true =>
   obtain⟨rows,er,hf⟩:=aA e
   rw[er]
   refine⟨rows,rfl,fun r hr=>((xck hf).2.1 r hr).2,(xck hf).1.2,qF (oS rows) (rk hb.asc),?_⟩
   show if (!teq (.str (uF rows)) (.str x))=true then _ else _
   rw[rM (xcH hd hf)]
   exact trivial
end
end K91
namespace K91
open PySem L2 Tx NumText
open Builtin.Str (occurrences)
section
variable {P:Program} {w:World} {K:PySem.W.Frag} {mg:Str→Option Value} {base:Heap} {f:Addr} {fd:FuncData}
theorem rQ (B:Blt mg bn)(F:Fun K "_law_field" "_law_field" ub f fd)(m:mg "_law_field" = some (.ref f))(b:Binds K fd ["_law_state_here"] [])(xB:Own P w K mg base 1 "_law_take" ["_law_state_here", "_law_many"] (spT 1 true false xaz)) :
  Own P w K mg base 2 "_law_field" ["_law_state_here"] (spT 0 true false lZ):=by
 refine mI F xV m b rfl (fun _ _ _ _ _ _ hr=>⟨_,_,
  (xc (yL 1 xV.nd (xq xB hr (x8 (pv 0) xg)))
  (xc (yL 2 xV.nd (yX u9))
  (xc (yA (xK (jy K hr.units) (pv 1) xg (xY _)) (xc (ue PassesOwn.never rfl (yy K (yX (xQ (yr (x8 (vX wB xg) xg)) (xQ (yr (x8 xg xg)) (x8 (yr (x8 xg (vX wB xg))) (yr (x8 xg xg))))))) (zz K (n:=2) rfl (xH (zJ 3 xV.nd) (xH (zJ 4 xV.nd) za))) (xc (yL 5 xV.nd (xy zT xg (xq xB hr (x8 (pv 0) xg))))
  (xi (vk (ur PySem.F.plainAttrs_list PySem.F.slot_list_append PySem.F.type_list_append uR (pv 2) (yn (yr (xQ (xy xP (pv 3) (pv 5)) (x8 (xy xP (pv 4) (pv 5)) (xy zT (xy xP (pv 5) (xq xB hr (x8 (pv 0) xg))) (xq xB hr (x8 (pv 0) (pv 5)))))))))))))
  (xc (ue PassesOwn.never rfl (vI rfl (B.get "range") (yn (xq xB hr (x8 (pv 0) xg)))) (zJ 6 xV.nd) (xc (pH (i:=3) (j:=4) rfl xV.nd rfl rfl (by decide) rfl rfl (x8 (xy zN (xq xB hr (x8 (pv 0) xg)) xg) (xy zN (xq xB hr (x8 (pv 0) xg)) xg)) (by rfl))
  (xc (yA (PW.pt (fo (xK (we hr.units) (pv 3) xg (xY _)) (k_ (xK (we hr.units) (pv 4) xg (xY _))))) (xi (yL 3 xV.nd xg)) xX)
  (xc (yL 7 xV.nd (xy zT (xy xP (pv 3) (xy zN (xq xB hr (x8 (pv 0) xg)) xg)) (xy xP (pv 4) (xy zN (xq xB hr (x8 (pv 0) xg)) xg))))
  (xi (vk (ur PySem.F.plainAttrs_list PySem.F.slot_list_append PySem.F.type_list_append uR (pv 2) (yn (yr (xQ (pv 3) (x8 (pv 4) (xy zN (xy zT (pv 7) (xq xB hr (x8 (pv 0) xg))) xg))))))))))))
  (xi (yA (xK (we hr.units) (xq xB hr (x8 (pv 0) xg)) xg (xY _)) (xi (vk (ur PySem.F.plainAttrs_list PySem.F.slot_list_append PySem.F.type_list_append uR (pv 2) (yn (yr (xQ (xy zN xg (wH (yW K) (wH (yW K) (pv 2) (vX wB xg) (fun _ _=>rfl)) xg (fun _ _=>rfl))) (x8 (xy zN xg (wH (yW K) (wH (yW K) (pv 2) (vX wB xg) (fun _ _=>rfl)) xg (fun _ _=>rfl))) (xy zN xg (wH (yW K) (wH (yW K) (pv 2) (vX wB xg) (fun _ _=>rfl)) xg (fun _ _=>rfl)))))))))) xX)))) xX)
  (xc (yA (xK (we hr.units) (pv 1) xg (xY _)) (xc (yL 8 xV.nd (xy zT xg (xq xB hr (x8 (pv 0) xg))))
  (xi (yL 2 xV.nd (yX (xQ (yr (xQ (vX wB xg) (x8 xg xg))) (x8 (yr (xQ xg (x8 (xy xP (vX wB xg) (pv 8)) xg))) (yr (xQ xg (x8 (xy xP xg (pv 8)) (xy xP xg (pv 8))))))))))) xX)
  (xc (yA (xK (we hr.units) (pv 1) xg (xY _)) (xc (yL 9 xV.nd (wH (yW K) (yX (x8 (yX (xQ (yr (x8 (vX wB xg) xg)) (x8 (yr (x8 xg (vX wB xg))) (yr (x8 xg xg))))) (yX (xQ (yr (x8 (vX wB xg) (vX wB xg))) (x8 (yr (x8 xg (vX wB xg))) (yr (x8 xg xg))))))) (xq xB hr (x8 (pv 0) xg)) (fun _ _=>rfl)))
  (xi (vE (i:=2) xV.nd rfl (Or.inl rfl) (xT (N:=["_law_a", "_law_b", "_law_state_here"]) (tau:=[none,none,some 0]) (XN:=["_law_state_here", "_law_way", "_law_rows", "_law_a", "_law_b", "_law_by", "_law_turn", "_law_near", "_law_k", "_law_some", "_law_u", "_law_v"]) (xs:=xf ub) (by decide +kernel) rfl rfl) rfl (vJ (zd rfl (zd rfl j5))) (yy K (pv 9)) (fun _ _ _ _=>(zz K (n:=2) rfl (xH (xS (i:=0) (show(["_law_a", "_law_b", "_law_state_here"]:List Str).Nodup by decide +kernel) rfl (Or.inl rfl)) (xH (xS (i:=1) (show(["_law_a", "_law_b", "_law_state_here"]:List Str).Nodup by decide +kernel) rfl (Or.inl rfl)) za)))) (fun _ _ _ _=>yM) (fun _ _ _ _=>(yr (xQ (pv 0) (x8 (pv 1) (xq xB hr (x8 (pv 2) xg))))))))) xX)
  (xc (kN (yr (x8 (xy zN (xq xB hr (x8 (pv 0) xg)) xg) (xy zN (xq xB hr (x8 (pv 0) xg)) xg))) (zz K (n:=2) rfl (xH (xS (i:=10) xV.nd rfl (Or.inr rfl)) (xH (xS (i:=11) xV.nd rfl (Or.inr rfl)) za))))
  (xc (vE (i:=2) xV.nd rfl (Or.inl rfl) (xT (N:=["_law_a", "_law_b", "_law_c", "_law_v", "_law_u"]) (tau:=[none,none,none,some 11,some 10]) (XN:=["_law_state_here", "_law_way", "_law_rows", "_law_a", "_law_b", "_law_by", "_law_turn", "_law_near", "_law_k", "_law_some", "_law_u", "_law_v"]) (xs:=xf ub) (by decide +kernel) rfl rfl) rfl (vJ (zd rfl (zd rfl (zd rfl j5)))) (yy K (pv 2)) (fun _ _ _ _=>(zz K (n:=3) rfl (xH (xS (i:=0) (show(["_law_a", "_law_b", "_law_c", "_law_v", "_law_u"]:List Str).Nodup by decide +kernel) rfl (Or.inl rfl)) (xH (xS (i:=1) (show(["_law_a", "_law_b", "_law_c", "_law_v", "_law_u"]:List Str).Nodup by decide +kernel) rfl (Or.inl rfl)) (xH (xS (i:=2) (show(["_law_a", "_law_b", "_law_c", "_law_v", "_law_u"]:List Str).Nodup by decide +kernel) rfl (Or.inl rfl)) za))))) (fun _ _ _ _=>yM) (fun _ _ _ _=>(yr (xQ (pv 0) (x8 (pv 1) (xy zT (xy zT (pv 2) (xy xP (pv 0) (pv 4))) (xy xP (pv 1) (pv 3))))))))
  (xc (yL 6 xV.nd (xq xB hr (x8 (pv 0) (xl (yD K) rfl (B.get "len") wk (yn (pv 2))))))
  (xi (xG (yR (zY K) rfl (B.get "tuple") zV (yn (xy sC (yS (fj K) (pv 2) (zm (pv 6)) zt) (yS (fj K) (pv 2) zt (zm (pv 6)))))))))))))))),
  (xj (xO (yx (xw xn)))
  (xj (wF (hV uP))
  (xj (yd (xr (xh jE xa xn)) (xj (zE (yf (wa (b:=true) (xI (yu (b:=true) (xN (wo xn) xn)) (xI (yu (b:=true) (xN xn xn)) (xN (yu (b:=true) (xN xn (wo xn))) (yu (b:=true) (xN xn xn))))))) (zg (xx xk (xx xk yO))).g (xj (xO (xh uu xn (yx (xw xn))))
  (jl (yu (b:=true) (xI (xh x_ xa xa) (xN (xh x_ xa xa) (xh uu (xh x_ xa (yx (xw xn))) (yx (xw xa)))))))))
  (xj (zE (uD (xw (yx (xw xn)))) xk.g (xj (rD (xN (xh zQ (yx (xw xn)) xn) (xh zQ (yx (xw xn)) xn)))
  (xj (yd (k7 (xr (xh os_eq xa xn)) (xr (xh os_eq xa xn))) (xO xn) xJ)
  (xj (xO (xh uu (xh x_ xa (xh zQ (yx (xw xn)) xn)) (xh x_ xa (xh zQ (yx (xw xn)) xn))))
  (jl (yu (b:=true) (xI xa (xN xa (xh zQ (xh uu xa (yx (xw xn))) xn)))))))))
  (yd (xr (xh os_eq (yx (xw xn)) xn)) (jl (yu (b:=true) (xI (xh zQ xn (kK (cS (wo xn)) xn)) (xN (xh zQ xn (kK (cS (wo xn)) xn)) (xh zQ xn (kK (cS (wo xn)) xn)))))) xJ))) xJ)
  (xj (yd (xr (xh os_eq xa xn)) (xj (xO (xh uu xn (yx (xw xn))))
  (wF (hV (xI (yu (b:=true) (xI (wo xn) (xN xn xn))) (xN (yu (b:=true) (xI xn (xN (xh x_ (wo xn) xa) xn))) (yu (b:=true) (xI xn (xN (xh x_ xn xa) (xh x_ xn xa))))))))) xJ)
  (xj (yd (xr (xh os_eq xa xn)) (xj (xO (kK (wa (b:=true) (xN (wa (b:=true) (xI (yu (b:=true) (xN (wo xn) xn)) (xN (yu (b:=true) (xN xn (wo xn))) (yu (b:=true) (xN xn xn))))) (wa (b:=true) (xI (yu (b:=true) (xN (wo xn) (wo xn))) (xN (yu (b:=true) (xN xn (wo xn))) (yu (b:=true) (xN xn xn))))))) (yx (xw xn))))
  (wF (ya (yf xa).c (zg (xx xk (xx xk yO))) yt (yu (b:=true) (xI xa (xN xa (yx (xw xn)))))))) xJ)
  (xj (qx (yu (b:=true) (xN (xh zQ (yx (xw xn)) xn) (xh zQ (yx (xw xn)) xn))) (zg (xx xk (xx xk yO))).g)
  (xj (wF (ya dP (zg (xx xk (xx xk (xx xk yO)))) yt (yu (b:=true) (xI xa (xN xa (xh uu (xh uu xa (xh x_ xa xa)) (xh x_ xa xa)))))))
  (xj (xO (yx (xw (yb vc (xw kg)))))
  (xA (kG (xw (OkF.e (bJ (OkF.e (xaF (yT xa) yU)) (OkF.e (xaF yU (yT xa)))))))))))))))),fun ts KK hl h=>?_⟩)
 obtain⟨rfl,k⟩:=h
 refine⟨tk (by decide),fun w w0 w6=>?_⟩
 dsimp only
 refine yc (fun τ=>τ=[.st,.fz (.int w),.ow [],.un,.un,.un,.un,.un,.un,.un,.un,.un]) ?_ (fun N hN=>hN _ rfl)
 rintro _ rfl
 refine yc (fun τ=>∃(rows:List Pol.R3) (x:TV9),τ=[.st,.fz (.int w),.ow (rows.map trR),x.1,x.2.1,x.2.2.1,x.2.2.2.1,x.2.2.2.2.1,x.2.2.2.2.2.1,x.2.2.2.2.2.2.1,x.2.2.2.2.2.2.2.1,x.2.2.2.2.2.2.2.2]∧(w<4→LF0 rows)) ?_ ?_
 rotate_left
 ·intro N hN
  refine xU (b:=decide (w<4)) (fun c=>?_) (fun c=>hN _ ⟨[],⟨_,_,_,_,_,_,_,_,_⟩,rfl,fun z=>absurd z (xlU c)⟩)
  refine yc (fun τ=>∃(rows:List Pol.R3) (x:TV9),τ=[.st,.fz (.int w),.ow (rows.map trR),x.1,x.2.1,x.2.2.1,x.2.2.2.1,x.2.2.2.2.1,x.2.2.2.2.2.1,x.2.2.2.2.2.2.1,x.2.2.2.2.2.2.2.1,x.2.2.2.2.2.2.2.2]∧qy rows) ?_ ?_
  rotate_left
  ·intro N hN
   refine vV (xbf.map dT) (fun i τ=>∃(rows:List Pol.R3) (x:TV9),τ=[.st,.fz (.int w),.ow (rows.map trR),x.1,x.2.1,x.2.2.1,x.2.2.2.1,x.2.2.2.2.1,x.2.2.2.2.2.1,x.2.2.2.2.2.2.1,x.2.2.2.2.2.2.2.1,x.2.2.2.2.2.2.2.2]∧o_ i rows) (fun KK h=>h) ⟨[],⟨_,_,_,_,_,_,_,_,_⟩,rfl,rfl,fun j r d h=>by simp at h⟩ ?_ ?_
   ·rintro i it τ N2 hx ⟨rows,x,rfl,hu⟩ hN2
    obtain⟨d,hd,rfl⟩:=qc hx
    have ds:=bT hd
    have hi:=(xkF.mp hd).1
    have hi:i<4:=hi
    refine⟨rfl,tk (by decide),fun r a1 a2=>⟨ua (by omega) (by omega),ua (by omega) (by omega),tk (by decide),fun s a3 a4=>⟨ua (by omega) (by omega),tk (by omega),fun q a5 a6=>⟨by rw[xkP,hu.1];exact sqz (by omega),?_⟩⟩⟩⟩
    have x1:=Pol.pz (show 0≤1+r by omega) a3
    have x2:(1+r)*s≤(1+r)*4:=xj5 (by omega) (by omega)
    have st:=hu.step hd (b:=1+r) (c:=(1+r)*s+q) (by omega)
    have e:rows.map trR++[Tr.tup [.int (d.1*(1+r)),.int (d.2*(1+r)),.int ((1+r)*s+q)]]=(rows++[(d.1*(1+r),d.2*(1+r),(1+r)*s+q)]).map trR:=by rw[xkV];rfl
    show N2 [.st,.fz (.int w),.ow (rows.map trR++[Tr.tup [.int (d.1*(1+r)),.int (d.2*(1+r)),.int ((1+r)*s+q)]]),_,_,_,_,_,_,_,_,_]
    rw[e]
    exact hN2 _ ⟨_,⟨_,_,_,_,_,_,_,_,_⟩,rfl,st⟩
   ·rintro τ ⟨rows,x,rfl,hu⟩
    exact hN _ ⟨rows,⟨_,_,_,_,_,_,_,_,_⟩,rfl,hu.box⟩
  rintro _ ⟨four,x,rfl,hB⟩
  have fl:=hB.len
  refine yc (fun τ=>∃(ex:List Pol.R3) (x:TV9),τ=[.st,.fz (.int w),.ow ((four++ex).map trR),x.1,x.2.1,x.2.2.1,x.2.2.2.1,x.2.2.2.2.1,x.2.2.2.2.2.1,x.2.2.2.2.2.2.1,x.2.2.2.2.2.2.2.1,x.2.2.2.2.2.2.2.2]∧ex.length≤3∧∀r∈ex,Extra r) ?_ ?_
  rotate_left
  ·intro N hN
   refine⟨tk (by decide),fun n n0 n4=>⟨⟨by omega,by omega⟩,?_⟩⟩
   refine wu (fun i τ=>∃(ex:List Pol.R3) (x:TV9),τ=[.st,.fz (.int w),.ow ((four++ex).map trR),x.1,x.2.1,x.2.2.1,x.2.2.2.1,x.2.2.2.2.1,x.2.2.2.2.2.1,x.2.2.2.2.2.2.1,x.2.2.2.2.2.2.2.1,x.2.2.2.2.2.2.2.2]∧ex.length=i∧∀r∈ex,Extra r) ⟨[],⟨_,_,_,_,_,_,_,_,_⟩,by rw[xkn],rfl,fun r hr=>by simp at hr⟩ ?_ ?_
   ·rintro i it τ N2 hx ⟨ex,x,rfl,hl,he⟩ hN2
    have hi:i<n.toNat:=by have:=(xkF.mp hx).1;rw[wm] at this;exact this
    show xg6 _ _ _ ([.st,.fz (.int w),.ow ((four++ex).map trR),x.1,x.2.1,x.2.2.1,.fz it,x.2.2.2.2.1,x.2.2.2.2.2.1,x.2.2.2.2.2.2.1,x.2.2.2.2.2.2.2.1,x.2.2.2.2.2.2.2.2]:TSt)
    refine yc (fun τ=>∃a b:Int,τ=[.st,.fz (.int w),.ow ((four++ex).map trR),.fz (.int a),.fz (.int b),x.2.2.1,.fz it,x.2.2.2.2.1,x.2.2.2.2.2.1,x.2.2.2.2.2.2.1,x.2.2.2.2.2.2.2.1,x.2.2.2.2.2.2.2.2]∧((-6≤a∧a≤6)∧(-6≤b∧b≤6))) ?_ (fun N3 hN3=>⟨tk (by decide),fun a a0 a1=>⟨tk (by decide),fun b b0 b1=>hN3 _ ⟨a-6,b-6,rfl,by omega⟩⟩⟩)
    rintro _ ⟨a,b,rfl,hab⟩
    refine yc (fun τ=>∃a b:Int,τ=[.st,.fz (.int w),.ow ((four++ex).map trR),.fz (.int a),.fz (.int b),x.2.2.1,.fz it,x.2.2.2.2.1,x.2.2.2.2.2.1,x.2.2.2.2.2.2.1,x.2.2.2.2.2.2.2.1,x.2.2.2.2.2.2.2.2]∧((-6≤a∧a≤6)∧(-6≤b∧b≤6))∧(a≠0∨b≠0)) ?_ ?_
    rotate_left
    ·intro N3 hN3
     refine xU (b:=decide (a=0)) (fun c=>?_) (fun c=>?_)
     ·refine xU (b:=decide (b=0)) (fun d=>?_) (fun d=>?_)
      ·exact hN3 _ ⟨2,b,rfl,by omega,.inl (by decide)⟩
      ·exact hN3 _ ⟨a,b,rfl,by omega,.inr (xlU d)⟩
     ·exact bV (hN3 _ ⟨a,b,rfl,by omega,.inl (xlU c)⟩)
    rintro _ ⟨a,b,rfl,hab,hne⟩
    refine⟨tk (by decide),fun s s0 s5=>⟨ua (by omega) (by omega),tk (by decide),fun q q0 q5=>⟨ua (by omega) (by omega),tk (by decide),fun t t0 t9=>⟨by rw[xkP,xkL];exact sqz (by omega),?_⟩⟩⟩⟩
    have m1:=pM hab.1.1 hab.1.2 (show -2≤s-2 by omega) (show s-2≤2 by omega) (by decide) (by decide)
    have m2:=pM hab.2.1 hab.2.2 (show -2≤q-2 by omega) (show q-2≤2 by omega) (by decide) (by decide)
    have e:(four++ex).map trR++[Tr.tup [.int a,.int b,.int (a*(s-2)+b*(q-2)+t-1)]]=(four++(ex++[(a,b,a*(s-2)+b*(q-2)+t-1)])).map trR:=by
     rw[←xkm,oA];rfl
    show N2 [.st,.fz (.int w),.ow ((four++ex).map trR++[Tr.tup [.int a,.int b,.int (a*(s-2)+b*(q-2)+t-1)]]),_,_,_,_,_,_,_,_,_]
    rw[e]
    refine hN2 _ ⟨ex++[(a,b,a*(s-2)+b*(q-2)+t-1)],⟨.fz (.int a),.fz (.int b),x.2.2.1,.fz it,.fz (.int (a*(s-2)+b*(q-2))),x.2.2.2.2.2.1,x.2.2.2.2.2.2.1,x.2.2.2.2.2.2.2.1,x.2.2.2.2.2.2.2.2⟩,rfl,by simp[hl],fun r hr=>?_⟩
    rcases xk2.mp hr with h | h
    ·exact he r h
    ·rw[xlg.mp h]
     unfold Extra
     simp only
     omega
   ·rintro τ ⟨ex,x,rfl,hl,he⟩
    rw[wm] at hl
    exact hN _ ⟨ex,⟨_,_,_,_,_,_,_,_,_⟩,rfl,by omega,he⟩
  rintro _ ⟨ex,x,rfl,hl,he⟩
  refine⟨tk (by decide),fun e e0 e8=>?_⟩
  refine xU (b:=decide (e=0)) (fun c=>?_) (fun c=>?_)
  ·obtain⟨ini,l,el,hx⟩:=hB.last he
   have la:atT ((four++ex).map trR) (-1)=some (trR l):=by rw[el,xkV];exact aE _ _
   show lU (atT ((four++ex).map trR) (-1)) _
   rw[la]
   show lU (atT ((four++ex).map trR) (-1)) _
   rw[la]
   show lU (atT ((four++ex).map trR) (-1)) _
   rw[la]
   have e:(four++ex).map trR++[Tr.tup [.int (0-l.1),.int (0-l.2.1),.int (0-l.2.2)]]=(four++(ex++[(0-l.1,0-l.2.1,0-l.2.2)])).map trR:=by
    rw[←xkm,oA];rfl
   refine⟨by rw[xkP,xkL];exact sqz (by omega),?_⟩
   show N [.st,.fz (.int w),.ow ((four++ex).map trR++[Tr.tup [.int (0-l.1),.int (0-l.2.1),.int (0-l.2.2)]]),_,_,_,_,_,_,_,_,_]
   rw[e]
   refine hN _ ⟨_,⟨_,_,_,_,_,_,_,_,_⟩,rfl,fun _=>hB.lf (fun r hr=>?_) (by simp;omega)⟩
   rcases xk2.mp hr with h | h
   ·exact he r h
   ·rw[xlg.mp h];exact hx
  ·exact hN _ ⟨_,⟨_,_,_,_,_,_,_,_,_⟩,rfl,fun _=>hB.lf he (by omega)⟩
 rintro _ ⟨rows,x,rfl,h4⟩
 refine yc (fun τ=>∃(rows:List Pol.R3) (x:TV9),τ=[.st,.fz (.int w),.ow (rows.map trR),x.1,x.2.1,x.2.2.1,x.2.2.2.1,x.2.2.2.2.1,x.2.2.2.2.2.1,x.2.2.2.2.2.2.1,x.2.2.2.2.2.2.2.1,x.2.2.2.2.2.2.2.2]∧(w<5→LF0 rows)) ?_ ?_
 rotate_left
 ·intro N hN
  refine xU (b:=decide (w=4)) (fun c=>?_) (fun c=>hN _ ⟨_,⟨_,_,_,_,_,_,_,_,_⟩,rfl,fun z=>h4 (by have:=xlU c;omega)⟩)
  refine⟨tk (by decide),fun r a1 a2=>⟨ua (by omega) (by omega),ua (by omega) (by omega),ua (by omega) (by omega),?_⟩⟩
  exact hN _ ⟨[(-1,0,0),(1,-2*(1+r),0),(1,2*(1+r),2*(1+r))],⟨x.1,x.2.1,x.2.2.1,x.2.2.2.1,x.2.2.2.2.1,.fz (.int (1+r)),x.2.2.2.2.2.2.1,x.2.2.2.2.2.2.2.1,x.2.2.2.2.2.2.2.2⟩,rfl,fun _=>xcw (by omega) (by omega)⟩
 rintro _ ⟨rows,x,rfl,h5⟩
 refine yc (fun τ=>∃(rows:List Pol.R3) (x:TV9),τ=[.st,.fz (.int w),.ow (rows.map trR),x.1,x.2.1,x.2.2.1,x.2.2.2.1,x.2.2.2.2.1,x.2.2.2.2.2.1,x.2.2.2.2.2.2.1,x.2.2.2.2.2.2.2.1,x.2.2.2.2.2.2.2.2]∧LF0 rows) ?_ ?_
 rotate_left
 ·intro N hN
  refine xU (b:=decide (w=5)) (fun c=>?_) (fun c=>hN _ ⟨_,⟨_,_,_,_,_,_,_,_,_⟩,rfl,h5 (by have:=xlU c;omega)⟩)
  refine⟨tk (by decide),fun e e0 e2=>?_⟩
  obtain rfl | rfl:e=0∨e=1:=by omega
  ·refine⟨sqz (show(3:Nat)≤1000000 by decide),nE (f:=dT) (l:=[(-2,1),(1,-3),(2,3)]) Drawn (fun d _ N2 h2=>?_) (fun ys hy=>?_)⟩
   ·exact⟨rfl,tk (by decide),fun c c0 c8=>h2 _ ⟨c,⟨c0,c8⟩,rfl⟩⟩
   ·obtain⟨d1,d2,d3,g,rfl⟩:=xef hy
    exact hN _ ⟨[(-2,1,d1),(1,-3,d2),(2,3,d3)],⟨x.1,x.2.1,x.2.2.1,x.2.2.2.1,x.2.2.2.2.1,x.2.2.2.2.2.1,.fz (.lst (([(-2,1),(1,-3),(2,3)]:List (Int×Int)).map dT)),x.2.2.2.2.2.2.2.1,x.2.2.2.2.2.2.2.2⟩,rfl,xfF g.1 g.2.1 g.2.2⟩
  ·refine⟨sqz (show(3:Nat)≤1000000 by decide),nE (f:=dT) (l:=[(-3,-2),(3,-1),(1,4)]) Drawn (fun d _ N2 h2=>?_) (fun ys hy=>?_)⟩
   ·exact⟨rfl,tk (by decide),fun c c0 c8=>h2 _ ⟨c,⟨c0,c8⟩,rfl⟩⟩
   ·obtain⟨d1,d2,d3,g,rfl⟩:=xef hy
    exact hN _ ⟨[(-3,-2,d1),(3,-1,d2),(1,4,d3)],⟨x.1,x.2.1,x.2.2.1,x.2.2.2.1,x.2.2.2.2.1,x.2.2.2.2.2.1,.fz (.lst (([(-3,-2),(3,-1),(1,4)]:List (Int×Int)).map dT)),x.2.2.2.2.2.2.2.1,x.2.2.2.2.2.2.2.2⟩,rfl,xeH g.1 g.2.1 g.2.2⟩
 rintro _ ⟨rows,x,rfl,hF⟩
 have l3:=hF.l3
 have l8:=hF.l8
 refine⟨tk (by decide),fun u u0 u7=>⟨tk (by decide),fun v v0 v7=>⟨rfl,?_⟩⟩⟩
 refine⟨by rw[xkP];exact sqz (by omega),yK (f:=trR) (fun r=>trR (rN (u-3) (v-3) r)) (fun r hr N hN=>?_) ?_⟩
 ·have:=hF.sm r hr
  exact⟨rfl,ua (by omega) (by omega),ua (by omega) (by omega),hN⟩
 have hM:=hF.moved (u:=u-3) (v:=v-3) (by omega) (by omega)
 have em:rows.map (fun r=>trR (rN (u-3) (v-3) r))=(rows.map (rN (u-3) (v-3))).map trR:=by rw[xkZ];rfl
 rw[em]
 generalize rows.map (rN (u-3) (v-3))=mv at hM
 have m3:=hM.l3
 have m8:=hM.l8
 refine⟨tk (by rw[xkP];omega),fun t t0 t1=>?_⟩
 obtain⟨n,rfl⟩:∃n:Nat,t=(n:Int):=⟨t.toNat,by omega⟩
 show(fV (mv.map trR) (some (n:Int)) none).length+(fV (mv.map trR) none (some (n:Int))).length≤sizeLine∧KK (.tup (fV (mv.map trR) (some (n:Int)) none++fV (mv.map trR) none (some (n:Int))))
 rw[tz,oa]
 refine⟨xhF (by simp;omega),?_⟩
 have:=k _ (hM.rot n)
 rw[xkV,xkY,xk1] at this
 exact this
theorem fQ (B:Blt mg bn)(F:Fun K "_law_divisor" "_law_divisor" vt f fd)(m:mg "_law_divisor" = some (.ref f))(b:Binds K fd ["_law_one", "_law_other"] [])  :
  Own P w K mg base 1 "_law_divisor" ["_law_one", "_law_other"] (spT 2 false false xgM):=by
 refine xM F qK m b rfl (fun _ _ _ _ _ _ hr=>⟨_,_,
  (xc (oG PassesOwn.never (xK (uV hr.units) (pv 1) xg (xY _)) (xi (pH (i:=0) (j:=1) rfl qK.nd rfl rfl (by decide) rfl rfl (x8 (pv 1) (xy l9 (pv 0) (pv 1))) (by rfl))))
  (xi (xG (xl zH rfl (B.get "abs") vM (yn (pv 0)))))),
  (xj (mz (xr (xh k8 xa xn)) (rD (xN xa (xh xd2 xa xa))))
  (xA (yb vD (xw xa)))),fun ts KK hl h=>?_⟩)
 obtain⟨a,c,rfl,k⟩:=h
 refine nu (fun n τ=>∃x y:Int,τ=[.fz (.int x),.fz (.int y)]∧n=y.natAbs∧Fra.gd x y=Fra.gd a c) c.natAbs ⟨_,_,rfl,rfl,rfl⟩ ?_
 rintro n τ N ⟨x,y,rfl,rfl,hg⟩ hN
 refine xU (b := !decide (y=0)) (fun c0=>?_) (fun c0=>?_)
 ·have c0:y≠0:=by simpa using c0
  exact⟨c0,hN (x.fmod y).natAbs _ (Fra.o7 c0) ⟨_,_,rfl,rfl,by rw[Fra.xfQ];exact hg⟩⟩
 ·have c0:y=0:=by simpa using c0
  subst c0
  rw[Fra.xfB] at hg
  have k:KK (.int (Fra.gd a c)):=k
  rw[←hg] at k
  exact k
theorem cA (B:Blt mg bn)(F:Fun K "_law_low" "_law_low" j4 f fd)(m:mg "_law_low" = some (.ref f))(b:Binds K fd ["_law_top", "_law_bottom"] [])(vm:Own P w K mg base 1 "_law_divisor" ["_law_one", "_law_other"] (spT 2 false false xgM)) :
  Own P w K mg base 2 "_law_low" ["_law_top", "_law_bottom"] (spT 2 false false xbK):=by
 refine xM F jg m b rfl (fun _ _ _ _ _ _ hr=>⟨_,_,
  (xc (yL 2 jg.nd (xq vm hr (x8 (pv 0) (pv 1))))
  (xc (yA (xK (jy K hr.units) (pv 1) xg (xY _)) (xi (yL 2 jg.nd (xy zN xg (pv 2)))) xX)
  (xi (xG (yr (x8 (xy jq (pv 0) (pv 2)) (xy jq (pv 1) (pv 2)))))))),
  (xj (xO (xR (xN xa xa)))
  (xj (yd (xr (xh jE xa xn)) (xO (xh zQ xn xa)) xJ)
  (xA (yu (b:=true) (xN (xh dz xa xa) (xh dz xa xa)))))),fun ts KK hl h=>?_⟩)
 obtain⟨t,b,rfl,hb,bd,k⟩:=h
 refine⟨t,b,rfl,?_⟩
 have gp:=Fra.pN (a:=t) (b:=b) (.inr hb)
 have gb:Bd (Fra.gd t b):=xbC hb bd
 refine xU (b:=decide (b<0)) (fun c=>?_) (fun c=>?_)
 ·have c:=xlV c
  rw[xfT c] at k
  have gn:Bd (0-Fra.gd t b):=by unfold Bd at *;omega
  have e1:∀x:Int,x.fdiv (0-Fra.gd t b)=(-x) / Fra.gd t b:=fun x=>by
   have h:=Int.neg_fdiv_neg (-x) (Fra.gd t b)
   rw[Int.neg_neg] at h
   rw[show 0-Fra.gd t b = -(Fra.gd t b) by omega,h,u6 (by omega)]
  have e2:Fra.low (-t) (-b)=((-t) / Fra.gd t b,(-b) / Fra.gd t b):=by
   unfold Fra.low
   rw[show Fra.gd (-t) (-b)=Fra.gd t b by unfold Fra.gd;simp]
  rw[e2,←e1,←e1] at k
  exact⟨⟨by show(0-Fra.gd t b)≠0;omega,gn⟩,⟨by show(0-Fra.gd t b)≠0;omega,gn⟩,k⟩
 ·have c:=xlU c
  rw[xar (by omega)] at k
  refine⟨⟨by show Fra.gd t b≠0;omega,gb⟩,⟨by show Fra.gd t b≠0;omega,gb⟩,?_⟩
  show KK (.tup [.int (t.fdiv (Fra.gd t b)),.int (b.fdiv (Fra.gd t b))])
  rw[u6 (by omega),u6 (by omega)]
  exact k
theorem gO (B:Blt mg bn)(F:Fun K "_law_crossing" "_law_crossing" uS f fd)(m:mg "_law_crossing" = some (.ref f))(b:Binds K fd ["_law_one", "_law_other"] [])(yH:Own P w K mg base 2 "_law_low" ["_law_top", "_law_bottom"] (spT 2 false false xbK)) :
  Own P w K mg base 3 "_law_crossing" ["_law_one", "_law_other"] (spT 2 false false sR):=by
 refine xM F um m b rfl (fun _ _ _ _ _ _ hr=>⟨_,_,
  (xc (yL 2 um.nd (xy zN (xy xP (xD K 0) (xD K 1)) (xy xP (xD K 0) (xD K 1))))
  (xc (yA (xK (we hr.units) (pv 2) xg (xY _)) (xi (xG gA)) xX)
  (xc (yL 3 um.nd (xq yH hr (x8 (xy zN (xy xP (xD K 0) (xD K 1)) (xy xP (xD K 0) (xD K 1))) (pv 2))))
  (xi (xG (yr (x8 (pv 3) (xq yH hr (x8 (xy zN (xy xP (xD K 0) (xD K 1)) (xy xP (xD K 0) (xD K 1))) (pv 2)))))))))),
  (xj (xO (xh zQ (xh x_ xE xE) (xh x_ xE xE)))
  (xj (yd (xr (xh os_eq xa xn)) (xA (vp (t:=Tr.non))) xJ)
  (xj (xO (xR (xN (xh zQ (xh x_ xE xE) (xh x_ xE xE)) xa)))
  (xA (yu (b:=true) (xN xa (xR (xN (xh zQ (xh x_ xE xE) (xh x_ xE xE)) xa)))))))),fun ts KK hl h=>?_⟩)
 obtain⟨s,t,rfl,hs,ht,k⟩:=h
 refine⟨⟨hs.1.1.bd,ht.1.2.bd⟩,⟨hs.1.2.bd,ht.1.1.bd⟩,?_⟩
 refine xU (b:=decide (Pol.turn s t=0)) (fun c=>?_) (fun c=>?_)
 ·rw[mK (xlV c)] at k
  exact k
 ·have c:=xlU c
  have bt:Bd (Pol.turn s t):=((hs.1.1.mul ht.1.2).sub (hs.1.2.mul ht.1.1)).bd
  rw[sF c,cK c] at k
  exact⟨⟨hs.2.bd,ht.1.2.bd⟩,⟨hs.1.2.bd,ht.2.bd⟩,_,_,rfl,c,bt,⟨hs.1.1.bd,ht.2.bd⟩,⟨hs.2.bd,ht.1.1.bd⟩,_,_,rfl,c,bt,k⟩
theorem aJ (B:Blt mg bn)(F:Fun K "_law_value" "_law_value" qB f fd)(m:mg "_law_value" = some (.ref f))(b:Binds K fd ["_law_row", "_law_place"] [])(yH:Own P w K mg base 2 "_law_low" ["_law_top", "_law_bottom"] (spT 2 false false xbK)) :
  Own P w K mg base 3 "_law_value" ["_law_row", "_law_place"] (spT 2 false false l_):=by
 refine xM F vZ m b rfl (fun _ _ _ _ _ _ hr=>⟨_,_,
  (xc (kN (pv 1) (zz K (n:=2) rfl (xH (zJ 2 vZ.nd) (xH (zJ 3 vZ.nd) za))))
  (xi (xG (xq yH hr (x8 (xy zT (xy xP (xy xP (xD K 0) (xD K 2)) (xD K 3)) (xy xP (xy xP (xD K 0) (xD K 3)) (xD K 2))) (xy xP (xD K 2) (xD K 3))))))),
  (xj (qx xa (zg (xx xk (xx xk yO))).g)
  (xA (xR (xN (xh uu (xh x_ (xh x_ xE xE) xE) (xh x_ (xh x_ xE xE) xE)) (xh x_ xE xE))))),fun ts KK hl h=>?_⟩)
 obtain⟨r,p,rfl,hr,hx,hy,k⟩:=h
 exact⟨rfl,⟨hr.1.1.bd,hx.top.bd⟩,⟨(hr.1.1.mul hx.top).bd,hy.bot.bd⟩,⟨hr.1.2.bd,hy.top.bd⟩,⟨(hr.1.2.mul hy.top).bd,hx.bot.bd⟩,⟨hx.bot.bd,hy.bot.bd⟩,_,_,rfl,by have:=Pol.pp hx.pos hy.pos;omega,(hx.bot.mul hy.bot).bd,k⟩
theorem aQ (B:Blt mg bn)(F:Fun K "_law_keeps" "_law_keeps" qw f fd)(m:mg "_law_keeps" = some (.ref f))(b:Binds K fd ["_law_row", "_law_place"] [])(qJ:Own P w K mg base 3 "_law_value" ["_law_row", "_law_place"] (spT 2 false false l_)) :
  Own P w K mg base 4 "_law_keeps" ["_law_row", "_law_place"] (spT 2 false false xaK):=by
 refine xM F jD m b rfl (fun _ _ _ _ _ _ hr=>⟨_,_,
  (xc (yL 2 jD.nd (xq qJ hr (x8 (pv 0) (pv 1))))
  (xi (xG (zA jj (xD K 2) (xy xP (xD K 0) (xD K 2)) (xY _))))),
  (xj (xO (xR (xN xa xa)))
  (xA (xh jo xE (xh x_ xE xE)))),fun ts KK hl h=>?_⟩)
 obtain⟨r,p,rfl,hr,hx,hy,k⟩:=h
 exact⟨r,p,rfl,hr,hx,hy,⟨hr.2.bd,xdn hx hy hr⟩,k⟩
theorem mH (B:Blt mg bn)(F:Fun K "_law_less" "_law_less" jr f fd)(m:mg "_law_less" = some (.ref f))(b:Binds K fd ["_law_one", "_law_other"] [])  :
  Own P w K mg base 1 "_law_less" ["_law_one", "_law_other"] (spT 2 false false xdW):=by
 refine xM F nt m b rfl (fun _ _ _ _ _ _ hr=>⟨_,_,
  (xi (xG (zA (jy K hr.units) (xy xP (xD K 0) (xD K 1)) (xy xP (xD K 1) (xD K 0)) (xY _)))),
  (xA (xh jE (xh x_ xE xE) (xh x_ xE xE))),fun ts KK hl h=>?_⟩)
 obtain⟨f,g,rfl,hf,hg,k⟩:=h
 exact⟨⟨hf.top.bd,hg.bot.bd⟩,⟨hg.top.bd,hf.bot.bd⟩,k⟩
theorem aV (B:Blt mg bn)(F:Fun K "_law_minus" "_law_minus" qQ f fd)(m:mg "_law_minus" = some (.ref f))(b:Binds K fd ["_law_one", "_law_other"] [])(yH:Own P w K mg base 2 "_law_low" ["_law_top", "_law_bottom"] (spT 2 false false xbK)) :
  Own P w K mg base 3 "_law_minus" ["_law_one", "_law_other"] (spT 2 false false xaq):=by
 refine xM F rV m b rfl (fun _ _ _ _ _ _ hr=>⟨_,_,
  (xi (xG (xq yH hr (x8 (xy zN (xy xP (xD K 0) (xD K 1)) (xy xP (xD K 1) (xD K 0))) (xy xP (xD K 0) (xD K 1)))))),
  (xA (xR (xN (xh zQ (xh x_ xE xE) (xh x_ xE xE)) (xh x_ xE xE)))),fun ts KK hl h=>?_⟩)
 obtain⟨f,g,rfl,hf,hg,k⟩:=h
 exact⟨⟨hf.top.bd,hg.bot.bd⟩,⟨hg.top.bd,hf.bot.bd⟩,⟨hf.bot.bd,hg.bot.bd⟩,_,_,rfl,by have:=Pol.pp hf.pos hg.pos;omega,(hf.bot.mul hg.bot).bd,k⟩
theorem rL (B:Blt mg bn)(F:Fun K "_law_times" "_law_times" qE f fd)(m:mg "_law_times" = some (.ref f))(b:Binds K fd ["_law_one", "_law_other"] [])(yH:Own P w K mg base 2 "_law_low" ["_law_top", "_law_bottom"] (spT 2 false false xbK)) :
  Own P w K mg base 3 "_law_times" ["_law_one", "_law_other"] (spT 2 false false xbo):=by
 refine xM F rX m b rfl (fun _ _ _ _ _ _ hr=>⟨_,_,
  (xi (xG (xq yH hr (x8 (xy xP (xD K 0) (xD K 1)) (xy xP (xD K 0) (xD K 1)))))),
  (xA (xR (xN (xh x_ xE xE) (xh x_ xE xE)))),fun ts KK hl h=>?_⟩)
 obtain⟨f,g,rfl,hf,hg,k⟩:=h
 exact⟨⟨hf.top.bd,hg.top.bd⟩,⟨hf.bot.bd,hg.bot.bd⟩,_,_,rfl,by have:=Pol.pp hf.pos hg.pos;omega,(hf.bot.mul hg.bot).bd,k⟩
theorem rB (B:Blt mg bn)(F:Fun K "_law_cross" "_law_cross" qA f fd)(m:mg "_law_cross" = some (.ref f))(b:Binds K fd ["_law_one", "_law_other", "_law_third"] [])(vf:Own P w K mg base 3 "_law_times" ["_law_one", "_law_other"] (spT 2 false false xbo))(zD:Own P w K mg base 3 "_law_minus" ["_law_one", "_law_other"] (spT 2 false false xaq)) :
  Own P w K mg base 4 "_law_cross" ["_law_one", "_law_other", "_law_third"] (spT 3 false false xa9):=by
 refine xM F jO m b rfl (fun _ _ _ _ _ _ hr=>⟨_,_,
  (xc (yL 3 jO.nd (xq vf hr (x8 (xq zD hr (x8 (xD K 1) (xD K 0))) (xq zD hr (x8 (xD K 2) (xD K 0))))))
  (xi (xG (wH (yW K) (xq zD hr (x8 (pv 3) (xq vf hr (x8 (xq zD hr (x8 (xD K 1) (xD K 0))) (xq zD hr (x8 (xD K 2) (xD K 0))))))) xg (fun _ _=>rfl))))),
  (xj (xO (xR (xN (xR (xN xE xE)) (xR (xN xE xE)))))
  (xA (kK (xR (xN xa (xR (xN (xR (xN xE xE)) (xR (xN xE xE)))))) xn))),fun ts KK hl h=>?_⟩)
 obtain⟨p,q,w,rfl,hp,hq,hw,k⟩:=h
 have m:∀ {f g:F2},Fk 200 f→Fk 200 g→Fk 401 (fmin f g):=fun h1 h2=>h1.min h2
 have t:∀ {f g:F2},Fk 401 f→Fk 401 g→Fk 900 (xeT f g):=fun h1 h2=>(h1.tim h2).mono (by decide)
 have u:∀ {k:Nat} {f:F2},Fk k f→k≤900→Fk 900 f:=fun h hk=>h.mono hk
 exact⟨q.1,p.1,rfl,u hq.1 (by decide),u hp.1 (by decide),w.2,p.2,rfl,u hw.2 (by decide),u hp.2 (by decide),_,_,rfl,u (m hq.1 hp.1) (by decide),u (m hw.2 hp.2) (by decide),
  q.2,p.2,rfl,u hq.2 (by decide),u hp.2 (by decide),w.1,p.1,rfl,u hw.1 (by decide),u hp.1 (by decide),_,_,rfl,u (m hq.2 hp.2) (by decide),u (m hw.1 hp.1) (by decide),
  _,_,rfl,t (m hq.1 hp.1) (m hw.2 hp.2),t (m hq.2 hp.2) (m hw.1 hp.1),k⟩
theorem tU (B:Blt mg bn)(F:Fun K "_law_ring" "_law_ring" wW f fd)(m:mg "_law_ring" = some (.ref f))(b:Binds K fd ["_law_places"] [])(vS:Own P w K mg base 1 "_law_less" ["_law_one", "_law_other"] (spT 2 false false xdW))(uJ:Own P w K mg base 5 "_law_all_left" ["_law_here", "_law_place", "_law_some"] (spT 3 false false dD)) :
  Own P w K mg base 6 "_law_ring" ["_law_places"] (spT 1 false false xed):=by
 refine xM F yV m b rfl (fun _ _ _ _ _ _ hr=>⟨_,_,
  (xc (ug (i:=1) yV.nd rfl (Or.inr rfl) (yX u9))
  (xc (ue PassesOwn.never rfl (yy K (pv 0)) (xS (i:=2) yV.nd rfl (Or.inr rfl)) (xc (vE (i:=3) yV.nd rfl (Or.inl rfl) (xT (N:=["_law_one", "_law_place"]) (tau:=[none,some 2]) (XN:=["_law_places", "_law_some", "_law_place", "_law_ahead", "_law_found", "_law_k", "_law_here"]) (xs:=xf wW) (by decide +kernel) rfl rfl) rfl (yB rfl) (yy K (pv 1)) (fun _ _ _ _=>(xS (i:=0) (show(["_law_one", "_law_place"]:List Str).Nodup by decide +kernel) rfl (Or.inl rfl))) (fun _ _ _ _=>(qG (yY (xq vS hr (x8 (xD K 0) (xD K 1)))))) (fun _ _ _ _=>(pv 0)))
  (xc (yL 3 yV.nd (xy sC (pv 3) (yF (xT (N:=["_law_one", "_law_place"]) (tau:=[none,some 2]) (XN:=["_law_places", "_law_some", "_law_place", "_law_ahead", "_law_found", "_law_k", "_law_here"]) (xs:=xf wW) (by decide +kernel) rfl rfl) rfl (yB rfl) (yy K (pv 1)) (fun _ _ _ _=>(xS (i:=0) (show(["_law_one", "_law_place"]:List Str).Nodup by decide +kernel) rfl (Or.inl rfl))) (fun _ _ _ _=>(qG (PW.pt (fo (xK (we hr.units) (xD K 0) (xD K 1) (xY _)) (k_ (yY (xq vS hr (x8 (xD K 0) (xD K 1))))))))) (fun _ _ _ _=>(pv 0)))))
  (xi (yA (xK (bK hr.units) (pv 2) (pv 1) (by with_unfolding_all rfl)) (xi (vk (ur PySem.F.plainAttrs_list PySem.F.slot_list_insert PySem.F.type_list_insert tV (pv 1) (x8 (xl (yD K) rfl (B.get "len") wk (yn (pv 3))) (pv 2))))) xX)))))
  (xc (yA (xK (jy K hr.units) (xl (yD K) rfl (B.get "len") wk (yn (pv 1))) xg (xY _)) (xi (xG (pv 1))) xX)
  (xc (ug (i:=4) yV.nd rfl (Or.inr rfl) (yS (xaw K) (pv 1) zt (zm xg)))
  (xc (ue PassesOwn.never rfl (vI rfl (B.get "range") (yn (xy zN (xl (yD K) rfl (B.get "len") wk (yn (pv 1))) xg))) (zJ 5 yV.nd) (xc (ug (i:=6) yV.nd rfl (Or.inr rfl) (wH (yW K) (pv 4) (vX wB xg) (fun _ _=>rfl)))
  (xi (ug (i:=4) yV.nd rfl (Or.inr rfl) (xy (xfm K) (pv 4) (yS (xaw K) (yF (xT (N:=["_law_place", "_law_found", "_law_here", "_law_some"]) (tau:=[none,some 4,some 6,some 1]) (XN:=["_law_places", "_law_some", "_law_place", "_law_ahead", "_law_found", "_law_k", "_law_here"]) (xs:=xf wW) (by decide +kernel) rfl rfl) rfl (yB rfl) (yy K (pv 1)) (fun _ _ _ _=>(xS (i:=0) (show(["_law_place", "_law_found", "_law_here", "_law_some"]:List Str).Nodup by decide +kernel) rfl (Or.inl rfl))) (fun _ _ _ _=>(qG (PW.pt (fo (xK (bK hr.units) (pv 0) (pv 1) (by with_unfolding_all rfl)) (k_ (yY (xq uJ hr (xQ (pv 2) (x8 (pv 0) (pv 3)))))))))) (fun _ _ _ _=>(pv 0))) zt (zm xg)))))))
  (xi (xG (pv 4)))))))),
  (xj (wF (hV uP))
  (xj (zE (yf xa) xk.g (xj (xO (OkF.e (ya dP xk (yG (xR (xN xE xE))) xa)))
  (xj (xO (OkF.e (bJ xa (OkF.e (ya dP xk (k7 (xr (xh os_eq xE xE)) (yG (xR (xN xE xE)))) xa)))))
  (yd (xr (xh lD xa kg)) (xaQ (yb vc (xw xa)) xa) xJ))))
  (xj (yd (xr (xh jE (yb vc (xw kg)) xn)) p_ xJ)
  (xj (xbI (i:=1) (xO (xb_ xa yU (yT xn))))
  (xj (zE (uD (xw (xh zQ (yb vc (xw xa)) xn))) xk.g (xj (xO (kK xa (wo xn)))
  (xO (xfj xa (xb_ (OkF.e (ya (yf xa).c xk (k7 (xr (xh lD xa xa)) (yG (xR (xI xa (xN xa xa))))) xa)) yU (yT xn))))))
  (xA xa)))))),fun ts KK hl h=>?_⟩)
 obtain⟨ps,l,rfl,hm,hl',hr,k⟩:=h
 have inl:∀ {i v},v∈ps.take i→v∈l:=fun hv=>(hm _).mp (xle hv)
 have pk:∀ {v},v∈l→Pk 190 (plc v):=fun {v} hv=>xbk (hr.pos v hv) (hr.sm v hv)
 refine wu (all:=ps.map wc) (fun i τ=>∃(ss:List Pol.R3) (x2 x3 x4 x5 x6:TV),τ=[.fz (.lst (ps.map wc)),.ow (ss.map wc),x2,x3,x4,x5,x6]∧dW ss (ps.take i)∧ss.length≤i)
  ⟨[],_,_,_,_,_,rfl,⟨List.nodup_nil,fun v=>by simp,fun h t e=>by cases e⟩,xlw _⟩ ?_ ?_
 ·rintro i x τ N hx ⟨ss,x2,x3,x4,x5,x6,rfl,hs,hlen⟩ hN
  obtain⟨p,hp,rfl⟩:=qc hx
  have hpl:=(hm p).mp (xlc hp)
  have hi:=(xkF.mp hp).1
  have tk:ps.take (i+1)=ps.take i++[p]:=by rw[xls,hp];rfl
  have sl:∀v∈ss,v∈l:=fun v hv=>inl ((hs.mem v).mp hv)
  have sp:∀v∈ss,0<v.2.2:=fun v hv=>hr.pos v (sl v hv)
  have z:∀n,n≤2000→n<sizeLine:=fun n hn=>sqz (by omega)
  have fk1:∀ {v},v∈l→Fk 1000 (plc v).1:=fun hv=>(pk hv).1.mono (by decide)
  have fk2:∀ {v},v∈l→Fk 1000 (plc v).2:=fun hv=>(pk hv).2.mono (by decide)
  refine⟨by rw[xkP];exact z _ (by omega),zq (f:=wc) (fun v=>kJ (plc v).1 (plc p).1) wc (fun v hv N M h1 h0=>?_) ?_⟩
  ·exact⟨(plc v).1,(plc p).1,rfl,fk1 (sl v hv),fk1 hpl,xU h1 h0⟩
  refine⟨by rw[xkP];exact z _ (by omega),zq (f:=wc) (fun v=>decide ((plc v).1=(plc p).1)&&kJ (plc v).2 (plc p).2) wc (fun v hv N M h1 h0=>?_) ?_⟩
  ·refine⟨⟨rfl,rfl,by show min 1 1≤64;decide⟩,?_⟩
   refine xU (b:=teq (fT (plc v).1) (fT (plc p).1)) (fun c=>?_) (fun c=>?_)
   ·rw[mL] at c
    refine⟨(plc v).2,(plc p).2,rfl,fk2 (sl v hv),fk2 hpl,?_⟩
    exact xU (fun d=>h1 (by rw[c,d];rfl)) (fun d=>h0 (by rw[c,d];rfl))
   ·rw[mL] at c
    exact bV (h0 (by rw[c];rfl))
  have f1:=List.length_filter_le (fun v=>kJ (plc v).1 (plc p).1) ss
  have f2:=List.length_filter_le (fun v=>decide ((plc v).1=(plc p).1)&&kJ (plc v).2 (plc p).2) ss
  refine⟨xhF (by rw[xkP,xkP];omega),?_⟩
  refine⟨⟨rfl,fD ss,by show(2:Nat)≤60;decide⟩,?_⟩
  refine xU (b := !((ss.map wc).any fun u=>teq u (wc p))) (fun c=>?_) (fun c=>?_)
  ·rw[oO hr.pos hr.prim sl hpl] at c
   have c:p∉ss:=by simpa using c
   refine⟨zo ss p,?_,?_,?_,?_⟩
   ·unfold zo
    rw[xkL,xkP,xkP]
   ·rw[xkP];exact xb2
   ·rw[xkP];exact z _ (by omega)
   ·have hh:=hs.ins sp (hr.pos p hpl) c
    rw[←tk] at hh
    have e:(ss.map wc).take (zo ss p)++[wc p]++(ss.map wc).drop (zo ss p)=(ss.take (zo ss p)++[p]++ss.drop (zo ss p)).map wc:=by
     rw[xkV,xkV,xk1,xkY];rfl
    rw[e]
    refine hN _ ⟨_,_,_,_,_,_,rfl,hh,?_⟩
    rw[xkL,xkL,xkT,xkN,xkS];omega
  ·rw[oO hr.pos hr.prim sl hpl] at c
   have c:p∈ss:=by simpa using c
   have hh:=hs.stay c
   rw[←tk] at hh
   exact hN _ ⟨ss,_,_,_,_,_,rfl,hh,by omega⟩
 ·rintro τ ⟨ss,x2,x3,x4,x5,x6,rfl,hs,hlen⟩
  rw[xkP,xlr (xlw _)] at hs
  have hml:∀v,v∈ss↔v∈l:=fun v=>(hs.mem v).trans (hm v)
  have eqlen:=Pol.sS hs.nd hr.ccw.nd hml
  refine xU (b:=decide (((ss.map wc).length:Int)<3)) (fun c=>?_) (fun c=>?_)
  ·have c:=xlV c
   rw[xkP] at c
   rw[←lK hr hs.nd hml hs.least (by omega)] at k
   exact k
  ·have c:=xlU c
   rw[xkP] at c
   have hh:=mX hr hml hs.least
   have tk1:(ss.map wc).take 1=(l.take 1).map wc:=by
    rw[←xk1]
    congr 1
    cases ss with
    | nil=>simp at c
    | cons a t =>
     cases l with
     | nil=>simp at eqlen
     | cons b u=>simp at hh;rw[hh];rfl
   have z:∀n,n≤2000→n<sizeLine:=fun n hn=>sqz (by omega)
   have hln:=hr.len
   have sl:∀v∈ss,v∈l:=fun v hv=>(hml v).mp hv
   have pk2:∀ {v},v∈l→Pk 200 (plc v):=fun hv=>⟨(pk hv).1.mono (by decide),(pk hv).2.mono (by decide)⟩
   have rn:(((ss.map wc).length:Int)-1).toNat=l.length-1:=by rw[xkP];omega
   have main:xcl (eName 5) (xg6 (xhJ 6 (d2 fIx (nX 4) (d1 xiT (dC (Tr.int 1)))))
             (xhJ 4
              (d2 xc0 (nX 4)
               (dSl
                (xgO [none,some 4,some 6,some 1] (xiD (nX 1)) (eName 0)
                 (xiN (xhD (d2 (fIn true) (nX 0) (nX 1)))
                  (xhD (xbj dD (rp (nX 2) (rp (nX 0) (rp (nX 3) xdR))))))
                 (nX 0))
                bN (xfA (dC (Tr.int 1))))))) { nx:=xhI (nX 4) { nx:=fun x=>false=false∧KK Tr.non,rt:=KK },rt:=KK } (xdO 0 (l.length-1))
         [.fz (.lst (ps.map wc)),.fz (.lst (ss.map wc)),x2,x3,.fz (.lst ((l.take 1).map wc)),x5,x6]:=by
    refine wu (fun i τ=>∃(x5 x6:TV),τ=[.fz (.lst (ps.map wc)),.fz (.lst (ss.map wc)),x2,x3,.fz (.lst ((l.take (i+1)).map wc)),x5,x6]) ⟨_,_,rfl⟩ ?_ ?_
    ·rintro i x τ N hx ⟨x5,x6,rfl⟩ hN
     have hi:i<l.length-1:=by have:=(xkF.mp hx).1;rw[wm] at this;exact this
     have ha:l[i]? = some l[i]:=xkD (by omega)
     have hb:l[i+1]? = some l[i+1]:=xkD (by omega)
     generalize ea:l[i]=a at ha
     generalize eb:l[i+1]=b at hb
     have ham:=xlc ha
     have t1:l.take (i+1)=l.take i++[a]:=by rw[xls,ha];rfl
     have t2:l.take (i+1+1)=l.take (i+1)++[b]:=by rw[xls,hb];rfl
     have last:atT ((l.take (i+1)).map wc) (-1)=some (wc a):=by rw[t1,xkV];exact aE _ _
     show lU (atT ((l.take (i+1)).map wc) (-1)) _
     rw[last]
     refine⟨by rw[xkP];exact z _ (by omega),?_⟩
     refine zq (f:=wc) (fun v=>!decide (plc v∈(l.take (i+1)).map plc)&&(ss.map plc).all fun w=>!decide (gE (plc a) (plc v) w<0)) wc (fun v hv N M h1 h0=>?_) ?_
     ·refine⟨⟨rfl,fD _,by show(2:Nat)≤60;decide⟩,?_⟩
      refine xU (b := !(((l.take (i+1)).map wc).any fun u=>teq u (wc v))) (fun d=>?_) (fun d=>?_)
      ·rw[gY,qr,xbO] at d
       refine⟨plc a,plc v,ss.map plc,by rw[←gY];rfl,pk2 ham,pk2 (sl v hv),fun w hw=>?_,by rw[xkP];omega,?_⟩
       ·obtain⟨y,hy,rfl⟩:=xla.mp hw
        exact pk2 (sl y hy)
       ·exact xU (fun e=>h1 (by rw[d,e];rfl)) (fun e=>h0 (by rw[d,e];rfl))
      ·rw[gY,qr,xbO] at d
       exact bV (h0 (by rw[d];rfl))
     ·rw[xcg hr hs.nd hml ha hb]
      have e1:fV (List.map wc [b]) none (some 1)=[wc b]:=oa _ 1
      dsimp only[bN,xfA,dC]
      rw[e1]
      rw[t2] at hN
      refine⟨xhF (by simp;omega),hN _ ⟨.fz x,.fz (wc a),?_⟩⟩
      rw[xkV];rfl
    ·rintro τ ⟨x5,x6,rfl⟩
     rw[wm,show l.length-1+1=l.length by omega,xlr (xlw _)]
     exact k
   refine⟨⟨by have:=hr.len;simp;omega,by have:=hr.len;simp;omega⟩,?_⟩
   rw[rn]
   have e1:fV (ss.map wc) none (some 1)=(l.take 1).map wc:=(oa _ 1).trans tk1
   rw[←e1] at main
   exact main
theorem gS (B:Blt mg bn)(F:Fun K "_law_all_left" "_law_all_left" wy f fd)(m:mg "_law_all_left" = some (.ref f))(b:Binds K fd ["_law_here", "_law_place", "_law_some"] [])(qu:Own P w K mg base 4 "_law_cross" ["_law_one", "_law_other", "_law_third"] (spT 3 false false xa9)) :
  Own P w K mg base 5 "_law_all_left" ["_law_here", "_law_place", "_law_some"] (spT 3 false false dD):=by
 refine xM F gT m b rfl (fun _ _ _ _ _ _ hr=>⟨_,_,
  (xi (xG (zA (we hr.units) (yF (xT (N:=["_law_one", "_law_here", "_law_place"]) (tau:=[none,some 0,some 1]) (XN:=["_law_here", "_law_place", "_law_some"]) (xs:=xf wy) (by decide +kernel) rfl rfl) rfl (yB rfl) (yy K (pv 2)) (fun _ _ _ _=>(xS (i:=0) (show(["_law_one", "_law_here", "_law_place"]:List Str).Nodup by decide +kernel) rfl (Or.inl rfl))) (fun _ _ _ _=>(qG (xK (jy K hr.units) (xq qu hr (xQ (pv 1) (x8 (pv 2) (pv 0)))) xg (xY _)))) (fun _ _ _ _=>(pv 0))) (yX u9) (xY _)))),
  (xA (xh os_eq (OkF.e (ya (yf xa).c xk (xr (xh jE (xR (xI xa (xN xa xa))) xn)) xa)) (wa (b:=true) uP))),fun ts KK hl h=>?_⟩)
 obtain⟨p,q,ws,rfl,hp,hq,hw,hl',k⟩:=h
 refine⟨by rw[xkP];exact sqz (by omega),zq (fun w=>decide (gE p q w<0)) pT (fun w hwm N M h1 h0=>?_) ?_⟩
 ·refine⟨p,q,w,rfl,hp,hq,hw w hwm,?_⟩
  exact xU (b:=decide (gE p q w<0)) h1 h0
 ·refine rh (xas _) ?_
  rw[xkK,filter_empty]
  exact k
theorem dX (B:Blt mg bn)(F:Fun K "_law_corners" "_law_corners" wX f fd)(m:mg "_law_corners" = some (.ref f))(b:Binds K fd ["_law_rows"] [])(jd:Own P w K mg base 6 "_law_ring" ["_law_places"] (spT 1 false false xed))(uK:Own P w K mg base 3 "_law_crossing" ["_law_one", "_law_other"] (spT 2 false false sR))(qt:Own P w K mg base 4 "_law_keeps" ["_law_row", "_law_place"] (spT 2 false false xaK)) :
  Own P w K mg base 7 "_law_corners" ["_law_rows"] (spT 1 false false nM):=by
 refine xM F zh m b rfl (fun _ _ _ _ _ _ hr=>⟨_,_,
  (xc (yL 1 zh.nd (yX u9))
  (xc (ue PassesOwn.never rfl (vI rfl (B.get "range") (yn (xl (yD K) rfl (B.get "len") wk (yn (pv 0))))) (zJ 2 zh.nd) (xi (ue PassesOwn.never rfl (yy K (yS (xaw K) (pv 0) (zm (xy zT (pv 2) xg)) zt)) (zJ 3 zh.nd) (xc (ug (i:=4) zh.nd rfl (Or.inr rfl) (xq uK hr (x8 (wH (yW K) (pv 0) (pv 2) (fun _ _=>rfl)) (pv 3))))
  (xi (yA (PW.pt (fo (tP (xe5 (pv 4))) (k_ (xK (we hr.units) (yF (xT (N:=["_law_row", "_law_place"]) (tau:=[none,some 4]) (XN:=["_law_rows", "_law_found", "_law_at", "_law_other", "_law_place"]) (xs:=xf wX) (by decide +kernel) rfl rfl) rfl (yB rfl) (yy K (pv 0)) (fun _ _ _ _=>(xS (i:=0) (show(["_law_row", "_law_place"]:List Str).Nodup by decide +kernel) rfl (Or.inl rfl))) (fun _ _ _ _=>(qG (wD (yY (xq qt hr (x8 (pv 0) (pv 1))))))) (fun _ _ _ _=>(pv 0))) (yX u9) (xY _))))) (xi (vk (ur PySem.F.plainAttrs_list PySem.F.slot_list_append PySem.F.type_list_append uR (pv 1) (yn (pv 4))))) xX))))))
  (xi (xG (xq jd hr (yn (pv 1))))))),
  (xj (wF (hV uP))
  (xj (zE (uD (xw (yb vc (xw xa)))) xk.g (zE (yf (xb_ xa (yT (xh uu xa xn)) yU)) xk.g (xj (xO (xR (xN (kK xa xa) xa)))
  (yd (k7 (yG (xeB xa)) (xr (xh os_eq (OkF.e (ya (yf xa).c xk (y8 (yG (xR (xN xa xa)))) xa)) (wa (b:=true) uP)))) (jl xa) xJ))))
  (xA (xR (xw kg))))),fun ts KK hl h=>?_⟩)
 obtain⟨rows,rfl,hr,k⟩:=h
 have ring:=hr.ring
 have rl:=hr.len
 have r3:∀r∈rows,B3k 10 r:=fun r hm=>qH (hr.fine.fr r hm)
 have cl:(n6 rows).length≤900:=ring.len
 let W:Nat→Nat→List Pol.R3→Prop:=fun i j ps=>(∀v∈ps,v∈n6 rows)∧ps.length≤i*8+j∧∀v∈n6 rows,∀a b s t,a<b→rows[a]? = some s→rows[b]? = some t→Pol.val s v=0→Pol.val t v=0→Pol.turn s t≠0→(a<i∨a=i∧b<i+1+j)→v∈ps
 refine⟨⟨by rw[xkP];omega,by rw[xkP];omega⟩,?_⟩
 rw[xkP,xkc]
 refine wu (fun i τ=>∃(ps:List Pol.R3) (x2 x3 x4:TV),τ=[.fz (.tup (rows.map trR)),.ow (ps.map wc),x2,x3,x4]∧W i 0 ps) ⟨[],_,_,_,rfl,by simp,by simp,?_⟩ ?_ ?_
 ·intro v hv a b s t hab ha hb e1 e2 hn hc
  omega
 ·rintro i x τ N hx ⟨ps,x2,x3,x4,rfl,hW⟩ hN
  have hi:i<rows.length:=by have:=(xkF.mp hx).1;rw[wm] at this;exact this
  rw[r_ hi] at hx
  cases hx
  have es:rows[i]? = some rows[i]:=xkD hi
  generalize egen:rows[i]=s at es
  have hs:=xlc es
  show xcl _ _ _ (fV (rows.map trR) (some ((0:Int)+i+1)) none) _
  rw[show(0:Int)+(i:Int)+1=((i+1:Nat):Int) by omega,tz,←xkY]
  refine wu (fun j τ=>∃(ps:List Pol.R3) (x3 x4:TV),τ=[.fz (.tup (rows.map trR)),.ow (ps.map wc),.fz (.int ((0:Int)+i)),x3,x4]∧W i j ps) ⟨ps,_,_,rfl,hW⟩ ?_ ?_
  ·rintro j y τ N2 hy ⟨ps,x3,x4,rfl,hW⟩ hN2
   obtain⟨t,ht,rfl⟩:=qc hy
   rw[xkC] at ht
   have htm:=xlc ht
   have hj:=(xkF.mp ht).1
   have at0:atT (rows.map trR) ((0:Int)+i)=some (trR s):=by rw[show(0:Int)+(i:Int)=((i:Nat):Int) by omega,aZ,xkG,es];rfl
   show lU (atT (rows.map trR) ((0:Int)+i)) _
   rw[at0]
   have step:∀qs:List Pol.R3,(∀v∈qs,v∈n6 rows)→(∀v∈ps,v∈qs)→qs.length≤ps.length+1→(∀v∈n6 rows,Pol.val s v=0→Pol.val t v=0→Pol.turn s t≠0→v∈qs)→W i (j+1) qs:=fun qs h1 h2 h3 h4=>by
    refine⟨h1,by have:=hW.2.1;omega,fun v hv a b s' t' hab ha hb e1 e2 hn hc=>?_⟩
    by_cases q:a=i∧b=i+1+j
    ·obtain⟨rfl,rfl⟩:=q
     rw[es] at ha;rw[ht] at hb
     cases ha;cases hb
     exact h4 v hv e1 e2 hn
    ·exact h2 v (hW.2.2 v hv a b s' t' hab ha hb e1 e2 hn (by omega))
   refine⟨s,t,rfl,(r3 s hs).mono (by decide),(r3 t htm).mono (by decide),?_⟩
   by_cases hn:Pol.turn s t=0
   ·rw[mK hn]
    exact hN2 _ ⟨ps,_,_,rfl,step ps hW.1 (fun v h=>h) (by omega) (fun v hv e1 e2 h=>absurd hn h)⟩
   ·rw[sF hn]
    obtain⟨cz,c1,c2⟩:=Pol.vP hn
    have cb:B3k 21 (Pol.yw s t):=by
     have S:=r3 s hs
     have T:=r3 t htm
     have m:∀ {x y z w:Int},Bk 10 x→Bk 10 y→Bk 10 z→Bk 10 w→Bk 21 (x*y-z*w):=fun h1 h2 h3 h4=>(h1.mul h2).sub (h3.mul h4)
     unfold Pol.yw Pol.turn
     split
     ·exact⟨⟨(m S.2 T.1.2 S.1.2 T.2).neg,(m S.1.1 T.2 S.2 T.1.1).neg⟩,(m S.1.1 T.1.2 S.1.2 T.1.1).neg⟩
     ·exact⟨⟨m S.2 T.1.2 S.1.2 T.2,m S.1.1 T.2 S.2 T.1.1⟩,m S.1.1 T.1.2 S.1.2 T.1.1⟩
    have pk:=xbk cz cb
    refine⟨by rw[xkP];exact sqz (by omega),zq (f:=trR) (fun r=>!dy r (plc (Pol.yw s t))) trR (fun r hm N M h1 h0=>?_) ?_⟩
    ·refine⟨r,plc (Pol.yw s t),rfl,(r3 r hm).mono (by decide),pk.1.mono (by decide),pk.2.mono (by decide),?_⟩
     exact xU (b := !dy r (plc (Pol.yw s t))) h1 h0
    ·dsimp only[xf3,xdR]
     refine rh (uE trR bf _) ?_
     rw[xkK,filter_empty]
     have ek:(rows.all fun r=>!!dy r (plc (Pol.yw s t)))=true↔∀r∈rows,Pol.val r (Pol.yw s t)≤0:=by
      rw[xki]
      refine⟨fun h r hm=>?_,fun h r hm=>?_⟩
      ·have:=h r hm
       rw[Bool.not_not,sy r cz] at this
       exact xlV this
      ·rw[Bool.not_not,sy r cz]
       exact xlR (h r hm)
     refine xU (b:=rows.all fun r=>!!dy r (plc (Pol.yw s t))) (fun c=>?_) (fun c=>?_)
     ·have c:=ek.mp c
      obtain⟨v,hv,e⟩:=hr.crossing hs htm hn c
      refine⟨by rw[xkP];exact sqz (by have:=hW.2.1;omega),?_⟩
      have e2:ps.map wc++[wc (Pol.yw s t)]=(ps++[v]).map wc:=by rw[e,xkV];rfl
      show N2 _
      rw[e2]
      refine hN2 _ ⟨ps++[v],_,_,rfl,step _ ?_ (fun w hw=>xk3 _ hw) (by simp) (fun w hw e1 e2 _=>?_)⟩
      ·intro w hw
       rcases xk2.mp hw with q | q
       ·exact hW.1 w q
       ·rw[xlg.mp q];exact hv
      ·have e3:=(hr.tightPt hw hn e1 e2).1
       have:w=v:=by
        have p1:=hr.corner hw
        have p2:=hr.corner hv
        refine rC p1.1.1 p2.1.1 p1.1.2.1 p2.1.2.1 ?_
        have e4:wc w=wc v:=e3.symm.trans e
        exact xgl e4
       rw[this];simp
     ·exact hN2 _ ⟨ps,_,_,rfl,step ps hW.1 (fun v h=>h) (by omega) (fun v hv e1 e2 _=>by
       have:=ek.mpr (hr.tightPt hv hn e1 e2).2
       rw[c] at this;cases this)⟩
  ·rintro τ ⟨ps,x3,x4,rfl,hW⟩
   refine hN _ ⟨ps,_,_,_,rfl,hW.1,?_,fun v hv a b s' t' hab ha hb e1 e2 hn hc=>?_⟩
   ·have:=hW.2.1
    rw[xkP,xkN] at this
    omega
   ·refine hW.2.2 v hv a b s' t' hab ha hb e1 e2 hn ?_
    have:=(xkF.mp hb).1
    rw[xkP,xkN]
    omega
 ·rintro τ ⟨ps,x2,x3,x4,rfl,hW⟩
  rw[wm] at hW
  refine⟨ps,n6 rows,rfl,fun v=>⟨hW.1 v,fun hv=>?_⟩,by have:=hW.2.1;omega,ring,k⟩
  obtain⟨⟨_,_,hc⟩,_⟩:=hr.corner hv
  obtain⟨s,hs,t,ht,e1,e2,hn⟩:=hc.two
  obtain⟨a,ha,ea⟩:=xk_.mp hs
  obtain⟨b,hb,eb⟩:=xk_.mp ht
  have ha':rows[a]? = some s:=by rw[xkD ha,ea]
  have hb':rows[b]? = some t:=by rw[xkD hb,eb]
  rcases Nat.lt_trichotomy a b with q | q | q
  ·exact hW.2.2 v hv a b s t q ha' hb' e1 e2 hn (.inl ha)
  ·subst q
   rw[ha'] at hb'
   cases hb'
   unfold Pol.turn at hn
   grind
  ·exact hW.2.2 v hv b a t s q hb' ha' e2 e1 (fun z=>hn (by unfold Pol.turn at *;grind)) (.inl hb)
end
end K91
namespace K91
open PySem L2 Tx NumText
open Builtin.Str (occurrences)
section
variable {P:Program} {w:World} {K:PySem.W.Frag} {mg:Str→Option Value} {base:Heap} {f:Addr} {fd:FuncData}
theorem zU {k d:Nat}(B:Blt mg bn)(F:Fun K "_law_same" "_law_same" uG f fd)(m:mg "_law_same" = some (.ref f))(b:Binds K fd ["_law_found", "_law_due_here"] [])(uH:Own P w K mg base k "_law_same" ["_law_found", "_law_due_here"] (spT 2 false false (xdI d))):Own P w K mg base (k+1) "_law_same" ["_law_found", "_law_due_here"] (spT 2 false false (xdI (d+1))):=by
 refine xM F gH m b rfl (fun _ _ _ _ _ _ hr=>⟨_,_,
  (xc (yA (yY (xl xaU rfl (B.get "isinstance") xu (x8 (pv 1) (yr (x8 (zF (v:=V.ty "tuple") rfl (B.get "tuple") zV rfl) (zF (v:=V.ty "list") rfl (B.get "list") n9 rfl)))))) (xc (yA (PW.pt (je (xK (uV hr.units) (xl ze rfl (B.get "isinstance") xu (x8 (pv 0) (zF (v:=V.ty "tuple") rfl (B.get "tuple") zV rfl))) (xl ze rfl (B.get "isinstance") xu (x8 (pv 1) (zF (v:=V.ty "tuple") rfl (B.get "tuple") zV rfl))) (xY _)) (vH (xK (uV hr.units) (xl ze rfl (B.get "isinstance") xu (x8 (pv 0) (zF (v:=V.ty "list") rfl (B.get "list") n9 rfl))) (xl ze rfl (B.get "isinstance") xu (x8 (pv 1) (zF (v:=V.ty "list") rfl (B.get "list") n9 rfl))) (xY _))))) (xi (xG uN)) xX)
  (xc (yA (xK (uV hr.units) (xl (yD K) rfl (B.get "len") wk (yn (pv 0))) (xl (yD K) rfl (B.get "len") wk (yn (pv 1))) (xY _)) (xi (xG uN)) xX)
  (xi (xG (xl (vF K rfl) rfl (B.get "all") tH (yn (yF (xT (N:=["_law_one", "_law_other"]) (tau:=[none,none]) (XN:=["_law_found", "_law_due_here"]) (xs:=xf uG) (by decide +kernel) rfl rfl) rfl (vJ (zd rfl (zd rfl j5))) (xbJ K rfl (B.get "zip") (x8 (pv 0) (pv 1))) (fun _ _ _ _=>(zz K (n:=2) rfl (xH (xS (i:=0) (show(["_law_one", "_law_other"]:List Str).Nodup by decide +kernel) rfl (Or.inl rfl)) (xH (xS (i:=1) (show(["_law_one", "_law_other"]:List Str).Nodup by decide +kernel) rfl (Or.inl rfl)) za)))) (fun _ _ _ _=>yM) (fun _ _ _ _=>(xq uH hr (x8 (pv 0) (pv 1)) (xlw _)))))))))) xX)
  (xi (xG (p7 (zA (we hr.units) (pv 0) (pv 1) (xY _)) (me (zA (we hr.units) (xl ze rfl (B.get "isinstance") xu (x8 (pv 0) (zF (v:=V.ty "bool") rfl (B.get "bool") ba rfl))) (xl ze rfl (B.get "isinstance") xu (x8 (pv 1) (zF (v:=V.ty "bool") rfl (B.get "bool") ba rfl))) (xY _))))))),
  (xj (yd (yG (xeJ xa)) (xj (yd (uT (xr (xh k8 (ve xa) (ve xa))) (xr (xh k8 (ve xa) (ve xa)))) (xA vg) xJ)
  (xj (yd (xr (xh k8 (yb vc (xw xa)) (yb vc (xw xa)))) (xA vg) xJ)
  (xA (yb fM (xw (OkF.e (ya (pL (xN xa xa)).c (zg (xx xk (xx xk yO))) yt (xR (xN xa xa))))))))) xJ)
  (xA (rP (xh os_eq xa xa) (xh os_eq (ve xa) (ve xa))))),fun ts KK hl h=>?_⟩)
 obtain⟨t,rfl,hs,k⟩:=h
 have hs:xeL t=true∨∃(e:Nat) (us:List Tr),d=e+1∧(t=.tup us∨t=.lst us)∧us.length≤100000∧∀u∈us,Sm e u:=by
  cases d with
  | zero=>exact .inl hs
  | succ e=>exact hs.imp id fun⟨us,z⟩=>⟨e,us,rfl,z⟩
 rcases hs with hs | ⟨e,us,rfl,rfl | rfl,hz,hu⟩
 ·cases t with
  | non=>exact⟨⟨rfl,rfl,by show min 0 0≤64;decide⟩,⟨rfl,rfl,by show min 0 0≤64;decide⟩,k⟩
  | bl c =>
   refine⟨⟨rfl,rfl,by show min 0 0≤64;decide⟩,?_⟩
   cases c<;>exact⟨⟨rfl,rfl,by show min 0 0≤64;decide⟩,k⟩
  | int i =>
   show if decide (i=i)=true then _ else _
   rw[xlR rfl]
   exact⟨⟨rfl,rfl,by show min 0 0≤64;decide⟩,k⟩
  | _=>cases hs
 ·refine⟨⟨rfl,rfl,by show min 0 0≤64;decide⟩,⟨rfl,rfl,by show min 0 0≤64;decide⟩,?_⟩
  refine xU (b := !decide ((us.length:Int)=us.length)) (fun c=>by simp at c) (fun _=>?_)
  show(oZ us us).length<sizeLine∧_
  rw[mM]
  refine⟨by rw[xkP];exact sqz (by omega),?_⟩
  refine yK (f:=fun u=>Tr.tup [u,u]) (fun _=>.bl true) (fun u hum N hN=>⟨rfl,u,rfl,hu u hum,hN⟩) ?_
  refine⟨us.map fun _=>true,by rw[xkZ];rfl,?_⟩
  have e:((us.map fun _=>true).all id)=true:=by rw[xki];intro x hx;obtain⟨_,_,rfl⟩:=xla.mp hx;rfl
  show KK (.bl ((us.map fun _=>true).all id))
  rw[e];exact k
 ·refine⟨⟨rfl,rfl,by show min 0 0≤64;decide⟩,⟨rfl,rfl,by show min 0 0≤64;decide⟩,?_⟩
  refine xU (b := !decide ((us.length:Int)=us.length)) (fun c=>by simp at c) (fun _=>?_)
  show(oZ us us).length<sizeLine∧_
  rw[mM]
  refine⟨by rw[xkP];exact sqz (by omega),?_⟩
  refine yK (f:=fun u=>Tr.tup [u,u]) (fun _=>.bl true) (fun u hum N hN=>⟨rfl,u,rfl,hu u hum,hN⟩) ?_
  refine⟨us.map fun _=>true,by rw[xkZ];rfl,?_⟩
  have e:((us.map fun _=>true).all id)=true:=by rw[xki];intro x hx;obtain⟨_,_,rfl⟩:=xla.mp hx;rfl
  show KK (.bl ((us.map fun _=>true).all id))
  rw[e];exact k
theorem tI (B:Blt mg bn)(F:Fun K "_law_same" "_law_same" uG f fd)(m:mg "_law_same" = some (.ref f))(b:Binds K fd ["_law_found", "_law_due_here"] []):Own P w K mg base 6 "_law_same" ["_law_found", "_law_due_here"] (spT 2 false false xet):=zU B F m b (zU B F m b (zU B F m b (zU B F m b (zU B F m b (xcp F gH m b)))))
theorem xhc (B:Blt mg bn)(F:Fun K "law" "law" fU f fd)(qX:Own P w K mg base 2 "_law_state" ["_law_script", "_law_k"] (cg K))(qm:Own P w K mg base 2 "_law_field" ["_law_state_here"] (spT 0 true false lZ))(gf:Own P w K mg base 9 "_law_due" ["_law_text"] (spT 1 false false xdY))(jn:Own P w K mg base 2 "_law_bent" ["_law_state_here", "_law_text"] (spT 1 true false xew))(xB:Own P w K mg base 1 "_law_take" ["_law_state_here", "_law_many"] (spT 1 true false xaz)){a_NoText:Addr}(yN:∀base,Mod K mg base→Own P w K mg base 10 "_law_refused" ["_law_call"] (xdi P w K mg base 9 a_NoText 7))(uH:Own P w K mg base 6 "_law_same" ["_law_found", "_law_due_here"] (spT 2 false false xet))(qo:Own P w K mg base 8 "read_field" ["text"] (spT 1 false false sT))(ox_read_field__NoText:∀base,Mod K mg base→oH P w K mg base 8 "read_field" ["text"] (spX 1 a_NoText sV)){c T:Addr}(hfd:fd.code=.ref c)(hT:xfR K=some (T,("law.<locals>.<lambda>" : Str)))(hTg:mainGlobals≠T)(hC:PySem.W.CodeHd base c T)(hB:base.BuiltinsAt mg T) :
  sY P w K mg base CX0 11 f fd ["_law_script"] (fY K):=by
 refine xaE F hfd jw rfl (fun A outer s H E hr=>⟨_,_,
  (xc (ue PassesOwn.never rfl (vI rfl (B.get "range") (yn (xl (nY rfl) rfl (B.get "max") xbR (x8 xg (xl (xbw rfl) rfl (B.get "min") xf6 (x8 (xl (yD K) rfl (B.get "len") wk (yn (pv 0))) xg)))))) (zJ 1 jw.nd) (xc (yL 2 jw.nd (xq qX hr (x8 (pv 0) (pv 1))))
  (xc (yL 3 jw.nd (xq qm hr (yn (pv 2))))
  (xc (ug (i:=4) jw.nd rfl (Or.inr rfl) (ur PySem.F.plainAttrs_str PySem.F.slot_str_join PySem.F.type_str_join (jB K) yE (yn (yF (xT (N:=["_law_row"]) (tau:=[none]) (XN:=["_law_script", "_law_k", "_law_state_here", "_law_field_here", "_law_text", "_law_turn", "_law_due_here", "_law_odd"]) (xs:=xf fU) (by decide +kernel) rfl rfl) rfl (yB rfl) (yy K (pv 3)) (fun _ _ _ _=>(xS (i:=0) (show(["_law_row"]:List Str).Nodup by decide +kernel) rfl (Or.inl rfl))) (fun _ _ _ _=>yM) (fun _ _ _ _=>(ur PySem.F.plainAttrs_str PySem.F.slot_str_join PySem.F.type_str_join (jB K) yE (yn (yF (xT (N:=["_law_number"]) (tau:=[none]) (XN:=["_law_row"]) (xs:=_) (by kernel_rfl) rfl rfl) rfl (yB rfl) (yy K (pv 0)) (fun _ _ _ _=>(xS (i:=0) (show(["_law_number"]:List Str).Nodup by decide +kernel) rfl (Or.inl rfl))) (fun _ _ _ _=>yM) (fun _ _ _ _=>(yR qR (by rfl) (by exact B.get "str") dn (yn (pv 0))))))))))))
  (xc (ue PassesOwn.never rfl (vI rfl (B.get "range") (yn xg)) (zJ 5 jw.nd) (xc (yL 6 jw.nd (xq gf hr (yn (pv 4))))
  (xc (yA (tP (cY (pv 6))) (xi (yA (xK (uV hr.units) (sH (N:=["_law_text"]) (tau:=[4]) yN hr (fun _ _ _ _ _ _ _ _ _ M hr'=>xbg (ox_read_field__NoText _ M) hr' pI (yn (pv 0))) (by kernel_rfl) rfl hC hTg hB rfl rfl rfl rfl (by repeat' constructor) (fun _=>rfl) (fun _ _ _=>rfl) (by decide) (by decide) rfl rfl rfl) (yX (yn xg)) (xY _)) (xi (xG uN)) xX)) (xi (yA (wD (yY (xq uH hr (x8 (xq qo hr (yn (pv 4))) (pv 6))))) (xi (xG uN)) xX)))
  (xi (ug (i:=4) jw.nd rfl (Or.inr rfl) (xq jn hr (x8 (pv 2) (pv 4))))))))
  (xc (ug (i:=7) jw.nd rfl (Or.inr rfl) (wH (yW K) (yX (xQ gA (xQ xg (xQ (pv 3) (xQ uN (x8 xff (yX (yn (pv 4))))))))) (xq xB hr (x8 (pv 2) xg)) (fun _ _=>rfl)))
  (xi (yA (xK (uV hr.units) (sH (N:=["_law_odd"]) (tau:=[7]) yN hr (fun _ _ _ _ _ _ _ _ _ M hr'=>xbg (ox_read_field__NoText _ M) hr' pI (yn (pv 0))) (by kernel_rfl) rfl hC hTg hB rfl rfl rfl rfl (by repeat' constructor) (fun _=>rfl) (fun _ _ _=>rfl) (by decide) (by decide) rfl rfl rfl) (yX (yn xg)) (xY _)) (xi (xG uN)) xX))))))))
  (xi (xG uN))),
  (xj (zE (uD (xw (yb xbi (xN xn (yb xfw (xN xdv xn)))))) xk.g (xj (l7 xa)
  (xj (xO (yx (b:=true) uP))
  (xj (xO (fq dB (vp (t:=Tr.str _)) (xw (OkF.e (ya (yf xa).c xk yt (fq dB (vp (t:=Tr.str _)) (xw (OkF.e (ya (yf xa).c xk yt (yb cJ (xw xa)))))))))))
  (xj (zE (uD (xw xn)) xk.g (xj (xO (xR (xw xa)))
  (xj (yd (yG (oW xa)) (yd (xr (xh k8 (OkF.e (fJ hT (xw xa))) (wa (b:=true) (xw xn)))) (xA vg) xJ) (yd (y8 (yG (xR (xN (xR (xw xa)) xa)))) (xA vg) xJ))
  (xO (yx (xw xa))))))
  (xj (xO (kK (wa (b:=true) (xI (vp (t:=Tr.non)) (xI xn (xI xa (xI vg (xN xeP (wa (b:=true) (xw xa)))))))) (yx (xw xn))))
  (yd (xr (xh k8 (OkF.e (fJ hT (xw xa))) (wa (b:=true) (xw xn)))) (xA vg) xJ)))))))
  (xA vg)),fun ns hl=>?_⟩)
 refine yc (fun τ=>True) (fun τ _=>rfl) (fun N hN=>?_)
 refine vV _ (fun i τ=>∃(x1 x2 x3 x4 x5 x6 x7:TV),τ=[.sc ns,x1,x2,x3,x4,x5,x6,x7]) (fun KK h=>fun _=>⟨⟨by split<;>split<;>omega,by split<;>split<;>omega⟩,h⟩) ⟨_,_,_,_,_,_,_,rfl⟩ ?_ (fun τ _=>hN _ trivial)
 rintro i x τ N2 hx ⟨x1,x2,x3,x4,x5,x6,x7,rfl⟩ hN2
 have hi:=(xkF.mp hx).1
 rw[wm] at hi
 rw[r_ hi] at hx
 cases hx
 dsimp only[xcf,xbU,eName,xgH]
 have hk:(0:Int)≤(0:Int)+i:=by omega
 generalize (0:Int)+i=kk at hk
 show xg6 _ _ _ ([.sc ns,.fz (.int kk),x2,x3,x4,x5,x6,x7]:TSt)
 refine yc (fun τ=>τ=[.sc ns,.fz (.int kk),.st,x3,x4,x5,x6,x7]) ?_ (fun N hN=>⟨hk,hN _ rfl⟩)
 rintro _ rfl
 refine yc (fun τ=>∃rows,LF rows∧τ=[.sc ns,.fz (.int kk),.st,.fz (.tup (rows.map trR)),x4,x5,x6,x7]) ?_ (fun N hN=>⟨rfl,fun rows hF=>hN _ ⟨rows,hF,rfl⟩⟩)
 rintro _ ⟨rows,hF,rfl⟩
 have hf:=hF.isf
 have fr:∀r∈rows,Pol.uC r:=fun r hr=>((xck hf).2.1 r hr).2
 have l8:=(xck hf).1.2
 refine yc (fun τ=>τ=[.sc ns,.fz (.int kk),.st,.fz (.tup (rows.map trR)),.fz (.str (uF rows)),x5,x6,x7]) ?_ (fun N hN=>?_)
 rotate_left
 ·refine⟨trivial,by rw[xkP];exact sqz (by omega),?_⟩
  refine yK (fun r=>.str (uh r)) (fun r hm N hN=>?_) ?_
  ·refine⟨trivial,sqz (by show 3≤1000000;decide),?_⟩
   show bc _ _ _ _ _ ([r.1,r.2.1,r.2.2].map Tr.int) []
   refine yK (fun n=>.str (yq n)) (fun n hn N hN=>⟨n,rfl,pA (xaf (fr r hm) n hn),hN⟩) ?_
   exact⟨_,[yq r.1,yq r.2.1,yq r.2.2],rfl,rfl,(aP (fr r hm)).1,(aP (fr r hm)).2,hN⟩
  ·have jf:=p0 fr l8
   exact⟨_,rows.map uh,rfl,by rw[xkZ];rfl,jf.1,jf.2,hN _ rfl⟩
 rintro _ rfl
 refine yc (fun τ=>∃(x:Str) (y5 y6:TV),Bt 2778 95 x∧τ=[.sc ns,.fz (.int kk),.st,.fz (.tup (rows.map trR)),.fz (.str x),y5,y6,x7]) ?_ (fun N hN=>?_)
 rotate_left
 ·refine vV (xdO 0 4) (fun j τ=>∃(x:Str) (y5 y6:TV),(∃L W,lN j=(L,W)∧Bt L W x)∧τ=[.sc ns,.fz (.int kk),.st,.fz (.tup (rows.map trR)),.fz (.str x),y5,y6,x7]) (fun KK h=>⟨⟨by decide,by decide⟩,h⟩) ⟨_,_,_,⟨_,_,rfl,xeG fr l8⟩,rfl⟩ ?_ ?_
  ·rintro j y τ N3 hy ⟨x,y5,y6,⟨L,W,hLW,hb⟩,rfl⟩ hN3
   have hj:=(xkF.mp hy).1
   rw[wm] at hj
   have bnd:=xcA (j:=j) (by omega) hLW
   dsimp only[xcf,xbU,eName,xgH]
   refine yc (fun τ=>τ=[.sc ns,.fz (.int kk),.st,.fz (.tup (rows.map trR)),.fz (.str x),.fz y,.fz (if isField (m5 x)=true then m5 x else .non),x7]) ?_ (fun N hN=>⟨x,rfl,hb.mono (by omega) (by omega),hN _ rfl⟩)
   rintro _ rfl
   refine yc (fun τ=>τ=[.sc ns,.fz (.int kk),.st,.fz (.tup (rows.map trR)),.fz (.str x),.fz y,.fz (if isField (m5 x)=true then m5 x else .non),x7]) ?_ (fun N hN=>?_)
   ·rintro _ rfl
    refine⟨x,L,W,rfl,hb,by omega,by omega,by omega,fun z hz=>hN3 _ ⟨z,_,_,⟨_,_,xfS hLW,hz⟩,rfl⟩⟩
   ·cases e:isField (m5 x) with
    | true =>
     rw[e,if_pos rfl] at hN
     obtain⟨rs,rfl,hfs,ed⟩:=xbG e
     rw[ed] at hN ⊢
     exact⟨rs,rfl,hfs,_,rfl,xcz (xck hfs).1.2,hN _ rfl⟩
    | false =>
     rw[e,if_neg xjJ] at hN
     exact⟨⟨_,rfl⟩,rfl,⟨_,rfl,.inr ⟨x,rfl,hb.mono (by omega) (by omega),e⟩⟩,pO 7,hN _ rfl⟩
  ·rintro τ ⟨x,y5,y6,⟨L,W,hLW,hb⟩,rfl⟩
   have:(L,W)=(2778,95):=by rw[←hLW];rfl
   cases this
   exact hN _ ⟨x,_,_,hb,rfl⟩
 rintro _ ⟨x,y5,y6,hb,rfl⟩
 refine yc (fun τ=>∃odd:Tr,(∀z,odd≠.str z)∧τ=[.sc ns,.fz (.int kk),.st,.fz (.tup (rows.map trR)),.fz (.str x),y5,y6,.fz odd]) ?_ (fun N hN=>⟨tk (by decide),fun r r0 r1=>?_⟩)
 ·rintro _ ⟨odd,ho,rfl⟩
  exact⟨⟨_,rfl⟩,rfl,⟨_,rfl,.inl ho⟩,pO 7,hN2 _ ⟨_,_,_,_,_,_,_,rfl⟩⟩
 ·refine ff r0 r1 fun t ht=>hN _ ⟨t,fun z e=>?_,rfl⟩
  subst e
  simp at ht
end
end K91
namespace K91
open PySem L2 Tx NumText
open Builtin.Str (occurrences)
section
variable {P:Program} {w:World} {K:PySem.W.Frag} {mg:Str→Option Value} {base:Heap} {f:Addr} {fd:FuncData}
theorem j9 (B:Blt mg bn)(F:Fun K "_law_number_in" "_law_number_in" zW f fd)(m:mg "_law_number_in" = some (.ref f))(b:Binds K fd ["_law_word"] [])  :
  Own P w K mg base 1 "_law_number_in" ["_law_word"] (spT 1 false false xdV):=by
 refine xM F wQ m b rfl (fun _ _ _ _ _ _ hr=>⟨_,_,
  (xc (yL 1 wQ.nd (jF (xK (we hr.units) (yS kO (pv 0) zt (zm xg)) yE (xY _)) (yS kO (pv 0) (zm xg) zt) (pv 0)))
  (xc (yA (PW.pt (je (xK (we hr.units) (pv 1) yE (xY _)) (vH (xK (uV hr.units) (yF (xT (N:=["_law_sign"]) (tau:=[none]) (XN:=["_law_word", "_law_figures", "_law_number"]) (xs:=xf zW) (by decide +kernel) rfl rfl) rfl (yB rfl) (xbD (pv 1)) (fun _ _ _ _=>(xS (i:=0) (show(["_law_sign"]:List Str).Nodup by decide +kernel) rfl (Or.inl rfl))) (fun _ _ _ _=>(qG (xK q_ (pv 0) yE (by with_unfolding_all rfl)))) (fun _ _ _ _=>(pv 0))) (yX u9) (xY _))))) (xi (xG gA)) xX)
  (xc (yL 2 wQ.nd (xy xP (yR nh rfl (B.get "int") tQ (yn (pv 1))) (wH (yW K) (yX (x8 xg (vX wB xg))) (yR ng rfl (B.get "int") tQ (yn (zA (we hr.units) (xD K 0) yE (xY _)))) (fun _ _=>rfl))))
  (xi (xG (jF (xK (we hr.units) (yR qR (by rfl) (by exact B.get "str") dn (yn (pv 2))) (pv 0) (xY _)) (pv 2) gA)))))),
  (xj (xO (nr (xr (xh os_eq (kR xa yU (yT xn)) (vp (t:=Tr.str _)))) (kR xa (yT xn) yU) xa))
  (xj (yd (uT (xr (xh os_eq xa (vp (t:=Tr.str _)))) (xr (xh k8 (OkF.e (ya (bP xa).c xk (xr (xh bG xa (vp (t:=Tr.str _)))) xa)) (wa (b:=true) uP)))) (xA (vp (t:=Tr.non))) xJ)
  (xj (xO (xh x_ (yb xbt (xw xa)) (kK (wa (b:=true) (xN xn (wo xn))) (yb xdU (xw (xh os_eq (xh xdC xa xn) (vp (t:=Tr.str _))))))))
  (xA (nr (xr (xh os_eq (yb cJ (xw xa)) xa)) xa (vp (t:=Tr.non))))))),fun ts KK hl h=>?_⟩)
 obtain⟨w,rfl,hl,asc,k⟩:=h
 have fl:=dR w
 have bw:Bt 99 99 w:=p8 asc hl hl
 have os:=rk asc
 have of:okS (wJ w):=rk fun c hc=>by have:=cI asc;rw[xjA] at this;obtain⟨i,hi,e⟩:=xk_.mp hc;have:=this i (by simpa using hi);rw[←e];simpa using this
 have em:okS ("" : Str):=aq _
 have none_of:(¬(AllDigits (wJ w).cps.toList∧(wJ w).cps.toList≠[]))→KK .non:=fun h=>by
  cases e:n5 w with
  | none=>rw[e] at k;exact k
  | some n=>exact absurd (xcy e) h
 refine yc (fun τ=>τ=[.fz (.str w),.fz (.str (wJ w)),.un]) ?_ (fun N hN=>⟨wg (by omega),qF (rk (bw.slice none (some 1)).asc) (aq _),?_⟩)
 rotate_left
 ·show if teq (.str (Txt.slice w none (some 1))) (.str ("-" : Str))=true then _ else _
  rw[xfr]
  exact b_ (by omega) (fun t=>N [.fz (.str w),.fz t,.un]) (hN _ rfl)
 rintro _ rfl
 refine yc (fun τ=>(AllDigits (wJ w).cps.toList∧(wJ w).cps.toList≠[])∧τ=[.fz (.str w),.fz (.str (wJ w)),.un]) ?_ (fun N hN=>⟨qF of em,?_⟩)
 rotate_left
 ·show if teq (.str (wJ w)) (.str ("" : Str))=true then _ else _
  rw[a_]
  refine xU (fun c=>none_of fun h=>h.2 (xlV c)) (fun c=>?_)
  have ne:(wJ w).cps.toList≠[]:=xlU c
  refine⟨cI asc,by unfold gL;rw[xkP,←str_len];exact sqz (by omega),?_⟩
  show bc _ _ _ _ _ ((wJ w).cps.toList.map fun c=>Tr.str ⟨#[c]⟩) []
  refine zq (fun c=>!cU c) (fun c=>.str ⟨#[c]⟩) (fun c hc N M h1 h0=>by rw[←xaA] at h1 h0;exact xU h1 h0) ?_
  dsimp only[xf3,xdR]
  refine rh ((sX _).mpr fun u hu=>?_) ?_
  ·obtain⟨c,hc,rfl⟩:=xla.mp hu
   refine cP fun d hd=>?_
   have:d=c:=by simpa using hd
   rw[this]
   exact of c (xk8.mp hc).1
  rw[xkK,filter_empty]
  simp only[Bool.not_not]
  refine xU (b := !((wJ w).cps.toList.all cU)) (fun c=>none_of fun h=>?_) (fun c=>hN _ ⟨⟨fun d hd=>?_,ne⟩,rfl⟩)
  ·have c:(wJ w).cps.toList.all cU=false:=by simpa using c
   rw[xkh] at c
   obtain⟨d,hd,n⟩:=c
   exact n (xlR (h.1 d hd))
  ·have c:(wJ w).cps.toList.all cU=true:=by simpa using c
   exact xlV (xki.mp c d hd)
 rintro _ ⟨⟨hd,ne⟩,rfl⟩
 have sm:=nN hd hl
 refine yc (fun τ=>τ=[.fz (.str w),.fz (.str (wJ w)),.fz (.int (wK w.cps.toList))]) ?_ (fun N hN=>?_)
 rotate_left
 ·refine⟨_,_,rfl,intText_digits hd ne (by omega),by omega,?_⟩
  obtain⟨c0,h0⟩:∃c0,w.cps.toList[0]? = some c0:=by
   cases e:w.cps.toList with
   | nil=>rw[ud,e] at ne;exact absurd rfl ne
   | cons c l=>exact⟨c,rfl⟩
  refine⟨wg (by omega),c0,xac (by decide) h0,qF (fun d hd=>?_) (aq _),?_⟩
  ·have:d=c0:=by simpa using hd
   rw[this];exact os _ (xlc h0)
  have vb:Bd ((NumText.digitsVal (wJ w).cps.toList:Nat):Int):=by
   have:=mE hd (by rw[←str_len];omega)
   exact cj (by omega) (by omega)
  have nv:=sM hd
  rw[if_neg xjJ,xcJ h0]
  cases e:xdG w with
  | true =>
   rw[e,if_pos rfl] at nv
   rw[nv] at hN
   exact⟨⟨vb,cj (by decide) (by decide)⟩,hN _ rfl⟩
  | false =>
   rw[e,if_neg xjJ] at nv
   rw[nv] at hN
   exact⟨⟨vb,cj (by decide) (by decide)⟩,hN _ rfl⟩
 rintro _ rfl
 refine⟨_,rfl,xbp sm,qF (xak _) os,?_⟩
 show if teq (.str (yq (wK w.cps.toList))) (.str w)=true then _ else _
 unfold n5 at k
 by_cases e:yq (wK w.cps.toList)=w
 ·rw[if_pos e] at k
  rw[e,r9]
  exact k
 ·rw[if_neg e] at k
  rw[rM e]
  exact k
theorem gQ (B:Blt mg bn)(F:Fun K "_law_is_field" "_law_is_field" zi f fd)(m:mg "_law_is_field" = some (.ref f))(b:Binds K fd ["_law_rows"] [])(vh:Own P w K mg base 7 "_law_corners" ["_law_rows"] (spT 1 false false nM)) :
  Own P w K mg base 8 "_law_is_field" ["_law_rows"] (spT 1 false false xgk):=by
 refine xM F yo m b rfl (fun _ _ _ _ _ _ hr=>⟨_,_,
  (xc (yA (wD (gX jj jj xg (xl (yD K) rfl (B.get "len") wk (yn (pv 0))) xg)) (xi (xG uN)) xX)
  (xc (ue PassesOwn.never rfl (yy K (pv 0)) (zJ 1 yo.nd) (xc (yA (PW.pt (je (xK (uV hr.units) (xl (yD K) rfl (B.get "len") wk (yn (pv 1))) xg (xY _)) (je (xK (xbb hr.units) gA (pv 1) (by with_unfolding_all rfl)) (vH (PW.pt (fo (xK (we hr.units) (xD K 1) xg (xY _)) (k_ (xK (we hr.units) (xD K 1) xg (xY _))))))))) (xi (xG uN)) xX)
  (xi (yA (PW.pt (je (xK bB (xl (nY rfl) rfl (B.get "max") xbR (x8 (xl zH rfl (B.get "abs") vM (yn (xD K 1))) (xl zH rfl (B.get "abs") vM (yn (xD K 1))))) xg (xY _)) (vH (xK bB (xl zH rfl (B.get "abs") vM (yn (xD K 1))) xg (xY _))))) (xi (xG uN)) xX))))
  (xc (ue PassesOwn.never rfl (yy K (pv 0)) (zz K (n:=3) rfl (xH (zJ 2 yo.nd) (xH (zJ 3 yo.nd) (xH (zJ 4 yo.nd) za)))) (xi (ue PassesOwn.never rfl (yy K (yX (x8 (yr (x8 (pv 3) (xy zN xg (pv 2)))) (yr (x8 (xy zN xg (pv 3)) (pv 2)))))) (zz K (n:=2) rfl (xH (xS (i:=5) yo.nd rfl (Or.inr rfl)) (xH (xS (i:=6) yo.nd rfl (Or.inr rfl)) za))) (xi (yA (xK jj (xl (o9 K rfl) rfl (B.get "max") xbR (yn (yF (xT (N:=["_law_row", "_law_u", "_law_v"]) (tau:=[none,some 5,some 6]) (XN:=["_law_rows", "_law_row", "_law_a", "_law_b", "_law_c", "_law_u", "_law_v", "_law_place"]) (xs:=xf zi) (by decide +kernel) rfl rfl) rfl (yB rfl) (yy K (pv 0)) (fun _ _ _ _=>(xS (i:=0) (show(["_law_row", "_law_u", "_law_v"]:List Str).Nodup by decide +kernel) rfl (Or.inl rfl))) (fun _ _ _ _=>yM) (fun _ _ _ _=>(xy zT (xy xP (xD K 0) (pv 1)) (xy xP (xD K 0) (pv 2))))))) xg (xY _)) (xi (xG uN)) xX)))))
  (xc (ue PassesOwn.never rfl (yy K (xq vh hr (yn (pv 0)))) (zJ 7 yo.nd) (xi (yA (xK (uV hr.units) (yF (xT (N:=["_law_one"]) (tau:=[none]) (XN:=["_law_rows", "_law_row", "_law_a", "_law_b", "_law_c", "_law_u", "_law_v", "_law_place"]) (xs:=xf zi) (by decide +kernel) rfl rfl) rfl (yB rfl) (yy K (pv 7)) (fun _ _ _ _=>(xS (i:=0) (show(["_law_one"]:List Str).Nodup by decide +kernel) rfl (Or.inl rfl))) (fun _ _ _ _=>(qG (xK bB (xl zH rfl (B.get "abs") vM (yn (xD K 0))) (xy xP xg (xD K 0)) (xY _)))) (fun _ _ _ _=>(pv 0))) (yX u9) (xY _)) (xi (xG uN)) xX)))
  (xi (xG uN)))))),
  (xj (yd (y8 (xr (g9 jo jo xn (yb vc (xw xa)) xn))) (xA vg) xJ)
  (xj (zE (yf xa) xk.g (xj (yd (uT (xr (xh k8 (yb vc (xw xa)) xn)) (uT (xr (xh lD (vp (t:=Tr.non)) xa)) (k7 (xr (xh os_eq xE xn)) (xr (xh os_eq xE xn))))) (xA vg) xJ)
  (yd (uT (xr (xh cD (yb xbi (xN (yb vD (xw xE)) (yb vD (xw xE)))) xn)) (xr (xh cD (yb vD (xw xE)) xn))) (xA vg) xJ)))
  (xj (zE (yf xa) (zg (xx xk (xx xk (xx xk yO)))).g (zE (yf (wa (b:=true) (xN (yu (b:=true) (xN xa (xh zQ xn xa))) (yu (b:=true) (xN (xh zQ xn xa) xa))))) (zg (xx xk (xx xk yO))).g (yd (xr (xh jo (yb xeC (xw (OkF.e (ya (yf xa).c xk yt (xh uu (xh x_ xE xa) (xh x_ xE xa)))))) xn)) (xA vg) xJ)))
  (xj (zE (yf (xR (xw xa))) xk.g (yd (xr (xh k8 (OkF.e (ya (yf xa).c xk (xr (xh cD (yb vD (xw xE)) (xh x_ xn xE))) xa)) (wa (b:=true) uP))) (xA vg) xJ))
  (xA vg))))),fun ts KK hl h=>?_⟩)
 obtain⟨us0,rfl,k⟩:=h
 unfold duL at k ⊢
 have hv:∀v∈us0.map (fun u=>Tr.tup (u.map jY)),∃u:List (Option Int),v=.tup (u.map jY):=fun v h=>by obtain⟨u,_,e⟩:=xla.mp h;exact⟨u,e.symm⟩
 generalize us0.map (fun u=>Tr.tup (u.map jY))=us at k hv ⊢
 have ab:∀i m:Int,m<(if i<0 then -i else i)↔¬(-m≤i∧i≤m):=fun i m=>by split<;>omega
 have mx:∀i j:Int,30<(if j>i then j else i)↔(30<i∨30<j):=fun i j=>by split<;>omega
 refine yc (fun τ=>(3≤us.length∧us.length≤8)∧τ=[.fz (.tup us),.un,.un,.un,.un,.un,.un,.un]) ?_ (fun N hN=>?_)
 rotate_left
 ·have bad:¬(3≤us.length∧us.length≤8)→KK (.bl false):=fun h=>by rw[bz h] at k;exact k
  refine xU (b:=decide ((3:Int)≤us.length)) (fun c1=>?_) (fun c1=>bad (by have:=xlU c1;omega))
  have c1:=xlV c1
  refine xU (b := !decide ((us.length:Int)≤8)) (fun c2=>bad (by simp at c2;omega)) (fun c2=>hN _ ⟨⟨by omega,by simp at c2;omega⟩,rfl⟩)
 rintro _ ⟨⟨l3,l8⟩,rfl⟩
 have no:∀v∈us,yh v=false→KK (.bl false):=fun v hm e=>by
  have:us.all yh=false:=by rw[xkh];exact⟨v,hm,by rw[e];exact xjJ⟩
  rw[sO this] at k;exact k
 refine yc (fun τ=>∃x1:TV,τ=[.fz (.tup us),x1,.un,.un,.un,.un,.un,.un]∧∀v∈us,yh v=true) ?_ (fun N hN=>?_)
 rotate_left
 ·refine vV us (fun i τ=>∃x1:TV,τ=[.fz (.tup us),x1,.un,.un,.un,.un,.un,.un]∧∀v∈us.take i,yh v=true) (fun KK h=>h) ⟨_,rfl,fun r h=>by simp at h⟩ ?_ ?_
  ·rintro i v τ N2 hx ⟨x1,rfl,hW⟩ hN2
   have hm:=xlc hx
   obtain⟨u,rfl⟩:=hv v hm
   dsimp only[xcf,xbU,eName,xgH]
   by_cases c3:u.length=3
   ·obtain⟨a,b,c,rfl⟩:∃a b c,u=[a,b,c]:=by
     match u,c3 with
     | [a,b,c],_=>exact⟨a,b,c,rfl⟩
    have nn:(a=none∨b=none∨c=none)∨∃i j k,a=some i∧b=some j∧c=some k:=by
     cases a with
     | none=>exact .inl (.inl rfl)
     | some i=>cases b with
      | none=>exact .inl (.inr (.inl rfl))
      | some j=>cases c with
       | none=>exact .inl (.inr (.inr rfl))
       | some k=>exact .inr ⟨i,j,k,rfl,rfl,rfl⟩
    have pl:∀o:Option Int,pln (jY o)=true:=fun o=>by cases o<;>rfl
    have al:PyData.canLayAll0 (ui [jY a,jY b,jY c])=true:=(sX _).mpr fun t ht=>by
     simp only[xk5,xlk,xlW] at ht
     rcases ht with rfl | rfl | rfl<;>exact pl _
    refine yc (fun τ=>(∃r:Pol.R3,Tr.tup ([a,b,c].map jY)=trR r∧(r.1≠0∨r.2.1≠0))∧τ=[.fz (.tup us),.fz (.tup ([a,b,c].map jY)),.un,.un,.un,.un,.un,.un]) ?_ (fun N hN=>⟨⟨rfl,al,by show 0≤60;decide⟩,?_⟩)
    ·rintro _ ⟨⟨r,er,dr⟩,rfl⟩
     rw[er] at hm ⊢
     have okr:yh (trR r)=true∨¬Pol.uC r:=by
      by_cases h:Pol.uC r
      ·exact .inl (show decide _=true from xlR ⟨dr,h⟩)
      ·exact .inr h
     have bad:¬Pol.uC r→KK (.bl false):=fun hn=>no _ hm (show decide _=false from xlP fun h=>hn h.2)
     refine xU (b:=decide (30<(if (if r.2.1<0 then -r.2.1 else r.2.1)>(if r.1<0 then -r.1 else r.1) then(if r.2.1<0 then -r.2.1 else r.2.1) else(if r.1<0 then -r.1 else r.1)))) (fun c=>?_) (fun c=>?_)
     ·have c:=(mx _ _).mp (xlV c)
      rw[ab,ab] at c
      exact bad fun h=>by unfold Pol.uC at h;omega
     ·have c:¬(30<(if r.1<0 then -r.1 else r.1)∨30<(if r.2.1<0 then -r.2.1 else r.2.1)):=fun w=>xlU c ((mx _ _).mpr w)
      rw[ab,ab] at c
      refine xU (b:=decide (1000<(if r.2.2<0 then -r.2.2 else r.2.2))) (fun d=>?_) (fun d=>?_)
      ·have d:=(ab _ _).mp (xlV d)
       exact bad fun h=>by unfold Pol.uC at h;omega
      ·have d:=xlU d
       rw[ab] at d
       refine hN2 _ ⟨_,rfl,fun v' hv'=>?_⟩
       rw[xls,hx] at hv'
       rcases xk2.mp hv' with q | q
       ·exact hW v' q
       ·have:v'=trR r:=by rw[←er];simpa using q
        rw[this]
        exact okr.resolve_right fun h=>h (by unfold Pol.uC;omega)
    ·rcases nn with nn | ⟨i,j,l,rfl,rfl,rfl⟩
     ·have any:([jY a,jY b,jY c].any fun u=>teq u .non)=true:=by
       rw[xkl]
       rcases nn with rfl | rfl | rfl
       ·exact⟨.non,by simp[jY],rfl⟩
       ·exact⟨.non,by simp[jY],rfl⟩
       ·exact⟨.non,by simp[jY],rfl⟩
      show if (if false=true then _ else([jY a,jY b,jY c].any fun u=>teq u .non))=true then _ else _
      rw[if_neg xjJ,any]
      refine no _ hm ?_
      rcases nn with rfl | rfl | rfl
      ·rfl
      ·cases a<;>rfl
      ·cases a<;>cases b<;>rfl
     ·refine xU (b:=decide (i=0)) (fun c=>?_) (fun c=>hN _ ⟨⟨(i,j,l),rfl,.inl (xlU c)⟩,rfl⟩)
      have c:=xlV c
      subst c
      refine xU (b:=decide (j=0)) (fun d=>?_) (fun d=>hN _ ⟨⟨(0,j,l),rfl,.inr (xlU d)⟩,rfl⟩)
      have d:=xlV d
      subst d
      exact no _ hm (show decide ((((0,0,l):Pol.R3).1≠0∨((0,0,l):Pol.R3).2.1≠0)∧Pol.uC (0,0,l))=false from xlP fun h=>h.1.elim (fun z=>z rfl) fun z=>z rfl)
   ·have nl:¬((u.map jY).length:Int)=3:=by rw[xkP];omega
    refine yc (fun τ=>False) (fun τ h=>h.elim) (fun N hN=>?_)
    refine xU (b := !decide (((u.map jY).length:Int)=3)) (fun c=>no _ hm (kS (lO nl))) (fun c=>absurd (by simpa using c) nl)
  ·rintro τ ⟨x1,rfl,hW⟩
   rw[xlr (xlw _)] at hW
   exact hN _ ⟨_,rfl,hW⟩
 rintro _ ⟨y1,rfl,hall⟩
 have isr:us.all vN=true:=xki.mpr fun v hm=>by
  cases e:vN v with
  | true=>rfl
  | false=>have:=hall v hm;rw[kS e] at this;cases this
 obtain⟨rows,rfl,dir⟩:=ml isr
 have fr:∀r∈rows,Pol.uC r:=fun r hr=>(xlV (show decide ((r.1≠0∨r.2.1≠0)∧Pol.uC r)=true from hall _ (xlb hr))).2
 rw[xkP] at l3 l8
 rw[qp] at k
 have ea:(rows.all fun r=>decide ((r.1≠0∨r.2.1≠0)∧Pol.uC r))=true:=by
  rw[xki];intro r hr;exact xlR ⟨dir r hr,fr r hr⟩
 have ef:xt rows=(Pol.zj rows&&(Pol.pieces rows).all qN):=by
  unfold xt
  rw[ea,xlR (by omega)];simp
 rw[ef] at k
 have hr:∀r∈rows,B3k 100 r∧(r.1≠0∨r.2.1≠0):=fun r hr=>⟨ae (fr r hr),dir r hr⟩
 have ne:rows≠[]:=fun z=>by rw[z] at l3;simp at l3
 refine yc (fun τ=>∃(x1 x2 x3 x4 x5:TV),Pol.zj rows=true∧τ=[.fz (.tup (rows.map trR)),y1,x1,x2,x3,x4,x5,.un]) ?_ (fun N hN=>?_)
 rotate_left
 ·refine vV (rows.map trR) (fun i τ=>∃(x1 x2 x3 x4 x5:TV),τ=[.fz (.tup (rows.map trR)),y1,x1,x2,x3,x4,x5,.un]∧∀(j:Nat) (z:Pol.R3),j<i→rows[j]? = some z→∀s:Int,(s=1∨s = -1)→∃x∈rows,0<s*Pol.turn z x) (fun KK h=>h) ⟨_,_,_,_,_,rfl,fun j z hj=>by omega⟩ ?_ ?_
  ·rintro i x τ N2 hx2 ⟨x1,x2,x3,x4,x5,rfl,hW⟩ hN2
   obtain⟨r,hri,rfl⟩:=qc hx2
   have hrm:=xlc hri
   have rb:=(hr r hrm).1
   refine⟨rfl,?_⟩
   dsimp only[xcf,xbU,eName,xgH]
   show xh8 _ _ _ _ ([.fz (.tup (rows.map trR)),y1,.fz (.int r.1),.fz (.int r.2.1),.fz (.int r.2.2),x4,x5,.un]:TSt)
   refine vV ((dirsOf r).map dT) (fun j τ=>∃(x4 x5:TV),τ=[.fz (.tup (rows.map trR)),y1,.fz (.int r.1),.fz (.int r.2.1),.fz (.int r.2.2),x4,x5,.un]∧∀(m:Nat) (d:Int×Int),m<j→(dirsOf r)[m]? = some d→∃x∈rows,0<x.1*d.1+x.2.1*d.2) (fun KK h=>h) ⟨_,_,rfl,fun m d hm=>by omega⟩ ?_ ?_
   ·rintro j y τ N3 hy ⟨x4,x5,rfl,hW2⟩ hN3
    obtain⟨d,hd,rfl⟩:=qc hy
    have db:Bk 101 d.1∧Bk 101 d.2:=by
     have:=xlc hd
     simp only[dirsOf,xk5,xlk,xlW] at this
     have z1:=rb.1.1
     have z2:=rb.1.2
     rcases this with rfl | rfl
     ·refine⟨z2.mono (by decide),?_⟩
      show Bk 101 (0-r.1)
      rw[Int.zero_sub];exact z1.neg.mono (by decide)
     ·refine⟨?_,z1.mono (by decide)⟩
      show Bk 101 (0-r.2.1)
      rw[Int.zero_sub];exact z2.neg.mono (by decide)
    refine⟨rfl,by rw[xkP];exact sqz (by omega),yK (f:=trR) (fun x=>.int (x.1*d.1+x.2.1*d.2)) (fun x hxm N hN=>?_) ?_⟩
    ·have xb:=(hr x hxm).1
     exact⟨⟨xb.1.1.bd,db.1.bd⟩,⟨xb.1.2.bd,db.2.bd⟩,hN⟩
    ·refine⟨rows.map fun x=>x.1*d.1+x.2.1*d.2,by rw[xkZ];rfl,by simpa using ne,fun M hM hmax=>?_⟩
     refine xU (b:=decide (M≤0)) (fun c=>?_) (fun c=>?_)
     ·have c:=xlV c
      have no:Pol.zj rows=false:=by
       cases e:Pol.zj rows with
       | false=>rfl
       | true =>
        exfalso
        have ra:=Pol.xfO dir ((Pol.xba dir).mp e)
        have md:=xlc hd
        simp only[dirsOf,xk5,xlk,xlW] at md
        rcases md with rfl | rfl
        ·obtain⟨x,hxm,hp⟩:=ra r hrm (-1) (.inr rfl)
         have:=hmax _ (xlb hxm)
         unfold Pol.turn at hp
         simp only at this
         grind
        ·obtain⟨x,hxm,hp⟩:=ra r hrm 1 (.inl rfl)
         have:=hmax _ (xlb hxm)
         unfold Pol.turn at hp
         simp only at this
         grind
      rw[no] at k
      exact k
     ·have c:=xlU c
      obtain⟨x,hxm,e⟩:=xla.mp hM
      refine hN3 _ ⟨_,_,rfl,fun m d' hm hd'=>?_⟩
      by_cases em:m=j
      ·subst em
       rw[hd] at hd'
       cases hd'
       exact⟨x,hxm,by rw[e];omega⟩
      ·exact hW2 m d' (by omega) hd'
   ·rintro τ ⟨x4,x5,rfl,hW2⟩
    refine hN2 _ ⟨_,_,_,_,_,rfl,fun j z hj hz s hs=>?_⟩
    by_cases ej:j=i
    ·subst ej
     rw[hri] at hz
     cases hz
     rcases hs with rfl | rfl
     ·obtain⟨x,hxm,hp⟩:=hW2 1 _ (by show(1:Nat)<2;decide) rfl
      exact⟨x,hxm,by unfold Pol.turn;simp only at hp;grind⟩
     ·obtain⟨x,hxm,hp⟩:=hW2 0 _ (by show(0:Nat)<2;decide) rfl
      exact⟨x,hxm,by unfold Pol.turn;simp only at hp;grind⟩
    ·exact hW j z (by omega) hz s hs
  ·rintro τ ⟨x1,x2,x3,x4,x5,rfl,hW⟩
   refine hN _ ⟨_,_,_,_,_,Pol.aB dir ne fun z hz s hs=>?_,rfl⟩
   obtain⟨j,hj,e⟩:=xk_.mp hz
   exact hW j z (by rw[xkP];exact hj) (by rw[xkD hj,e]) s hs
 rintro _ ⟨x1,x2,x3,x4,x5,d,rfl⟩
 rw[d,Bool.true_and] at k
 have FR:gR rows:=⟨Pol.xeI (Pol.oE dir d) fr (fun _ h=>h) dir,l8⟩
 refine yc (fun τ=>∀v∈n6 rows,qN v=true) ?_ (fun N hN=>?_)
 ·intro τ h
  have:(Pol.pieces rows).all qN=true:=by
   rw[xki];exact fun v hv=>h v (vG.mpr hv)
  rw[this] at k
  exact k
 ·refine vV ((n6 rows).map wc) (fun i τ=>∃y7:TV,τ=[.fz (.tup (rows.map trR)),y1,x1,x2,x3,x4,x5,y7]∧∀v∈(n6 rows).take i,qN v=true) (fun KK h=>⟨rows,rfl,FR,h⟩) ⟨_,rfl,fun v h=>by simp at h⟩ ?_ ?_
  ·rintro i x τ N2 hx ⟨y7,rfl,hW⟩ hN2
   obtain⟨v,hvi,rfl⟩:=qc hx
   have hvm:=xlc hvi
   have vb:=FR.corner hvm
   have pk:=xbk vb.1.1 vb.2
   have nf:∀f:F2,decide (12*f.2<(if f.1<0 then -f.1 else f.1)) = !nearF f.1 f.2:=fun f=>by
    unfold nearF
    rw[←decide_not,xlO];split<;>omega
   refine⟨sqz (show(2:Nat)≤1000000 by decide),?_⟩
   refine zq (f:=fT) (l:=[(plc v).1,(plc v).2]) (fun f=>!nearF f.1 f.2) fT (fun f hf N M h1 h0=>?_) ?_
   ·have fb:Fk 21 f:=by
     simp only[xk5,xlk,xlW] at hf
     rcases hf with rfl | rfl
     ·exact pk.1
     ·exact pk.2
    refine⟨⟨cj (by decide) (by decide),fb.bot.bd⟩,?_⟩
    rw[←nf] at h1 h0
    exact xU h1 h0
   ·dsimp only[xf3,xdR]
    refine rh (uE fT xg2 _) ?_
    rw[xkK,filter_empty]
    have e2:([(plc v).1,(plc v).2].all fun f=>!!nearF f.1 f.2)=qN v:=by
     simp only[xkg,List.all_nil,Bool.and_true,Bool.not_not];rfl
    rw[e2]
    refine xU (b := !qN v) (fun c=>?_) (fun c=>?_)
    ·have c:qN v=false:=by simpa using c
     have:(Pol.pieces rows).all qN=false:=by
      rw[xkh]
      exact⟨v,wq hvm,by rw[c];exact xjJ⟩
     rw[this] at k
     exact k
    ·refine hN2 _ ⟨_,rfl,fun w hw=>?_⟩
     rw[xls,hvi] at hw
     rcases xk2.mp hw with q | q
     ·exact hW w q
     ·have:w=v:=by simpa using q
      rw[this];simpa using c
  ·rintro τ ⟨y7,rfl,hW⟩
   rw[xkP,xlr (xlw _)] at hW
   exact hN _ hW
theorem n8 (B:Blt mg bn)(F:Fun K "_law_due" "_law_due" kD f fd)(m:mg "_law_due" = some (.ref f))(b:Binds K fd ["_law_text"] [])(uO:Own P w K mg base 8 "_law_is_field" ["_law_rows"] (spT 1 false false xgk))(uq:Own P w K mg base 1 "_law_number_in" ["_law_word"] (spT 1 false false xdV)) :
  Own P w K mg base 9 "_law_due" ["_law_text"] (spT 1 false false xdY):=by
 refine xM F fu m b rfl (fun _ _ _ _ _ _ hr=>⟨_,_,
  (xc (yL 1 fu.nd (yR (zY K) rfl (B.get "tuple") zV (yn (yF (xT (N:=["_law_row"]) (tau:=[none]) (XN:=["_law_text", "_law_rows"]) (xs:=xf kD) (by decide +kernel) rfl rfl) rfl (yB rfl) (yy K (ur PySem.F.plainAttrs_str PySem.F.slot_str_split PySem.F.type_str_split u5 (pv 0) (yn yE))) (fun _ _ _ _=>(xS (i:=0) (show(["_law_row"]:List Str).Nodup by decide +kernel) rfl (Or.inl rfl))) (fun _ _ _ _=>yM) (fun _ _ _ _=>(yR (zY K) rfl (B.get "tuple") zV (yn (yF (xT (N:=["_law_word"]) (tau:=[none]) (XN:=["_law_row"]) (xs:=_) (by kernel_rfl) rfl rfl) rfl (yB rfl) (yy K (ur PySem.F.plainAttrs_str PySem.F.slot_str_split PySem.F.type_str_split u5 (pv 0) (yn yE))) (fun _ _ _ _=>(xS (i:=0) (show(["_law_word"]:List Str).Nodup by decide +kernel) rfl (Or.inl rfl))) (fun _ _ _ _=>yM) (fun _ _ _ _=>(xq uq hr (yn (pv 0))))))))))))
  (xi (xG (jF (yY (xq uO hr (yn (pv 1)))) (pv 1) gA)))),
  (xj (xO (kG (xw (OkF.e (ya (yf (OkF.e (uc xa (xw (vp (t:=Tr.str _)))))).c xk yt (kG (xw (OkF.e (ya (yf (OkF.e (uc xa (xw (vp (t:=Tr.str _)))))).c xk yt (xR (xw xa)))))))))))
  (xA (nr (yG (xR (xw xa))) xa (vp (t:=Tr.non))))),fun ts KK hl h=>?_⟩)
 obtain⟨x,rfl,hb,k⟩:=h
 have hl:=hb.len
 refine yc (fun τ=>τ=[.fz (.str x),.fz (m5 x)]) ?_ (fun N hN=>?_)
 ·rintro _ rfl
  refine⟨_,xlN (fun t=>[t]) (c7 x),?_⟩
  rw[←c7]
  refine xU (fun c=>?_) (fun c=>?_)
  ·rw[if_pos c] at k;exact k
  ·rw[if_neg (by rw[c];exact xjJ)] at k;exact k
 ·refine⟨trivial,_,_,rfl,rfl,rfl,wg (by omega),uX hl _,by rw[xkP];exact sqz (by have:=uy hl (" ; " : Str) (by decide);omega),?_⟩
  refine yK xej (fun r hm N hN=>?_) (hN _ rfl)
  have hr:=hb.part hm
  refine⟨trivial,_,_,rfl,rfl,rfl,wg (by have:=hr.len;omega),uX hr.len _,by rw[xkP];exact sqz (by have:=uy hr.len (" " : Str) (by decide);omega),?_⟩
  exact yK (fun w=>jY (n5 w)) (fun w hw N hN=>⟨w,rfl,hr.word hw,(hr.part hw).asc,hN⟩) hN
theorem nz (B:Blt mg bn)(F:Fun K "_law_bent" "_law_bent" jh f fd)(m:mg "_law_bent" = some (.ref f))(b:Binds K fd ["_law_state_here", "_law_text"] [])(xB:Own P w K mg base 1 "_law_take" ["_law_state_here", "_law_many"] (spT 1 true false xaz)) :
  Own P w K mg base 2 "_law_bent" ["_law_state_here", "_law_text"] (spT 1 true false xew):=by
 refine mI F zy m b rfl (fun _ _ _ _ _ _ hr=>⟨_,_,
  (xc (yL 2 zy.nd (xq xB hr (x8 (pv 0) xg)))
  (xc (yL 3 zy.nd (xq xB hr (x8 (pv 0) (xy zT (xl qD rfl (B.get "len") wk (yn (pv 1))) xg))))
  (xc (yL 4 zy.nd (wH (yW K) yE (xq xB hr (x8 (pv 0) xg)) (fun _ _=>rfl)))
  (xc (yA (xK (jy K hr.units) (pv 2) xg (xY _)) (xi (xG (wH (yW K) (yX (xQ (xy vC (yS kO (pv 1) zt (zm (pv 3))) (yS kO (pv 1) (zm (xy zT (pv 3) xg)) zt)) (x8 (xy vC (xy vC (yS kO (pv 1) zt (zm (pv 3))) (pv 4)) (yS kO (pv 1) (zm (pv 3)) zt)) (xy vC (xy vC (yS kO (pv 1) zt (zm (pv 3))) (pv 4)) (yS kO (pv 1) (zm (xy zT (pv 3) xg)) zt))))) (pv 2) (fun _ _=>rfl)))) xX)
  (xc (yL 5 zy.nd (wH (yW K) (yX (x8 yE yE)) (yR ng rfl (B.get "int") tQ (yn (zA bB (pv 2) xg (xY _)))) (fun _ _=>rfl)))
  (xc (yL 6 zy.nd (ur PySem.F.plainAttrs_str PySem.F.slot_str_split PySem.F.type_str_split u5 (pv 1) (yn (pv 5))))
  (xc (yL 7 zy.nd (xq xB hr (x8 (pv 0) (xl (yD K) rfl (B.get "len") wk (yn (pv 6))))))
  (xc (yA (xK (xbb hr.units) (pv 2) (yr (x8 xg xg)) (by with_unfolding_all rfl)) (xi (vk (ur PySem.F.plainAttrs_list PySem.F.slot_list_pop PySem.F.type_list_pop xdj (pv 6) (yn (pv 7))))) (xi (yA (xK (xbb hr.units) (pv 2) (yr (x8 xg xg)) (by with_unfolding_all rfl)) (xi (vk (ur PySem.F.plainAttrs_list PySem.F.slot_list_insert PySem.F.type_list_insert tV (pv 6) (x8 (pv 7) (wH (yW K) (pv 6) (xq xB hr (x8 (pv 0) (xl (yD K) rfl (B.get "len") wk (yn (pv 6))))) (fun _ _=>rfl)))))) (xi (yA (xK (we hr.units) (pv 2) xg (xY _)) (xi (kN (wH (yW K) (yX (xQ yE (xQ yE (xQ yE (xQ yE (xQ yE (xQ yE (x8 yE yE)))))))) (xq xB hr (x8 (pv 0) xg)) (fun _ _=>rfl)) (xa0 (pv 6) (pv 7) set_list))) xX)))))
  (xi (xG (ur PySem.F.plainAttrs_str PySem.F.slot_str_join PySem.F.type_str_join (jB K) (pv 5) (yn (pv 6))))))))))))),
  (xj (xO (yx (xw xn)))
  (xj (xO (yx (xw (xh uu (yb cq (xw xa)) xn))))
  (xj (xO (xh xdC (vp (t:=Tr.str _)) (yx (xw xn))))
  (xj (yd (xr (xh jE xa xn)) (xA (kK (wa (b:=true) (xI (xh fA (kR xa yU (yT xa)) (kR xa (yT (xh uu xa xn)) yU)) (xN (xh fA (xh fA (kR xa yU (yT xa)) xa) (kR xa (yT xa) yU)) (xh fA (xh fA (kR xa yU (yT xa)) xa) (kR xa (yT (xh uu xa xn)) yU))))) xa)) xJ)
  (xj (xO (kK (wa (b:=true) (xN (vp (t:=Tr.str _)) (vp (t:=Tr.str _)))) (yb xdU (xw (xh cD xa xn)))))
  (xj (wF (uc xa (xw xa)))
  (xj (xO (yx (xw (yb vc (xw kg)))))
  (xj (yd (xr (xh lD xa (yu (b:=true) (xN xn xn)))) (xaa xa) (yd (xr (xh lD xa (yu (b:=true) (xN xn xn)))) (xaQ xa (cS (yx (xw (yb vc (xw kg)))))) (yd (xr (xh os_eq xa xn)) (qx (kK (wa (b:=true) (xI (vp (t:=Tr.str _)) (xI (vp (t:=Tr.str _)) (xI (vp (t:=Tr.str _)) (xI (vp (t:=Tr.str _)) (xI (vp (t:=Tr.str _)) (xI (vp (t:=Tr.str _)) (xN (vp (t:=Tr.str _)) (vp (t:=Tr.str _)))))))))) (yx (xw xn))) (xe_ xa)) xJ)))
  (xA (fq dB xa (xw kg))))))))))),fun ts KK hl h=>?_⟩)
 obtain⟨x,L,W,rfl,hb,w5,l5,l4,k⟩:=h
 have hl:=hb.len
 refine yc (fun τ=>∃way:Int,(0≤way∧way<9)∧τ=[.st,.fz (.str x),.fz (.int way),.un,.un,.un,.un,.un]) ?_ (fun N hN=>⟨tk (by decide),fun r r0 r1=>hN _ ⟨r,⟨r0,r1⟩,rfl⟩⟩)
 rintro _ ⟨way,⟨w0,w9⟩,rfl⟩
 refine yc (fun τ=>∃a:Int,τ=[.st,.fz (.str x),.fz (.int way),.fz (.int a),.un,.un,.un,.un]) ?_ (fun N hN=>⟨_,rfl,wg (by omega),tk (by omega),fun r r0 r1=>hN _ ⟨r,rfl⟩⟩)
 rintro _ ⟨a,rfl⟩
 refine yc (fun τ=>∃c:Nat,c<128∧τ=[.st,.fz (.str x),.fz (.int way),.fz (.int a),.fz (.str ⟨#[c]⟩),.un,.un,.un]) ?_ (fun N hN=>⟨tk (by decide),fun r r0 r1=>?_⟩)
 rotate_left
 ·obtain⟨c,c1,hc⟩:=xex r0 r1
  exact⟨wg (by decide),c,hc,hN _ ⟨c,c1,rfl⟩⟩
 rintro _ ⟨c,c1,rfl⟩
 have sl:∀lo hi,(Txt.slice x lo hi).length≤40000:=fun lo hi=>by have:=(hb.slice lo hi).len;omega
 have one:((⟨#[c]⟩:Str)).length=1:=rfl
 refine yc (fun τ=>τ=[.st,.fz (.str x),.fz (.int way),.fz (.int a),.fz (.str ⟨#[c]⟩),.un,.un,.un]) ?_ (fun N hN=>xU (b:=decide (way<3)) (fun d=>?_) (fun _=>hN _ rfl))
 rotate_left
 ·have d:=xlV d
  have s1:=sl none (some a)
  have s2:=sl (some (a+1)) none
  have s3:=sl (some a) none
  refine⟨wg (by omega),wg (by omega),wg (by omega),wg (by omega),wg (by rw[one];omega),wg (by omega),wg (by rw[Str.length_append,one];omega),wg (by omega),wg (by rw[one];omega),wg (by omega),wg (by rw[Str.length_append,one];omega),?_⟩
  refine ff w0 d fun t ht=>?_
  have bs:∀lo hi,Bt L W (Txt.slice x lo hi):=fun lo hi=>hb.slice lo hi
  simp only[xk5,xlk,xlW] at ht
  rcases ht with rfl | rfl | rfl
  ·exact k _ (((bs _ _).app (bs _ _)).mono (by omega) (by omega))
  ·exact k _ ((((bs _ _).app (xdT c1)).app (bs _ _)).mono (by omega) (by omega))
  ·exact k _ ((((bs _ _).app (xdT c1)).app (bs _ _)).mono (by omega) (by omega))
 rintro _ rfl
 refine yc (fun τ=>∃y:Str,(y=(" " : Str)∨y=(" ; " : Str))∧τ=[.st,.fz (.str x),.fz (.int way),.fz (.int a),.fz (.str ⟨#[c]⟩),.fz (.str y),.un,.un]) ?_ (fun N hN=>?_)
 rotate_left
 ·have go:∀b:Bool,xfv [.bl b] fun i=>fIx (.lst [.str (" " : Str),.str (" ; " : Str)]) i fun t=>N [.st,.fz (.str x),.fz (.int way),.fz (.int a),.fz (.str ⟨#[c]⟩),.fz t,.un,.un]:=fun b=>by
   cases b with
   | true=>exact hN _ ⟨_,.inr rfl,rfl⟩
   | false=>exact hN _ ⟨_,.inl rfl,rfl⟩
  exact go _
 rintro _ ⟨y,hy,rfl⟩
 have y3:1≤y.length∧y.length≤3:=by rcases hy with rfl | rfl<;>decide
 have many:=sJ x y y3.1
 have ne:=xkQ.mpr (cW x y)
 refine yc (fun τ=>τ=[.st,.fz (.str x),.fz (.int way),.fz (.int a),.fz (.str ⟨#[c]⟩),.fz (.str y),.ow ((Txt.split x y).map Tr.str),.un]) ?_ (fun N hN=>⟨trivial,_,_,rfl,rfl,by rw[beq_eq_false_iff_ne];omega,wg (by omega),uX (by omega) _,hN _ rfl⟩)
 rintro _ rfl
 refine yc (fun τ=>∃n:Nat,n<(Txt.split x y).length∧τ=[.st,.fz (.str x),.fz (.int way),.fz (.int a),.fz (.str ⟨#[c]⟩),.fz (.str y),.ow ((Txt.split x y).map Tr.str),.fz (.int n)]) ?_ (fun N hN=>⟨tk (by rw[xkP];omega),fun r r0 r1=>?_⟩)
 rotate_left
 ·rw[xkP] at r1
  obtain⟨n,rfl⟩:=xjR r0
  exact hN _ ⟨n,by omega,rfl⟩
 rintro _ ⟨n,hn,rfl⟩
 have wd:=xaD hb y3.2
 refine yc (fun τ=>∃ws:List Str,Wds y.length (2*L+6) W ws∧τ=[.st,.fz (.str x),.fz (.int way),.fz (.int a),.fz (.str ⟨#[c]⟩),.fz (.str y),.ow (ws.map Tr.str),.fz (.int n)]) ?_ (fun N hN=>⟨⟨rfl,rfl,by show 0≤60;decide⟩,xU (fun _=>?_) (fun _=>⟨⟨rfl,rfl,by show 0≤60;decide⟩,xU (fun _=>?_) (fun _=>xU (fun _=>?_) (fun _=>hN _ ⟨_,⟨wd.ok,by have:=wd.sum;omega⟩,rfl⟩))⟩)⟩)
 ·rintro _ ⟨ws,hw,rfl⟩
  have j:=xdk hw.sum (by omega)
  exact⟨trivial,y,ws,rfl,rfl,j.1,j.2,k _ ((ou (by omega) hy hw.ok hw.sum).mono (xlw _) (by omega))⟩
 ·have e:=wd.erase n
  refine⟨n,rfl,by rw[xkP];exact hn,by rw[xkP];exact sqz (by omega),hN _ ⟨_,⟨e.ok,by have:=e.sum;omega⟩,?_⟩⟩
  rw[←xbY];rfl
 ·refine⟨tk (by rw[xkP];omega),fun r r0 r1=>?_⟩
  refine ff r0 r1 fun t ht=>?_
  obtain⟨q,hq,rfl⟩:=xla.mp ht
  have e:=wd.ins n hq
  refine⟨n,rfl,by rw[xkP];omega,by rw[xkP];exact sqz (by omega),hN _ ⟨_,⟨e.ok,by have:=e.sum;omega⟩,?_⟩⟩
  rw[xkV,xkV,xk1,xkY];rfl
 ·refine⟨tk (by decide),fun r r0 r1=>?_⟩
  refine ff r0 r1 fun t ht=>?_
  have put:∀q:Str,(∀c∈q.cps.toList,c<128)→q.length≤4→xim 6 (nX 7) (.str q) [.st,.fz (.str x),.fz (.int way),.fz (.int a),.fz (.str ⟨#[c]⟩),.fz (.str y),.ow ((Txt.split x y).map Tr.str),.fz (.int n)] N:=fun q qa ql=>by
   show match xf0 ((Txt.split x y).map Tr.str) (.str q) (n:Int) with | some us=>N [.st,.fz (.str x),.fz (.int way),.fz (.int a),.fz (.str ⟨#[c]⟩),.fz (.str y),.ow us,.fz (.int n)] | none=>False
   rw[xa6 hn]
   have e:=wd.put hn qa ql (by omega) y3.2
   exact hN _ ⟨_,⟨e.ok,by have:=e.sum;omega⟩,rfl⟩
  simp only[xk5,xlk,xlW] at ht
  rcases ht with rfl | rfl | rfl | rfl | rfl | rfl | rfl | rfl<;>exact put _ (by decide) (by decide)
end
end K91
namespace K91
open PySem L2 Tx NumText
open Builtin.Str (occurrences)
section
variable {P:Program} {w:World} {K:PySem.W.Frag} {mg:Str→Option Value} {base:Heap} {f:Addr} {fd:FuncData}
theorem fZ {kl j:Nat}(B:Blt mg bn)(F:Fun K "_law_refused" "_law_refused" w_ f fd)(m:mg "_law_refused" = some (.ref f))(b:Binds K fd ["_law_call"] [])(hj:j<10){C a_CutError:Addr}(Z:lA K C)(m_CutError:mg "CutError" = some (.ref a_CutError))(i_CutError:PySem.W.exmOne K (.ref C) (.ref a_CutError)=some true)(i_ValueError:PySem.W.kitOne K (.ref C) (.type "ValueError")=some true)
  {a_NoField:Addr} (m_NoField:mg "NoField" = some (.ref a_NoField)) (i_NoField:PySem.W.kitOne K (.ref C) (.ref a_NoField)=some (decide (j=0)))
  {a_NoWeights:Addr} (m_NoWeights:mg "NoWeights" = some (.ref a_NoWeights)) (i_NoWeights:PySem.W.kitOne K (.ref C) (.ref a_NoWeights)=some (decide (j=1)))
  {a_NoCut:Addr} (m_NoCut:mg "NoCut" = some (.ref a_NoCut)) (i_NoCut:PySem.W.kitOne K (.ref C) (.ref a_NoCut)=some (decide (j=2)))
  {a_Nothing:Addr} (m_Nothing:mg "Nothing" = some (.ref a_Nothing)) (i_Nothing:PySem.W.kitOne K (.ref C) (.ref a_Nothing)=some (decide (j=3)))
  {a_NoTurn:Addr} (m_NoTurn:mg "NoTurn" = some (.ref a_NoTurn)) (i_NoTurn:PySem.W.kitOne K (.ref C) (.ref a_NoTurn)=some (decide (j=4)))
  {a_NoCorner:Addr} (m_NoCorner:mg "NoCorner" = some (.ref a_NoCorner)) (i_NoCorner:PySem.W.kitOne K (.ref C) (.ref a_NoCorner)=some (decide (j=5)))
  {a_NoNumber:Addr} (m_NoNumber:mg "NoNumber" = some (.ref a_NoNumber)) (i_NoNumber:PySem.W.kitOne K (.ref C) (.ref a_NoNumber)=some (decide (j=6)))
  {a_NoText:Addr} (m_NoText:mg "NoText" = some (.ref a_NoText)) (i_NoText:PySem.W.kitOne K (.ref C) (.ref a_NoText)=some (decide (j=7)))
  {a_NoLine:Addr} (m_NoLine:mg "NoLine" = some (.ref a_NoLine)) (i_NoLine:PySem.W.kitOne K (.ref C) (.ref a_NoLine)=some (decide (j=8)))
  {a_NoDeed:Addr} (m_NoDeed:mg "NoDeed" = some (.ref a_NoDeed)) (i_NoDeed:PySem.W.kitOne K (.ref C) (.ref a_NoDeed)=some (decide (j=9))) :
  Own P w K mg base (kl+1) "_law_refused" ["_law_call"] (xdi P w K mg base kl C j):=by
 refine dY F y4 m b (fun vs H Q E h=>?_) (fun cdv A outer s H vs Q E hr h=>?_)
 ·obtain⟨g,KX,rfl,_⟩:=h
  rfl
 obtain⟨g,KX,rfl,hfn,hl,q⟩:=h
 refine⟨_,xc (yL 1 y4.nd gA) (xfP (i:=2) (j:=1) (c:=0) (C:=C) (g:=g) (LP:=fun H1=>H1=H) (KX:=fun _ H1=>KX H1) rfl rfl y4.nd rfl rfl rfl rfl (Or.inl rfl) (Or.inl rfl) rfl rfl m_CutError i_CutError rfl rfl rfl rfl rfl rfl rfl hfn
  (fun pins σ H1 s1 I e=>by cases e;exact hl _ _ _ hr I.env0) (fun ea oe hcl =>
  (xc (ug (i:=3) y4.nd rfl (Or.inr rfl) (yX (xQ (xl (zO (ea:=ea) xk7 hcl Z i_NoField) (by rfl) (B.get "isinstance") xu (x8 (pv 1) (zb (v:=V.ref a_NoField) (by rfl) m_NoField rfl))) (x8 (xl (zO (ea:=ea) xk7 hcl Z i_NoWeights) (by rfl) (B.get "isinstance") xu (x8 (pv 1) (zb (v:=V.ref a_NoWeights) (by rfl) m_NoWeights rfl))) (xl (zO (ea:=ea) xk7 hcl Z i_NoCut) (by rfl) (B.get "isinstance") xu (x8 (pv 1) (zb (v:=V.ref a_NoCut) (by rfl) m_NoCut rfl)))))))
  (xc (ug (i:=3) y4.nd rfl (Or.inr rfl) (xy sC (pv 3) (yX (xQ (xl (zO (ea:=ea) xk7 hcl Z i_Nothing) (by rfl) (B.get "isinstance") xu (x8 (pv 1) (zb (v:=V.ref a_Nothing) (by rfl) m_Nothing rfl))) (x8 (xl (zO (ea:=ea) xk7 hcl Z i_NoTurn) (by rfl) (B.get "isinstance") xu (x8 (pv 1) (zb (v:=V.ref a_NoTurn) (by rfl) m_NoTurn rfl))) (xl (zO (ea:=ea) xk7 hcl Z i_NoCorner) (by rfl) (B.get "isinstance") xu (x8 (pv 1) (zb (v:=V.ref a_NoCorner) (by rfl) m_NoCorner rfl))))))))
  (xc (ug (i:=3) y4.nd rfl (Or.inr rfl) (xy sC (pv 3) (yX (xQ (xl (zO (ea:=ea) xk7 hcl Z i_NoNumber) (by rfl) (B.get "isinstance") xu (x8 (pv 1) (zb (v:=V.ref a_NoNumber) (by rfl) m_NoNumber rfl))) (x8 (xl (zO (ea:=ea) xk7 hcl Z i_NoText) (by rfl) (B.get "isinstance") xu (x8 (pv 1) (zb (v:=V.ref a_NoText) (by rfl) m_NoText rfl))) (xl (zO (ea:=ea) xk7 hcl Z i_NoLine) (by rfl) (B.get "isinstance") xu (x8 (pv 1) (zb (v:=V.ref a_NoLine) (by rfl) m_NoLine rfl))))))))
  (xc (vk (ur PySem.F.plainAttrs_list PySem.F.slot_list_append PySem.F.type_list_append uR (pv 3) (yn (xl (zO (ea:=ea) xk7 hcl Z i_NoDeed) (by rfl) (B.get "isinstance") xu (x8 (pv 1) (zb (v:=V.ref a_NoDeed) (by rfl) m_NoDeed rfl))))))
  (xc (yA (wD (yY (xl (xbQ (ea:=ea) xk7 hcl Z i_ValueError) (by rfl) (B.get "isinstance") xu (x8 (pv 1) (zF (v:=V.ty "ValueError") (by rfl) (B.get "ValueError") tu rfl))))) zZ xX)
  (xi (xG (yF (xT (N:=["_law_k", "_law_kinds"]) (tau:=[none,some 3]) (XN:=["_law_call", "_law_error", "e", "_law_kinds"]) (xs:=xf w_) (by decide +kernel) rfl rfl) rfl (yB rfl) (vI rfl (B.get "range") (yn xg)) (fun _ _ _ _=>(xS (i:=0) (show(["_law_k", "_law_kinds"]:List Str).Nodup by decide +kernel) rfl (Or.inl rfl))) (fun _ _ _ _=>(qG (yY (wH (yW K) (pv 1) (pv 0) (fun _ _=>rfl))))) (fun _ _ _ _=>(pv 0)))))))))))),?_⟩
 refine⟨rfl,rfl,fun ea oe H1 kx=>?_⟩
 refine xho (j:=j) (xj (wF (hV (xI qZ (xN qZ qZ))))
  (xj (wF (oU (wa (b:=true) (xI qZ (xN qZ qZ)))))
  (xj (wF (oU (wa (b:=true) (xI qZ (xN qZ qZ)))))
  (xj (jl qZ)
  (xj (yd (y8 (yG qZ)) vB xJ)
  (xbI (i:=3) (fh (ya (uD (xw xn)).c xk (yG (kK xa xa)) xa)))))))) ?_ fun H2 a e1 e2 e3=>q H1 H2 a kx e1 e2 e3
 refine⟨rfl,rfl,rfl,?_⟩
 refine⟨rfl,rfl,rfl,(show 6≤sizeLine by decide),?_⟩
 refine⟨rfl,rfl,rfl,(show 9≤sizeLine by decide),?_⟩
 refine⟨rfl,(show 9<sizeLine by decide),?_⟩
 refine⟨rfl,?_⟩
 refine⟨by decide,(show 10<sizeLine by decide),?_⟩
 have hs:j=0∨j=1∨j=2∨j=3∨j=4∨j=5∨j=6∨j=7∨j=8∨j=9:=by omega
 clear q kx hl hr
 rcases hs with rfl | rfl | rfl | rfl | rfl | rfl | rfl | rfl | rfl | rfl<;>rfl
end
section
variable {P:Program} {w:World} {K:PySem.W.Frag} {mg:Str→Option Value} {base:Heap} {f:Addr} {fd:FuncData}
end
end K91
namespace K91
open PySem L2 Tx NumText
open Builtin.Str (occurrences)
theorem all_mk {l:PySem.W.OpenLaw}{w:World}{K:PySem.W.Frag}{h:Heap}{mg:Str→Option Value}{fa:Addr}{fn c T:Addr}{od an:Option Addr}{sl:Array (Option Value)}{oc kV dc pm ct:Value}{a_CutError a_NoField a_NoWeights a_NoCut a_Nothing a_NoTurn a_NoCorner a_NoNumber a_NoText a_NoLine a_NoDeed:Addr}{tc1:Tok}(X:K.In h)(G:h.Ns mainGlobals mg)(hfa:mg "law" = some (.ref fa))
  (d1:DD K "is_whole" gu) (d2:DD K "greatest_divisor" wG) (d3:DD K "beyond" tw) (d4:DD K "is_ahead" gw) (d5:DD K "turn_to" fK) (d6:DD K "is_near" jQ) (d7:DD K "rows_text" vT) (d8:DD K "read_number" zG) (d9:DD K "_law_cell_at" vn) (d10:DD K "_law_take" ja) (d11:DD K "_law_divisor" vt) (d12:DD K "_law_less" jr) (d13:DD K "_law_number_in" zW) (d14:DD K "are_whole" vU) (d15:DD K "lowest" aC) (d16:DD K "where_crossed" wC) (d17:DD K "from_least" qT) (d18:DD K "furthest" hJ) (d19:DD K "points_back" qd) (d20:DD K "read_row" uB) (d21:DD K "_law_state" qP) (d22:DD K "_law_field" ub) (d23:DD K "_law_low" j4) (d24:DD K "_law_bent" jh) (d25:DD K "places_of" v_) (d26:DD K "cut_piece" ji) (d27:DD K "is_row" rz) (d28:DD K "go_round" hU) (d29:DD K "_law_crossing" uS) (d30:DD K "_law_value" qB) (d31:DD K "_law_minus" qQ) (d32:DD K "_law_times" qE) (d33:DD K "cut_down" h_) (d34:DD K "is_field_row" vy) (d35:DD K "_law_keeps" qw) (d36:DD K "_law_cross" qA) (d37:DD K "piece_left" q9) (d38:DD K "_law_all_left" wy) (d39:DD K "corners_left" vx) (d40:DD K "_law_ring" wW) (d41:DD K "_law_same" uG) (d42:DD K "is_field" vA) (d43:DD K "_law_corners" wX) (d44:DD K "read_field" zC) (d45:DD K "_law_is_field" zi) (d46:DD K "_law_due" kD) (d47:DD K "_law_refused" w_)
  (aN:PySem.W.nsIn K mainGlobals "law" = some (some (.ref fn))) (ln:K.lookup fn=some ⟨oc,od,.func (PySem.W.fnOf "law" "law" (uj fU) (yZ fU) (xf fU) .none kV dc pm an (.ref c) ct),sl⟩) (cn:PySem.W.codeIn K (.ref c) "law" = true) (kn:PySem.W.keepIn K (.ref fn)=true)
  (z1:PySem.W.nsIn K mainGlobals "len" = some none)
  (z2:PySem.W.nsIn K mainGlobals "range" = some none)
  (z3:PySem.W.nsIn K mainGlobals "max" = some none)
  (z4:PySem.W.nsIn K mainGlobals "min" = some none)
  (z5:PySem.W.nsIn K mainGlobals "abs" = some none)
  (z6:PySem.W.nsIn K mainGlobals "isinstance" = some none)
  (z7:PySem.W.nsIn K mainGlobals "tuple" = some none)
  (z8:PySem.W.nsIn K mainGlobals "list" = some none)
  (z9:PySem.W.nsIn K mainGlobals "int" = some none)
  (z10:PySem.W.nsIn K mainGlobals "bool" = some none)
  (z11:PySem.W.nsIn K mainGlobals "str" = some none)
  (z12:PySem.W.nsIn K mainGlobals "dict" = some none)
  (z13:PySem.W.nsIn K mainGlobals "all" = some none)
  (z14:PySem.W.nsIn K mainGlobals "zip" = some none)
  (z15:PySem.W.nsIn K mainGlobals "enumerate" = some none)
  (z16:PySem.W.nsIn K mainGlobals "ValueError" = some none)
  (z17:PySem.W.nsIn K mainGlobals "any" = some none)
  (y1:PySem.W.nsIn K mainGlobals "FAR" = some (some (.int 60001 tc1)))
  (k_CutError:PySem.W.nsIn K mainGlobals "CutError" = some (some (.ref a_CutError)))
  (k_NoField:PySem.W.nsIn K mainGlobals "NoField" = some (some (.ref a_NoField)))
  (k_NoWeights:PySem.W.nsIn K mainGlobals "NoWeights" = some (some (.ref a_NoWeights)))
  (k_NoCut:PySem.W.nsIn K mainGlobals "NoCut" = some (some (.ref a_NoCut)))
  (k_Nothing:PySem.W.nsIn K mainGlobals "Nothing" = some (some (.ref a_Nothing)))
  (k_NoTurn:PySem.W.nsIn K mainGlobals "NoTurn" = some (some (.ref a_NoTurn)))
  (k_NoCorner:PySem.W.nsIn K mainGlobals "NoCorner" = some (some (.ref a_NoCorner)))
  (k_NoNumber:PySem.W.nsIn K mainGlobals "NoNumber" = some (some (.ref a_NoNumber)))
  (k_NoText:PySem.W.nsIn K mainGlobals "NoText" = some (some (.ref a_NoText)))
  (k_NoLine:PySem.W.nsIn K mainGlobals "NoLine" = some (some (.ref a_NoLine)))
  (k_NoDeed:PySem.W.nsIn K mainGlobals "NoDeed" = some (some (.ref a_NoDeed)))
  (Z_NoText:lA K a_NoText) (e_NoText:PySem.W.exmOne K (.ref a_NoText) (.ref a_CutError)=some true) (v_NoText:PySem.W.kitOne K (.ref a_NoText) (.type "ValueError")=some true) (x_NoText:PySem.W.excIn K a_NoText xil "ValueError.__new__" = true)
  (i_NoText_NoField:PySem.W.kitOne K (.ref a_NoText) (.ref a_NoField)=some (decide (7=0))) (i_NoText_NoWeights:PySem.W.kitOne K (.ref a_NoText) (.ref a_NoWeights)=some (decide (7=1))) (i_NoText_NoCut:PySem.W.kitOne K (.ref a_NoText) (.ref a_NoCut)=some (decide (7=2))) (i_NoText_Nothing:PySem.W.kitOne K (.ref a_NoText) (.ref a_Nothing)=some (decide (7=3))) (i_NoText_NoTurn:PySem.W.kitOne K (.ref a_NoText) (.ref a_NoTurn)=some (decide (7=4))) (i_NoText_NoCorner:PySem.W.kitOne K (.ref a_NoText) (.ref a_NoCorner)=some (decide (7=5))) (i_NoText_NoNumber:PySem.W.kitOne K (.ref a_NoText) (.ref a_NoNumber)=some (decide (7=6))) (i_NoText_NoText:PySem.W.kitOne K (.ref a_NoText) (.ref a_NoText)=some (decide (7=7))) (i_NoText_NoLine:PySem.W.kitOne K (.ref a_NoText) (.ref a_NoLine)=some (decide (7=8))) (i_NoText_NoDeed:PySem.W.kitOne K (.ref a_NoText) (.ref a_NoDeed)=some (decide (7=9)))
  (hct:xfR K=some (T,("law.<locals>.<lambda>" : Str))) (hTg:mainGlobals≠T) (cC:∀h,K.In h→PySem.W.CodeHd h c T) (bA:∀h,Mod K mg h→h.BuiltinsAt mg T) :
  ∃fd:FuncData,(∀(s:Shared) (v:Value),BindsTo s fd ⟨[v],[]⟩ [("_law_script", v)])∧∀base:Heap,Mod K mg base→sY l.prog w K mg base CX0 11 fa fd ["_law_script"] (fY K):=by
 have e:=hfa.symm.trans (PySem.W.mg_of X G aN)
 cases e
 obtain⟨f1,e1,a1,F1⟩:=d1
 obtain⟨f2,e2,a2,F2⟩:=d2
 obtain⟨f3,e3,a3,F3⟩:=d3
 obtain⟨f4,e4,a4,F4⟩:=d4
 obtain⟨f5,e5,a5,F5⟩:=d5
 obtain⟨f6,e6,a6,F6⟩:=d6
 obtain⟨f7,e7,a7,F7⟩:=d7
 obtain⟨f8,e8,a8,F8⟩:=d8
 obtain⟨f9,e9,a9,F9⟩:=d9
 obtain⟨f10,e10,a10,F10⟩:=d10
 obtain⟨f11,e11,a11,F11⟩:=d11
 obtain⟨f12,e12,a12,F12⟩:=d12
 obtain⟨f13,e13,a13,F13⟩:=d13
 obtain⟨f14,e14,a14,F14⟩:=d14
 obtain⟨f15,e15,a15,F15⟩:=d15
 obtain⟨f16,e16,a16,F16⟩:=d16
 obtain⟨f17,e17,a17,F17⟩:=d17
 obtain⟨f18,e18,a18,F18⟩:=d18
 obtain⟨f19,e19,a19,F19⟩:=d19
 obtain⟨f20,e20,a20,F20⟩:=d20
 obtain⟨f21,e21,a21,F21⟩:=d21
 obtain⟨f22,e22,a22,F22⟩:=d22
 obtain⟨f23,e23,a23,F23⟩:=d23
 obtain⟨f24,e24,a24,F24⟩:=d24
 obtain⟨f25,e25,a25,F25⟩:=d25
 obtain⟨f26,e26,a26,F26⟩:=d26
 obtain⟨f27,e27,a27,F27⟩:=d27
 obtain⟨f28,e28,a28,F28⟩:=d28
 obtain⟨f29,e29,a29,F29⟩:=d29
 obtain⟨f30,e30,a30,F30⟩:=d30
 obtain⟨f31,e31,a31,F31⟩:=d31
 obtain⟨f32,e32,a32,F32⟩:=d32
 obtain⟨f33,e33,a33,F33⟩:=d33
 obtain⟨f34,e34,a34,F34⟩:=d34
 obtain⟨f35,e35,a35,F35⟩:=d35
 obtain⟨f36,e36,a36,F36⟩:=d36
 obtain⟨f37,e37,a37,F37⟩:=d37
 obtain⟨f38,e38,a38,F38⟩:=d38
 obtain⟨f39,e39,a39,F39⟩:=d39
 obtain⟨f40,e40,a40,F40⟩:=d40
 obtain⟨f41,e41,a41,F41⟩:=d41
 obtain⟨f42,e42,a42,F42⟩:=d42
 obtain⟨f43,e43,a43,F43⟩:=d43
 obtain⟨f44,e44,a44,F44⟩:=d44
 obtain⟨f45,e45,a45,F45⟩:=d45
 obtain⟨f46,e46,a46,F46⟩:=d46
 obtain⟨f47,e47,a47,F47⟩:=d47
 have FL:=xeo (st:=fU) ln cn kn
 have b1:=zL (p1 := "thing") F1 fun _ _ _ _ _ _ _=>rfl
 have b2:=zS (p1 := "one") (p2 := "other") F2 fun _ _ _ _ _ _ _ _=>rfl
 have b3:=zS (p1 := "row") (p2 := "corner") F3 fun _ _ _ _ _ _ _ _=>rfl
 have b4:=zS (p1 := "one") (p2 := "other") F4 fun _ _ _ _ _ _ _ _=>rfl
 have b5:=zS (p1 := "one") (p2 := "other") F5 fun _ _ _ _ _ _ _ _=>rfl
 have b6:=zL (p1 := "place") F6 fun _ _ _ _ _ _ _=>rfl
 have b7:=zL (p1 := "rows") F7 fun _ _ _ _ _ _ _=>rfl
 have b8:=zL (p1 := "word") F8 fun _ _ _ _ _ _ _=>rfl
 have b9:=zS (p1 := "_law_script") (p2 := "_law_k") F9 fun _ _ _ _ _ _ _ _=>rfl
 have b10:=zS (p1 := "_law_state_here") (p2 := "_law_many") F10 fun _ _ _ _ _ _ _ _=>rfl
 have b11:=zS (p1 := "_law_one") (p2 := "_law_other") F11 fun _ _ _ _ _ _ _ _=>rfl
 have b12:=zS (p1 := "_law_one") (p2 := "_law_other") F12 fun _ _ _ _ _ _ _ _=>rfl
 have b13:=zL (p1 := "_law_word") F13 fun _ _ _ _ _ _ _=>rfl
 have b14:=zL (p1 := "things") F14 fun _ _ _ _ _ _ _=>rfl
 have b15:=zS (p1 := "top") (p2 := "bottom") F15 fun _ _ _ _ _ _ _ _=>rfl
 have b16:=oQ (p1 := "row") (p2 := "one") (p3 := "other") F16 fun _ _ _ _ _ _ _ _ _=>rfl
 have b17:=zL (p1 := "piece") F17 fun _ _ _ _ _ _ _=>rfl
 have b18:=oQ (p1 := "first") (p2 := "rows") (p3 := "sign") F18 fun _ _ _ _ _ _ _ _ _=>rfl
 have b19:=zS (p1 := "first") (p2 := "rows") F19 fun _ _ _ _ _ _ _ _=>rfl
 have b20:=zL (p1 := "words") F20 fun _ _ _ _ _ _ _=>rfl
 have b21:=zS (p1 := "_law_script") (p2 := "_law_k") F21 fun _ _ _ _ _ _ _ _=>rfl
 have b22:=zL (p1 := "_law_state_here") F22 fun _ _ _ _ _ _ _=>rfl
 have b23:=zS (p1 := "_law_top") (p2 := "_law_bottom") F23 fun _ _ _ _ _ _ _ _=>rfl
 have b24:=zS (p1 := "_law_state_here") (p2 := "_law_text") F24 fun _ _ _ _ _ _ _ _=>rfl
 have b25:=zL (p1 := "piece") F25 fun _ _ _ _ _ _ _=>rfl
 have b26:=zS (p1 := "piece") (p2 := "row") F26 fun _ _ _ _ _ _ _ _=>rfl
 have b27:=zL (p1 := "thing") F27 fun _ _ _ _ _ _ _=>rfl
 have b28:=zL (p1 := "rows") F28 fun _ _ _ _ _ _ _=>rfl
 have b29:=zS (p1 := "_law_one") (p2 := "_law_other") F29 fun _ _ _ _ _ _ _ _=>rfl
 have b30:=zS (p1 := "_law_row") (p2 := "_law_place") F30 fun _ _ _ _ _ _ _ _=>rfl
 have b31:=zS (p1 := "_law_one") (p2 := "_law_other") F31 fun _ _ _ _ _ _ _ _=>rfl
 have b32:=zS (p1 := "_law_one") (p2 := "_law_other") F32 fun _ _ _ _ _ _ _ _=>rfl
 have b33:=zS (p1 := "piece") (p2 := "rows") F33 fun _ _ _ _ _ _ _ _=>rfl
 have b34:=zL (p1 := "thing") F34 fun _ _ _ _ _ _ _=>rfl
 have b35:=zS (p1 := "_law_row") (p2 := "_law_place") F35 fun _ _ _ _ _ _ _ _=>rfl
 have b36:=oQ (p1 := "_law_one") (p2 := "_law_other") (p3 := "_law_third") F36 fun _ _ _ _ _ _ _ _ _=>rfl
 have b37:=zL (p1 := "rows") F37 fun _ _ _ _ _ _ _=>rfl
 have b38:=oQ (p1 := "_law_here") (p2 := "_law_place") (p3 := "_law_some") F38 fun _ _ _ _ _ _ _ _ _=>rfl
 have b39:=zL (p1 := "rows") F39 fun _ _ _ _ _ _ _=>rfl
 have b40:=zL (p1 := "_law_places") F40 fun _ _ _ _ _ _ _=>rfl
 have b41:=zS (p1 := "_law_found") (p2 := "_law_due_here") F41 fun _ _ _ _ _ _ _ _=>rfl
 have b42:=zL (p1 := "thing") F42 fun _ _ _ _ _ _ _=>rfl
 have b43:=zL (p1 := "_law_rows") F43 fun _ _ _ _ _ _ _=>rfl
 have b44:=zL (p1 := "text") F44 fun _ _ _ _ _ _ _=>rfl
 have b45:=zL (p1 := "_law_rows") F45 fun _ _ _ _ _ _ _=>rfl
 have b46:=zL (p1 := "_law_text") F46 fun _ _ _ _ _ _ _=>rfl
 have b47:=zL (p1 := "_law_call") F47 fun _ _ _ _ _ _ _=>rfl
 have B:Blt mg bn:=⟨fun x hx=>by
  simp only[bn,xk5,xlk,xlW] at hx
  rcases hx with rfl | rfl | rfl | rfl | rfl | rfl | rfl | rfl | rfl | rfl | rfl | rfl | rfl | rfl | rfl | rfl | rfl
  ·exact PySem.W.mg_none_of X G z1
  ·exact PySem.W.mg_none_of X G z2
  ·exact PySem.W.mg_none_of X G z3
  ·exact PySem.W.mg_none_of X G z4
  ·exact PySem.W.mg_none_of X G z5
  ·exact PySem.W.mg_none_of X G z6
  ·exact PySem.W.mg_none_of X G z7
  ·exact PySem.W.mg_none_of X G z8
  ·exact PySem.W.mg_none_of X G z9
  ·exact PySem.W.mg_none_of X G z10
  ·exact PySem.W.mg_none_of X G z11
  ·exact PySem.W.mg_none_of X G z12
  ·exact PySem.W.mg_none_of X G z13
  ·exact PySem.W.mg_none_of X G z14
  ·exact PySem.W.mg_none_of X G z15
  ·exact PySem.W.mg_none_of X G z16
  ·exact PySem.W.mg_none_of X G z17⟩
 have sf:=PySem.W.mg_of X G y1
 have m_CutError:=PySem.W.mg_of X G k_CutError
 have m_NoField:=PySem.W.mg_of X G k_NoField
 have m_NoWeights:=PySem.W.mg_of X G k_NoWeights
 have m_NoCut:=PySem.W.mg_of X G k_NoCut
 have m_Nothing:=PySem.W.mg_of X G k_Nothing
 have m_NoTurn:=PySem.W.mg_of X G k_NoTurn
 have m_NoCorner:=PySem.W.mg_of X G k_NoCorner
 have m_NoNumber:=PySem.W.mg_of X G k_NoNumber
 have m_NoText:=PySem.W.mg_of X G k_NoText
 have m_NoLine:=PySem.W.mg_of X G k_NoLine
 have m_NoDeed:=PySem.W.mg_of X G k_NoDeed
 refine⟨PySem.W.fnOf "law" "law" (uj fU) (yZ fU) (xf fU) .none kV dc pm an (.ref c) ct,fun s v=>.of_eq rfl,fun base M=>?_⟩
 have j1:=fun z (M:Mod K mg z)=>bZ (P:=l.prog) (w:=w) (base:=z) B F1 (PySem.W.mg_of X G a1) b1
 have ym:=fun z (M:Mod K mg z)=>kX (P:=l.prog) (w:=w) (base:=z) B F2 (PySem.W.mg_of X G a2) b2
 have uw:=fun z (M:Mod K mg z)=>xai (P:=l.prog) (w:=w) (base:=z) B F3 (PySem.W.mg_of X G a3) b3
 have j3:=fun z (M:Mod K mg z)=>bH (P:=l.prog) (w:=w) (base:=z) B F4 (PySem.W.mg_of X G a4) b4
 have zR:=fun z (M:Mod K mg z)=>lG (P:=l.prog) (w:=w) (base:=z) B F5 (PySem.W.mg_of X G a5) b5
 have fR:=fun z (M:Mod K mg z)=>lj (P:=l.prog) (w:=w) (base:=z) B F6 (PySem.W.mg_of X G a6) b6
 have wV:=fun z (M:Mod K mg z)=>m7 (P:=l.prog) (w:=w) (base:=z) B F7 (PySem.W.mg_of X G a7) b7
 have zK:=fun z (M:Mod K mg z)=>sr (P:=l.prog) (w:=w) (base:=z) B F8 (PySem.W.mg_of X G a8) b8
 have ox_read_number__NoText:=fun(base:Heap) (M:Mod K mg base)=>qe (P:=l.prog) (w:=w) (base:=base) B F8 (PySem.W.mg_of X G a8) b8 (t_ M m_NoText x_NoText)
 have vi:=fun z (M:Mod K mg z)=>f_ (P:=l.prog) (w:=w) (base:=z) B F9 (PySem.W.mg_of X G a9) b9
 have xB:=fun(base:Heap) (M:Mod K mg base)=>xad (tN (P:=l.prog) (w:=w) (base:=base) F10 (PySem.W.mg_of X G a10) b10)
 have vm:=fun z (M:Mod K mg z)=>fQ (P:=l.prog) (w:=w) (base:=z) B F11 (PySem.W.mg_of X G a11) b11
 have vS:=fun z (M:Mod K mg z)=>mH (P:=l.prog) (w:=w) (base:=z) B F12 (PySem.W.mg_of X G a12) b12
 have uq:=fun z (M:Mod K mg z)=>j9 (P:=l.prog) (w:=w) (base:=z) B F13 (PySem.W.mg_of X G a13) b13
 have kW:=fun z (M:Mod K mg z)=>nK (P:=l.prog) (w:=w) (base:=z) B F14 (PySem.W.mg_of X G a14) b14 (j1 z M)
 have fc:=fun z (M:Mod K mg z)=>xaP (P:=l.prog) (w:=w) (base:=z) B F15 (PySem.W.mg_of X G a15) b15 (ym z M)
 have uL:=fun z (M:Mod K mg z)=>gP (P:=l.prog) (w:=w) (base:=z) B F16 (PySem.W.mg_of X G a16) b16 (ym z M) (uw z M)
 have qO:=fun z (M:Mod K mg z)=>aL (P:=l.prog) (w:=w) (base:=z) B F17 (PySem.W.mg_of X G a17) b17 (j3 z M)
 have kC:=fun z (M:Mod K mg z)=>cM (P:=l.prog) (w:=w) (base:=z) B F18 (PySem.W.mg_of X G a18) b18 (zR z M)
 have v5:=fun z (M:Mod K mg z)=>sk (P:=l.prog) (w:=w) (base:=z) B F19 (PySem.W.mg_of X G a19) b19 (zR z M)
 have wR:=fun z (M:Mod K mg z)=>bX (P:=l.prog) (w:=w) (base:=z) B F20 (PySem.W.mg_of X G a20) b20 (zK z M)
 have ox_read_row__NoText:=fun(base:Heap) (M:Mod K mg base)=>kM (P:=l.prog) (w:=w) (base:=base) B F20 (PySem.W.mg_of X G a20) b20 (zK base M) (ox_read_number__NoText base M)
 have qX:=fun z (M:Mod K mg z)=>aY (P:=l.prog) (w:=w) (base:=z) F21 (PySem.W.mg_of X G a21) b21 (vi z M)
 have qm:=fun z (M:Mod K mg z)=>rQ (P:=l.prog) (w:=w) (base:=z) B F22 (PySem.W.mg_of X G a22) b22 (xB z M)
 have yH:=fun z (M:Mod K mg z)=>cA (P:=l.prog) (w:=w) (base:=z) B F23 (PySem.W.mg_of X G a23) b23 (vm z M)
 have jn:=fun z (M:Mod K mg z)=>nz (P:=l.prog) (w:=w) (base:=z) B F24 (PySem.W.mg_of X G a24) b24 (xB z M)
 have jm:=fun z (M:Mod K mg z)=>nk (P:=l.prog) (w:=w) (base:=z) B F25 (PySem.W.mg_of X G a25) b25 (fc z M) (qO z M)
 have kZ:=fun z (M:Mod K mg z)=>nR (P:=l.prog) (w:=w) (base:=z) B F26 (PySem.W.mg_of X G a26) b26 (uL z M) (uw z M)
 have aU:=fun z (M:Mod K mg z)=>xa3 (P:=l.prog) (w:=w) (base:=z) B F27 (PySem.W.mg_of X G a27) b27 (kW z M)
 have hX:=fun z (M:Mod K mg z)=>bh (P:=l.prog) (w:=w) (base:=z) B F28 (PySem.W.mg_of X G a28) b28 (kC z M) (v5 z M) (zR z M)
 have uK:=fun z (M:Mod K mg z)=>gO (P:=l.prog) (w:=w) (base:=z) B F29 (PySem.W.mg_of X G a29) b29 (yH z M)
 have qJ:=fun z (M:Mod K mg z)=>aJ (P:=l.prog) (w:=w) (base:=z) B F30 (PySem.W.mg_of X G a30) b30 (yH z M)
 have zD:=fun z (M:Mod K mg z)=>aV (P:=l.prog) (w:=w) (base:=z) B F31 (PySem.W.mg_of X G a31) b31 (yH z M)
 have vf:=fun z (M:Mod K mg z)=>rL (P:=l.prog) (w:=w) (base:=z) B F32 (PySem.W.mg_of X G a32) b32 (yH z M)
 have j7:=fun z (M:Mod K mg z)=>cG (P:=l.prog) (w:=w) (base:=z) B F33 (PySem.W.mg_of X G a33) b33 (kZ z M)
 have vz:=fun z (M:Mod K mg z)=>fS (P:=l.prog) (w:=w) (base:=z) B F34 (PySem.W.mg_of X G a34) b34 (aU z M)
 have qt:=fun z (M:Mod K mg z)=>aQ (P:=l.prog) (w:=w) (base:=z) B F35 (PySem.W.mg_of X G a35) b35 (qJ z M)
 have qu:=fun z (M:Mod K mg z)=>rB (P:=l.prog) (w:=w) (base:=z) B F36 (PySem.W.mg_of X G a36) b36 (vf z M) (zD z M)
 have qV:=fun z (M:Mod K mg z)=>aR (P:=l.prog) (w:=w) (base:=z) B F37 (PySem.W.mg_of X G a37) b37 sf (j7 z M)
 have uJ:=fun z (M:Mod K mg z)=>gS (P:=l.prog) (w:=w) (base:=z) B F38 (PySem.W.mg_of X G a38) b38 (qu z M)
 have vv:=fun z (M:Mod K mg z)=>dI (P:=l.prog) (w:=w) (base:=z) B F39 (PySem.W.mg_of X G a39) b39 (jm z M) (qV z M)
 have jd:=fun z (M:Mod K mg z)=>tU (P:=l.prog) (w:=w) (base:=z) B F40 (PySem.W.mg_of X G a40) b40 (vS z M) (uJ z M)
 have uH:=fun z (M:Mod K mg z)=>tI (P:=l.prog) (w:=w) (base:=z) B F41 (PySem.W.mg_of X G a41) b41
 have uz:=fun z (M:Mod K mg z)=>bp (P:=l.prog) (w:=w) (base:=z) B F42 (PySem.W.mg_of X G a42) b42 (hX z M) (fR z M) (vv z M) (vz z M)
 have vh:=fun z (M:Mod K mg z)=>dX (P:=l.prog) (w:=w) (base:=z) B F43 (PySem.W.mg_of X G a43) b43 (jd z M) (uK z M) (qt z M)
 have qo:=fun z (M:Mod K mg z)=>tm (P:=l.prog) (w:=w) (base:=z) B F44 (PySem.W.mg_of X G a44) b44 (wR z M) (uz z M) (wV z M)
 have ox_read_field__NoText:=fun(base:Heap) (M:Mod K mg base)=>qj (P:=l.prog) (w:=w) (base:=base) B F44 (PySem.W.mg_of X G a44) b44 (t_ M m_NoText x_NoText) (uz base M) (wV base M) (wR base M) (ox_read_row__NoText base M)
 have uO:=fun z (M:Mod K mg z)=>gQ (P:=l.prog) (w:=w) (base:=z) B F45 (PySem.W.mg_of X G a45) b45 (vh z M)
 have gf:=fun z (M:Mod K mg z)=>n8 (P:=l.prog) (w:=w) (base:=z) B F46 (PySem.W.mg_of X G a46) b46 (uO z M) (uq z M)
 have yN:=fun z (M:Mod K mg z)=>fZ (kl:=9) (j:=7) (P:=l.prog) (w:=w) (base:=z) B F47 (PySem.W.mg_of X G a47) b47 (by decide) Z_NoText m_CutError e_NoText v_NoText m_NoField i_NoText_NoField m_NoWeights i_NoText_NoWeights m_NoCut i_NoText_NoCut m_Nothing i_NoText_Nothing m_NoTurn i_NoText_NoTurn m_NoCorner i_NoText_NoCorner m_NoNumber i_NoText_NoNumber m_NoText i_NoText_NoText m_NoLine i_NoText_NoLine m_NoDeed i_NoText_NoDeed
 exact xhc B FL (qX base M) (qm base M) (gf base M) (jn base M) (xB base M) yN (uH base M) (qo base M) ox_read_field__NoText rfl hct hTg (cC base M.kin) (bA base M)
end K91
namespace K91
open PySem L2 Tx NumText
open Builtin.Str (occurrences)
def ke (k:Str)(t:Nat)(v:Value):Str×Nat×Value:=(k,t,v)
def kd (P:Params)(n:Nat)(l:List (Str×Nat×Value)):Obj:=⟨.type "dict", none,.dict ⟨l.map fun e=>⟨PyData.keyHash P e.1,.str e.1 e.2.1,e.2.2⟩⟩ n,#[]⟩
def kf (x:Str)(st:Stmt)(cd:Nat)(m:Str)(t:Nat):Obj:=⟨.type "function", none,.func (PySem.W.fnOf x x (uj st) (yZ st) (xf st) .none .none .none (.str m t) none (.ref cd) .none),#[]⟩
def kp (x:Str)(st:Stmt):Obj:=⟨.none,none,.func { name:=x,qualname:=x,params:=uj st,body:=.stmts (yZ st),scope:=xf st,globals:=0,closure:=[],defaults:=.none,kwdefaults:=.none },#[]⟩
def kc (x:Str)(a l n m c d:Nat)(u v:Value)(e t f:Nat):Obj:=⟨.type "code", none,.fields ⟨[.str x a,.str x (a+1),.str "/claim/cut.py" (a+2),.int l 0,.int n 0,.int 0 0,.int 0 0,.int m 0,.ref c,.bool true,.int 181 0,.ref d,.none,u,v,.ref e,.int t 0,.int l 0,.str "/claim/cut.py" f]⟩,#[]⟩
def k0:Obj:=⟨.none,none,.fields ⟨[]⟩,#[]⟩
def k1 (l:List Value):Obj:=⟨.type "tuple", none,.seq ⟨l⟩ 0,#[]⟩
def tp (p:Program)(i:Nat):Stmt:=p.main.body.getD i (.Pass ⟨0,0,0,0⟩)
def tq:List (Int×Nat):=[(2,20),(4,33),(6,45),(8,57),(10,69),(12,81),(14,93),(16,105),(18,117),(20,129),(22,141),(25,153),(27,158),(29,165),(34,172),(39,179),(41,186),(43,193),(47,198),(49,205),(60,212),(64,217),(69,224),(75,231),(78,238),(82,245),(84,252),(93,259),(99,266),(105,271),(111,278),(116,283),(119,288),(121,293),(129,298),(131,303),(137,310),(141,317),(146,324),(155,329),(180,336),(184,343),(189,350),(195,357),(198,364),(201,371),(203,378),(205,385),(207,392),(210,397),(224,402),(226,407),(234,412),(242,417),(255,422),(261,427),(277,432),(280,439),(296,444)]
def tl (n:Nat):Obj:=⟨.none,none,.fields ⟨(tq.take n).flatMap fun x=>[.int x.1 0,.int 0 0,.ref x.2]⟩,#[]⟩
def kx (n:Str)(b a s m p q:Nat):Obj:=⟨.type "type", none,.cls { name:=n,bases:=[.ref b],mro:=[.ref a,.ref b,.type "ValueError", .type "Exception", .type "BaseException", .type "object"],ns:=s,qualname:=n,hasDict:=true,slotNames:=[],subclasses:=[],abstract:=false,hasDel:=false },⟨[some (.ref m),none,some (.str n p),some (.str n q),some (.builtin "ValueError.__new__"),some (.bool true)]⟩⟩
def ky (x:Str)(a b c:Nat)(l:Int)(d e:Nat)(i j:Int)(k:Nat):Obj:=⟨.type "code", none,.fields ⟨[.str x a,.str x b,.str "/claim/cut.py" c,.int l 0,.int 0 0,.int 0 0,.int 0 0,.int 0 0,.ref d,.bool false,.int 181 0,.ref e,.none,.none,.none,.none,.int i 0,.int j 0,.str "/claim/cut.py" k]⟩,#[]⟩
def kz (a b c:Nat)(x:Str)(d e:Nat):Obj:=⟨.type "frame", none,.plain,⟨[some (.ref a),some (.ref b),some (.ref c),none,some (.str x d),none,some (.ref e)]⟩⟩
def kv (x:String)(v:Value):Obj:=⟨.type "builtin_function_or_method", none,.fields ⟨[.builtin x,v]⟩,#[]⟩
def kq (a:Nat)(x:Str)(b c:Nat)(y:Str)(d e:Nat)(i:Int)(f g h:Nat):List (Str×Nat×Value):=ke "__module__" a (.str x b)::ke "__qualname__" c (.str y d)::ke "__firstlineno__" e (.int i f)::ke "__static_attributes__" g (.ref h)::[]
def kr (a:Nat)(x:Str)(b e:Nat)(i:Int)(f g h d:Nat):List (Str×Nat×Value):=ke "__module__" a (.str x b)::ke "__firstlineno__" e (.int i f)::ke "__static_attributes__" g (.ref h)::ke "__doc__" d .none::[]
def lw:Str := "law_roundcuts_k91_texts_that_write_no_field"
def lw0:Str := "roundcuts.errors"
def lw1:Str := "roundcuts.fields"
def lw2:Str := "roundcuts.fractions"
def lw3:Str := "roundcuts.pieces"
def lw4:Str := "roundcuts.rows"
def lw5:Str := "roundcuts.texts"
def mn:List (Str×Nat×Value):=ke "__name__" 165 (.str lw 580)::ke "__doc__" 166 .none::ke "__package__" 167 .none::ke "__loader__" 168 (.builtin "__main__.__loader__#opaque")::ke "__spec__" 169 .none::ke "__annotations__" 170 (.ref 6)::ke "__builtins__" 171 (.ref 4)::ke "__file__" 173 (.str "/claim/cut.py" 172)::ke "__cached__" 174 .none::ke "CutError" 206 (.ref 24)::ke "NoField" 222 (.ref 37)::ke "NoWeights" 238 (.ref 49)::ke "NoCut" 254 (.ref 61)::ke "Nothing" 270 (.ref 73)::ke "NoTurn" 286 (.ref 85)::ke "NoCorner" 302 (.ref 97)::ke "NoNumber" 318 (.ref 109)::ke "NoText" 334 (.ref 121)::ke "NoLine" 350 (.ref 133)::ke "NoDeed" 366 (.ref 145)::ke "is_whole" 375 (.ref 154)::ke "are_whole" 381 (.ref 159)::ke "greatest_divisor" 389 (.ref 166)::ke "lowest" 398 (.ref 173)::ke "FAR" 402 (.int 60001 401)::ke "corners_left" 409 (.ref 180)::ke "piece_left" 416 (.ref 187)::ke "cut_down" 425 (.ref 194)::ke "places_of" 431 (.ref 199)::ke "cut_piece" 444 (.ref 206)::ke "beyond" 458 (.ref 213)::ke "where_crossed" 464 (.ref 218)::ke "from_least" 474 (.ref 225)::ke "is_ahead" 482 (.ref 232)::ke "is_row" 491 (.ref 239)::ke "turn_to" 499 (.ref 246)::ke "go_round" 509 (.ref 253)::ke "furthest" 520 (.ref 260)::ke "points_back" 529 (.ref 267)::ke "is_field" 537 (.ref 272)::ke "is_field_row" 547 (.ref 279)::ke "is_near" 553 (.ref 284)::ke "rows_text" 561 (.ref 289)::ke "read_field" 567 (.ref 294)::ke "read_row" 573 (.ref 299)::ke "read_number" 579 (.ref 304)::ke "_law_cell_at" 589 (.ref 311)::ke "_law_state" 598 (.ref 318)::ke "_law_take" 608 (.ref 325)::ke "_law_field" 614 (.ref 330)::ke "_law_divisor" 622 (.ref 337)::ke "_law_low" 631 (.ref 344)::ke "_law_crossing" 641 (.ref 351)::ke "_law_value" 651 (.ref 358)::ke "_law_keeps" 660 (.ref 365)::ke "_law_less" 668 (.ref 372)::ke "_law_minus" 676 (.ref 379)::ke "_law_times" 684 (.ref 386)::ke "_law_cross" 694 (.ref 393)::ke "_law_ring" 700 (.ref 398)::ke "_law_all_left" 706 (.ref 403)::ke "_law_corners" 712 (.ref 408)::ke "_law_same" 718 (.ref 413)::ke "_law_refused" 724 (.ref 418)::ke "_law_number_in" 730 (.ref 423)::ke "_law_is_field" 736 (.ref 428)::ke "_law_due" 742 (.ref 433)::ke "_law_bent" 756 (.ref 440)::ke "law" 762 (.ref 445)::[]
def ob (p:Program)(P:Params):List Obj:=k1 [] ::
 tl 59 ::
 ky "<module>" 182 183 184 1 11 12 185 1 186 ::
 kz 13 3 3 "__main__" 164 0 ::
 k1 [(.type "ValueError")] ::
 kv "type.__prepare__" (.type "type") ::
 kd P 4 (kq 196 lw0 187 198 "CutError" 197 200 2 199 201 22) ::
 k1 [] ::
 k0 ::
 ky "CutError" 191 192 193 2 18 19 194 2 195 ::
 kz 20 3 17 lw0 187 0 ::
 k1 [] ::
 kd P 3 (ke "__module__" 196 (.str lw0 187)::ke "__firstlineno__" 200 (.int 2 199)::ke "__static_attributes__" 201 (.ref 22)::ke "__weakref__" 203 (.ref 25)::ke "__doc__" 204 .none::[]) ::
 ⟨(.type "type"),none,.cls { name := "CutError", bases:=[(.type "ValueError")],mro:=[(.ref 24),(.type "ValueError"),(.type "Exception"),(.type "BaseException"),(.type "object")],ns:=23,qualname := "CutError", hasDict:=true,slotNames:=[],subclasses:=[(.ref 37),(.ref 49),(.ref 61),(.ref 73),(.ref 85),(.ref 97),(.ref 109),(.ref 121),(.ref 133),(.ref 145)],abstract:=false,hasDel:=false },⟨[some (.ref 15),none,some (.str "CutError" 189),some (.str "CutError" 197),some (.builtin "ValueError.__new__"),some (.bool true)]⟩⟩ ::
 ⟨(.type "getset_descriptor"),none,.fields ⟨[(.str "__weakref__" 202),(.ref 24),(.builtin "ExceptionGroup.__weakref__"),.none]⟩,#[]⟩ ::
 ⟨(.type "super"),none,.fields ⟨[(.ref 24),(.ref 24),(.ref 24)]⟩,#[]⟩ ::
 kv "object.__init_subclass__" (.ref 24) ::
 k1 [(.ref 24)] ::
 kv "type.__prepare__" (.type "type") ::
 kd P 4 (kq 214 lw0 187 216 "NoField" 215 218 4 217 219 35) ::
 k1 [] ::
 k0 ::
 ky "NoField" 209 210 211 4 31 32 212 4 213 ::
 kz 33 3 30 lw0 187 0 ::
 k1 [] ::
 kd P 2 (kr 214 lw0 187 218 4 217 219 35 220) ::
 kx "NoField" 24 37 36 28 207 215 ::
 ⟨(.type "super"),none,.fields ⟨[(.ref 37),(.ref 37),(.ref 37)]⟩,#[]⟩ ::
 kv "object.__init_subclass__" (.ref 37) ::
 k1 [(.ref 24)] ::
 kv "type.__prepare__" (.type "type") ::
 kd P 4 (kq 230 lw0 187 232 "NoWeights" 231 234 6 233 235 47) ::
 k1 [] ::
 k0 ::
 ky "NoWeights" 225 226 227 6 43 44 228 6 229 ::
 kz 45 3 42 lw0 187 0 ::
 k1 [] ::
 kd P 2 (kr 230 lw0 187 234 6 233 235 47 236) ::
 kx "NoWeights" 24 49 48 40 223 231 ::
 ⟨(.type "super"),none,.fields ⟨[(.ref 49),(.ref 49),(.ref 49)]⟩,#[]⟩ ::
 kv "object.__init_subclass__" (.ref 49) ::
 k1 [(.ref 24)] ::
 kv "type.__prepare__" (.type "type") ::
 kd P 4 (kq 246 lw0 187 248 "NoCut" 247 250 8 249 251 59) ::
 k1 [] ::
 k0 ::
 ky "NoCut" 241 242 243 8 55 56 244 8 245 ::
 kz 57 3 54 lw0 187 0 ::
 k1 [] ::
 kd P 2 (kr 246 lw0 187 250 8 249 251 59 252) ::
 kx "NoCut" 24 61 60 52 239 247 ::
 ⟨(.type "super"),none,.fields ⟨[(.ref 61),(.ref 61),(.ref 61)]⟩,#[]⟩ ::
 kv "object.__init_subclass__" (.ref 61) ::
 k1 [(.ref 24)] ::
 kv "type.__prepare__" (.type "type") ::
 kd P 4 (kq 262 lw0 187 264 "Nothing" 263 266 10 265 267 71) ::
 k1 [] ::
 k0 ::
 ky "Nothing" 257 258 259 10 67 68 260 10 261 ::
 kz 69 3 66 lw0 187 0 ::
 k1 [] ::
 kd P 2 (kr 262 lw0 187 266 10 265 267 71 268) ::
 kx "Nothing" 24 73 72 64 255 263 ::
 ⟨(.type "super"),none,.fields ⟨[(.ref 73),(.ref 73),(.ref 73)]⟩,#[]⟩ ::
 kv "object.__init_subclass__" (.ref 73) ::
 k1 [(.ref 24)] ::
 kv "type.__prepare__" (.type "type") ::
 kd P 4 (kq 278 lw0 187 280 "NoTurn" 279 282 12 281 283 83) ::
 k1 [] ::
 k0 ::
 ky "NoTurn" 273 274 275 12 79 80 276 12 277 ::
 kz 81 3 78 lw0 187 0 ::
 k1 [] ::
 kd P 2 (kr 278 lw0 187 282 12 281 283 83 284) ::
 kx "NoTurn" 24 85 84 76 271 279 ::
 ⟨(.type "super"),none,.fields ⟨[(.ref 85),(.ref 85),(.ref 85)]⟩,#[]⟩ ::
 kv "object.__init_subclass__" (.ref 85) ::
 k1 [(.ref 24)] ::
 kv "type.__prepare__" (.type "type") ::
 kd P 4 (kq 294 lw0 187 296 "NoCorner" 295 298 14 297 299 95) ::
 k1 [] ::
 k0 ::
 ky "NoCorner" 289 290 291 14 91 92 292 14 293 ::
 kz 93 3 90 lw0 187 0 ::
 k1 [] ::
 kd P 2 (kr 294 lw0 187 298 14 297 299 95 300) ::
 kx "NoCorner" 24 97 96 88 287 295 ::
 ⟨(.type "super"),none,.fields ⟨[(.ref 97),(.ref 97),(.ref 97)]⟩,#[]⟩ ::
 kv "object.__init_subclass__" (.ref 97) ::
 k1 [(.ref 24)] ::
 kv "type.__prepare__" (.type "type") ::
 kd P 4 (kq 310 lw0 187 312 "NoNumber" 311 314 16 313 315 107) ::
 k1 [] ::
 k0 ::
 ky "NoNumber" 305 306 307 16 103 104 308 16 309 ::
 kz 105 3 102 lw0 187 0 ::
 k1 [] ::
 kd P 2 (kr 310 lw0 187 314 16 313 315 107 316) ::
 kx "NoNumber" 24 109 108 100 303 311 ::
 ⟨(.type "super"),none,.fields ⟨[(.ref 109),(.ref 109),(.ref 109)]⟩,#[]⟩ ::
 kv "object.__init_subclass__" (.ref 109) ::
 k1 [(.ref 24)] ::
 kv "type.__prepare__" (.type "type") ::
 kd P 4 (kq 326 lw0 187 328 "NoText" 327 330 18 329 331 119) ::
 k1 [] ::
 k0 ::
 ky "NoText" 321 322 323 18 115 116 324 18 325 ::
 kz 117 3 114 lw0 187 0 ::
 k1 [] ::
 kd P 2 (kr 326 lw0 187 330 18 329 331 119 332) ::
 kx "NoText" 24 121 120 112 319 327 ::
 ⟨(.type "super"),none,.fields ⟨[(.ref 121),(.ref 121),(.ref 121)]⟩,#[]⟩ ::
 kv "object.__init_subclass__" (.ref 121) ::
 k1 [(.ref 24)] ::
 kv "type.__prepare__" (.type "type") ::
 kd P 4 (kq 342 lw0 187 344 "NoLine" 343 346 20 345 347 131) ::
 k1 [] ::
 k0 ::
 ky "NoLine" 337 338 339 20 127 128 340 20 341 ::
 kz 129 3 126 lw0 187 0 ::
 k1 [] ::
 kd P 2 (kr 342 lw0 187 346 20 345 347 131 348) ::
 kx "NoLine" 24 133 132 124 335 343 ::
 ⟨(.type "super"),none,.fields ⟨[(.ref 133),(.ref 133),(.ref 133)]⟩,#[]⟩ ::
 kv "object.__init_subclass__" (.ref 133) ::
 k1 [(.ref 24)] ::
 kv "type.__prepare__" (.type "type") ::
 kd P 4 (kq 358 lw0 187 360 "NoDeed" 359 362 22 361 363 143) ::
 k1 [] ::
 k0 ::
 ky "NoDeed" 353 354 355 22 139 140 356 22 357 ::
 kz 141 3 138 lw0 187 0 ::
 k1 [] ::
 kd P 2 (kr 358 lw0 187 362 22 361 363 143 364) ::
 kx "NoDeed" 24 145 144 136 351 359 ::
 ⟨(.type "super"),none,.fields ⟨[(.ref 145),(.ref 145),(.ref 145)]⟩,#[]⟩ ::
 kv "object.__init_subclass__" (.ref 145) ::
 k1 [] ::
 k0 ::
 k1 [(.str "thing" 372)] ::
 k1 [] ::
 kp "is_whole" (tp p 13) ::
 kc "is_whole" 369 25 1 3 148 149 (.ref 150) (.ref 151) 152 373 374 ::
 kf "is_whole" (tp p 13) 153 lw2 367 ::
 k1 [] ::
 k0 ::
 kp "are_whole" (tp p 14) ::
 kc "are_whole" 376 27 1 3 155 156 .none .none 157 379 380 ::
 kf "are_whole" (tp p 14) 158 lw2 367 ::
 k1 [] ::
 k0 ::
 k1 [(.str "one" 385),(.str "other" 386)] ::
 k1 [] ::
 kp "greatest_divisor" (tp p 15) ::
 kc "greatest_divisor" 382 29 2 3 160 161 (.ref 162) (.ref 163) 164 387 388 ::
 kf "greatest_divisor" (tp p 15) 165 lw2 367 ::
 k1 [] ::
 k0 ::
 k1 [(.str "top" 393),(.str "bottom" 394),(.str "shared" 395)] ::
 k1 [] ::
 kp "lowest" (tp p 16) ::
 kc "lowest" 390 34 2 3 167 168 (.ref 169) (.ref 170) 171 396 397 ::
 kf "lowest" (tp p 16) 172 lw2 367 ::
 k1 [] ::
 k0 ::
 k1 [(.str "rows" 406)] ::
 k1 [] ::
 kp "corners_left" (tp p 19) ::
 kc "corners_left" 403 39 1 3 174 175 (.ref 176) (.ref 177) 178 407 408 ::
 kf "corners_left" (tp p 19) 179 lw3 399 ::
 k1 [] ::
 k0 ::
 k1 [(.str "rows" 413)] ::
 k1 [] ::
 kp "piece_left" (tp p 20) ::
 kc "piece_left" 410 41 1 3 181 182 (.ref 183) (.ref 184) 185 414 415 ::
 kf "piece_left" (tp p 20) 186 lw3 399 ::
 k1 [] ::
 k0 ::
 k1 [(.str "piece" 420),(.str "rows" 421),(.str "row" 422)] ::
 k1 [] ::
 kp "cut_down" (tp p 21) ::
 kc "cut_down" 417 43 2 3 188 189 (.ref 190) (.ref 191) 192 423 424 ::
 kf "cut_down" (tp p 21) 193 lw3 399 ::
 k1 [] ::
 k0 ::
 kp "places_of" (tp p 22) ::
 kc "places_of" 426 47 1 3 195 196 .none .none 197 429 430 ::
 kf "places_of" (tp p 22) 198 lw3 399 ::
 k1 [] ::
 k0 ::
 k1 [(.str "piece" 435),(.str "row" 436),(.str "left" 437),(.str "at" 438),(.str "corner" 439),(.str "before" 440),(.str "crossing" 441)] ::
 k1 [] ::
 kp "cut_piece" (tp p 23) ::
 kc "cut_piece" 432 49 2 3 200 201 (.ref 202) (.ref 203) 204 442 443 ::
 kf "cut_piece" (tp p 23) 205 lw3 399 ::
 k1 [] ::
 k0 ::
 k1 [(.str "row" 448),(.str "corner" 449),(.str "a" 450),(.str "b" 451),(.str "c" 452),(.str "x" 453),(.str "y" 454),(.str "bottom" 455)] ::
 k1 [] ::
 kp "beyond" (tp p 24) ::
 kc "beyond" 445 60 2 3 207 208 (.ref 209) (.ref 210) 211 456 457 ::
 kf "beyond" (tp p 24) 212 lw3 399 ::
 k1 [] ::
 k0 ::
 kp "where_crossed" (tp p 25) ::
 kc "where_crossed" 459 64 3 3 214 215 .none .none 216 462 463 ::
 kf "where_crossed" (tp p 25) 217 lw3 399 ::
 k1 [] ::
 k0 ::
 k1 [(.str "piece" 468),(.str "start" 469),(.str "at" 470),(.str "corner" 471)] ::
 k1 [] ::
 kp "from_least" (tp p 26) ::
 kc "from_least" 465 69 1 3 219 220 (.ref 221) (.ref 222) 223 472 473 ::
 kf "from_least" (tp p 26) 224 lw3 399 ::
 k1 [] ::
 k0 ::
 k1 [(.str "one" 478),(.str "other" 479)] ::
 k1 [] ::
 kp "is_ahead" (tp p 27) ::
 kc "is_ahead" 475 75 2 3 226 227 (.ref 228) (.ref 229) 230 480 481 ::
 kf "is_ahead" (tp p 27) 231 lw3 399 ::
 k1 [] ::
 k0 ::
 k1 [(.str "thing" 488)] ::
 k1 [] ::
 kp "is_row" (tp p 29) ::
 kc "is_row" 485 78 1 3 233 234 (.ref 235) (.ref 236) 237 489 490 ::
 kf "is_row" (tp p 29) 238 lw4 483 ::
 k1 [] ::
 k0 ::
 k1 [(.str "one" 495),(.str "other" 496)] ::
 k1 [] ::
 kp "turn_to" (tp p 30) ::
 kc "turn_to" 492 82 2 3 240 241 (.ref 242) (.ref 243) 244 497 498 ::
 kf "turn_to" (tp p 30) 245 lw4 483 ::
 k1 [] ::
 k0 ::
 k1 [(.str "rows" 503),(.str "first" 504),(.str "left" 505),(.str "right" 506)] ::
 k1 [] ::
 kp "go_round" (tp p 31) ::
 kc "go_round" 500 84 1 3 247 248 (.ref 249) (.ref 250) 251 507 508 ::
 kf "go_round" (tp p 31) 252 lw4 483 ::
 k1 [] ::
 k0 ::
 k1 [(.str "first" 513),(.str "rows" 514),(.str "sign" 515),(.str "last" 516),(.str "row" 517)] ::
 k1 [] ::
 kp "furthest" (tp p 32) ::
 kc "furthest" 510 93 3 3 254 255 (.ref 256) (.ref 257) 258 518 519 ::
 kf "furthest" (tp p 32) 259 lw4 483 ::
 k1 [] ::
 k0 ::
 k1 [(.str "first" 524),(.str "rows" 525),(.str "row" 526)] ::
 k1 [] ::
 kp "points_back" (tp p 33) ::
 kc "points_back" 521 99 2 3 261 262 (.ref 263) (.ref 264) 265 527 528 ::
 kf "points_back" (tp p 33) 266 lw4 483 ::
 k1 [] ::
 k0 ::
 kp "is_field" (tp p 35) ::
 kc "is_field" 532 105 1 3 268 269 .none .none 270 535 536 ::
 kf "is_field" (tp p 35) 271 lw1 530 ::
 k1 [] ::
 k0 ::
 k1 [(.str "thing" 541),(.str "a" 542),(.str "b" 543),(.str "c" 544)] ::
 k1 [] ::
 kp "is_field_row" (tp p 36) ::
 kc "is_field_row" 538 111 1 3 273 274 (.ref 275) (.ref 276) 277 545 546 ::
 kf "is_field_row" (tp p 36) 278 lw1 530 ::
 k1 [] ::
 k0 ::
 kp "is_near" (tp p 37) ::
 kc "is_near" 548 116 1 3 280 281 .none .none 282 551 552 ::
 kf "is_near" (tp p 37) 283 lw1 530 ::
 k1 [] ::
 k0 ::
 kp "rows_text" (tp p 39) ::
 kc "rows_text" 556 119 1 3 285 286 .none .none 287 559 560 ::
 kf "rows_text" (tp p 39) 288 lw5 554 ::
 k1 [] ::
 k0 ::
 kp "read_field" (tp p 40) ::
 kc "read_field" 562 121 1 3 290 291 .none .none 292 565 566 ::
 kf "read_field" (tp p 40) 293 lw5 554 ::
 k1 [] ::
 k0 ::
 kp "read_row" (tp p 41) ::
 kc "read_row" 568 129 1 3 295 296 .none .none 297 571 572 ::
 kf "read_row" (tp p 41) 298 lw5 554 ::
 k1 [] ::
 k0 ::
 kp "read_number" (tp p 42) ::
 kc "read_number" 574 131 1 3 300 301 .none .none 302 577 578 ::
 kf "read_number" (tp p 42) 303 lw5 554 ::
 k1 [] ::
 k0 ::
 k1 [(.str "_law_script" 585),(.str "_law_k" 586)] ::
 k1 [] ::
 kp "_law_cell_at" (tp p 44) ::
 kc "_law_cell_at" 582 137 2 3 305 306 (.ref 307) (.ref 308) 309 587 588 ::
 kf "_law_cell_at" (tp p 44) 310 lw 580 ::
 k1 [] ::
 k0 ::
 k1 [(.str "_law_script" 593),(.str "_law_k" 594),(.str "_law_cell" 595)] ::
 k1 [] ::
 kp "_law_state" (tp p 45) ::
 kc "_law_state" 590 141 2 3 312 313 (.ref 314) (.ref 315) 316 596 597 ::
 kf "_law_state" (tp p 45) 317 lw 580 ::
 k1 [] ::
 k0 ::
 k1 [(.str "_law_state_here" 602),(.str "_law_many" 603),(.str "_law_found" 604),(.str "_law_stirred" 605)] ::
 k1 [] ::
 kp "_law_take" (tp p 46) ::
 kc "_law_take" 599 146 2 3 319 320 (.ref 321) (.ref 322) 323 606 607 ::
 kf "_law_take" (tp p 46) 324 lw 580 ::
 k1 [] ::
 k0 ::
 kp "_law_field" (tp p 47) ::
 kc "_law_field" 609 155 1 3 326 327 .none .none 328 612 613 ::
 kf "_law_field" (tp p 47) 329 lw 580 ::
 k1 [] ::
 k0 ::
 k1 [(.str "_law_one" 618),(.str "_law_other" 619)] ::
 k1 [] ::
 kp "_law_divisor" (tp p 48) ::
 kc "_law_divisor" 615 180 2 3 331 332 (.ref 333) (.ref 334) 335 620 621 ::
 kf "_law_divisor" (tp p 48) 336 lw 580 ::
 k1 [] ::
 k0 ::
 k1 [(.str "_law_top" 626),(.str "_law_bottom" 627),(.str "_law_by" 628)] ::
 k1 [] ::
 kp "_law_low" (tp p 49) ::
 kc "_law_low" 623 184 2 3 338 339 (.ref 340) (.ref 341) 342 629 630 ::
 kf "_law_low" (tp p 49) 343 lw 580 ::
 k1 [] ::
 k0 ::
 k1 [(.str "_law_one" 635),(.str "_law_other" 636),(.str "_law_by" 637),(.str "_law_x" 638)] ::
 k1 [] ::
 kp "_law_crossing" (tp p 50) ::
 kc "_law_crossing" 632 189 2 3 345 346 (.ref 347) (.ref 348) 349 639 640 ::
 kf "_law_crossing" (tp p 50) 350 lw 580 ::
 k1 [] ::
 k0 ::
 k1 [(.str "_law_row" 645),(.str "_law_place" 646),(.str "_law_x" 647),(.str "_law_y" 648)] ::
 k1 [] ::
 kp "_law_value" (tp p 51) ::
 kc "_law_value" 642 195 2 3 352 353 (.ref 354) (.ref 355) 356 649 650 ::
 kf "_law_value" (tp p 51) 357 lw 580 ::
 k1 [] ::
 k0 ::
 k1 [(.str "_law_row" 655),(.str "_law_place" 656),(.str "_law_here" 657)] ::
 k1 [] ::
 kp "_law_keeps" (tp p 52) ::
 kc "_law_keeps" 652 198 2 3 359 360 (.ref 361) (.ref 362) 363 658 659 ::
 kf "_law_keeps" (tp p 52) 364 lw 580 ::
 k1 [] ::
 k0 ::
 k1 [(.str "_law_one" 664),(.str "_law_other" 665)] ::
 k1 [] ::
 kp "_law_less" (tp p 53) ::
 kc "_law_less" 661 201 2 3 366 367 (.ref 368) (.ref 369) 370 666 667 ::
 kf "_law_less" (tp p 53) 371 lw 580 ::
 k1 [] ::
 k0 ::
 k1 [(.str "_law_one" 672),(.str "_law_other" 673)] ::
 k1 [] ::
 kp "_law_minus" (tp p 54) ::
 kc "_law_minus" 669 203 2 3 373 374 (.ref 375) (.ref 376) 377 674 675 ::
 kf "_law_minus" (tp p 54) 378 lw 580 ::
 k1 [] ::
 k0 ::
 k1 [(.str "_law_one" 680),(.str "_law_other" 681)] ::
 k1 [] ::
 kp "_law_times" (tp p 55) ::
 kc "_law_times" 677 205 2 3 380 381 (.ref 382) (.ref 383) 384 682 683 ::
 kf "_law_times" (tp p 55) 385 lw 580 ::
 k1 [] ::
 k0 ::
 k1 [(.str "_law_one" 688),(.str "_law_other" 689),(.str "_law_third" 690),(.str "_law_first" 691)] ::
 k1 [] ::
 kp "_law_cross" (tp p 56) ::
 kc "_law_cross" 685 207 3 3 387 388 (.ref 389) (.ref 390) 391 692 693 ::
 kf "_law_cross" (tp p 56) 392 lw 580 ::
 k1 [] ::
 k0 ::
 kp "_law_ring" (tp p 57) ::
 kc "_law_ring" 695 210 1 3 394 395 .none .none 396 698 699 ::
 kf "_law_ring" (tp p 57) 397 lw 580 ::
 k1 [] ::
 k0 ::
 kp "_law_all_left" (tp p 58) ::
 kc "_law_all_left" 701 224 3 3 399 400 .none .none 401 704 705 ::
 kf "_law_all_left" (tp p 58) 402 lw 580 ::
 k1 [] ::
 k0 ::
 kp "_law_corners" (tp p 59) ::
 kc "_law_corners" 707 226 1 3 404 405 .none .none 406 710 711 ::
 kf "_law_corners" (tp p 59) 407 lw 580 ::
 k1 [] ::
 k0 ::
 kp "_law_same" (tp p 60) ::
 kc "_law_same" 713 234 2 3 409 410 .none .none 411 716 717 ::
 kf "_law_same" (tp p 60) 412 lw 580 ::
 k1 [] ::
 k0 ::
 kp "_law_refused" (tp p 61) ::
 kc "_law_refused" 719 242 1 3 414 415 .none .none 416 722 723 ::
 kf "_law_refused" (tp p 61) 417 lw 580 ::
 k1 [] ::
 k0 ::
 kp "_law_number_in" (tp p 62) ::
 kc "_law_number_in" 725 255 1 3 419 420 .none .none 421 728 729 ::
 kf "_law_number_in" (tp p 62) 422 lw 580 ::
 k1 [] ::
 k0 ::
 kp "_law_is_field" (tp p 63) ::
 kc "_law_is_field" 731 261 1 3 424 425 .none .none 426 734 735 ::
 kf "_law_is_field" (tp p 63) 427 lw 580 ::
 k1 [] ::
 k0 ::
 kp "_law_due" (tp p 64) ::
 kc "_law_due" 737 277 1 3 429 430 .none .none 431 740 741 ::
 kf "_law_due" (tp p 64) 432 lw 580 ::
 k1 [] ::
 k0 ::
 k1 [(.str "_law_state_here" 746),(.str "_law_text" 747),(.str "_law_way" 748),(.str "_law_at" 749),(.str "_law_sign" 750),(.str "_law_cut" 751),(.str "_law_words" 752),(.str "_law_k" 753)] ::
 k1 [] ::
 kp "_law_bent" (tp p 65) ::
 kc "_law_bent" 743 280 2 3 434 435 (.ref 436) (.ref 437) 438 754 755 ::
 kf "_law_bent" (tp p 65) 439 lw 580 ::
 k1 [] ::
 k0 ::
 kp "law" (tp p 66) ::
 kc "law" 757 296 1 3 441 442 .none .none 443 760 761 ::
 kf "law" (tp p 66) 444 lw 580::[]
def hp (p:Program)(P:Params)(n:Nat)(m:List (Str×Nat×Value))(e:Nat)(c:List (Nat×Obj)):List Obj:=c.foldl (fun l x=>l.set x.1 x.2) ((PySem.W.boot_heap P).objs.toList.set 3 (kd P e m)++(ob p P).take n)
def sh (p:Program)(w:World)(os:OsState)(n:Nat)(m:List (Str×Nat×Value))(e:Nat)(c:List (Nat×Obj))(k:Nat):Shared:=⟨⟨⟨hp p w.params n m e c⟩,{}⟩,⟨[]⟩,{},k,os⟩
def hf (p:Program)(P:Params):Heap:=⟨⟨hp p P 435 mn 69 []⟩,{}⟩
abbrev as:List Addr:=[3,4,23,24,36,37,48,49,60,61,72,73,84,85,96,97,108,109,120,121,132,133,144,145,153,154,158,159,165,166,172,173,179,180,186,187,193,194,198,199,205,206,212,213,217,218,224,225,231,232,238,239,245,246,252,253,259,260,266,267,271,272,278,279,283,284,288,289,293,294,298,299,303,304,310,311,317,318,324,325,329,330,336,337,343,344,350,351,357,358,364,365,371,372,378,379,385,386,392,393,397,398,402,403,407,408,412,413,417,418,422,423,427,428,432,433,439,440,444,445]
def Kp (p:Program)(P:Params):PySem.W.Frag:=as.map fun a=>(a,(hp p P 435 mn 69 []).getD a k0)
abbrev pg:Program:=PySem.Challenge.pw_roundcuts_k91_texts_that_write_no_field
abbrev K (P:Params):PySem.W.Frag:=Kp pg P
abbrev ah:List Addr:=442::as
def Kh (p:Program)(P:Params):PySem.W.Frag:=ah.map fun a=>(a,(hp p P 435 mn 69 []).getD a k0)
theorem xig (p:Program)(P:Params):ah=(Kh p P).map (·.1):=by unfold Kh;rw[xkZ];exact(List.map_id _).symm
abbrev Hk (p:Program):PySem.W.Hook:=PySem.W.kHook (Kh p) ah (xig p)
abbrev keep:List Nat:=[1,2,3,4,5,6,7,8,9,10,11,13,14,15,16,18,19,20,21,22,23,24,25,26,27,29,30,31,32,33,35,36,37,39,40,41,42,44,45,46,47,48,49,50,51,52,53,54,55,56,57,58,59,60,61,62,63,64,65,66]
abbrev vw:Program:=PySem.W.view pg keep
theorem dk {P:Params}{x:Str}{st:Stmt}{f cd t:Nat}{m:Str}(a:PySem.W.nsIn (K P) mainGlobals x=some (some (.ref f)))(l:(K P).lookup f=some (kf x st cd m t))(c:PySem.W.codeIn (K P) (.ref cd) x=true):DD (K P) x st :=
 dd a l c (by unfold PySem.W.keepIn;dsimp only;rw[l];rfl)
theorem dl {P:Params}{x:Str}{st:Stmt}(f cd:Nat)(m:Str)(t:Nat)(a:PySem.W.nsIn (K P) mainGlobals x=some (some (.ref f)):=by kernel_rfl)(l:(K P).lookup f=some (kf x st cd m t):=by kernel_rfl)(c:PySem.W.codeIn (K P) (.ref cd) x=true:=by kernel_rfl):DD (K P) x st:=dk a l c
end K91
set_option maxHeartbeats 0 in
lay_quick PySem.Challenge.pw_roundcuts_k91_texts_that_write_no_field
namespace K91
open PySem L2 PySem.W
abbrev tb:=PySem.W.Fast.tw14364793385576792824
abbrev p':=PySem.W.Fast.tw14622542732624681439
abbrev v':=view p' keep
abbrev im:=PySem.W.Fast.tw5923862056798008813 p'.main.body
abbrev ann:Option Value:=some (.ref 6)
abbrev q:Pos:=⟨0,0,0,0⟩
abbrev bd:=behindTheImports p'
abbrev env:Env:={ scope:=p'.main.scope,locals:=mainNs,globals:=mainNs,cells:=[],code:=(.ref 13),frame:=some 14 }
abbrev cb:Code:=.body bd env
theorem r0 (w:World)(os:OsState):topGo tb p' w 11 ann 12 ⟨boot_heap w.params,⟨[]⟩,boot_drawn,boot_toks,os⟩ (topStub p')=some ((sh p' w os 4 ((mn.take 9).set 0 (ke "__name__" 165 (.str "__main__" 164))) 9 [(12,k0)] 187),⟨denote tb cb,cb,⟨0,0,0,0⟩,[topFrame q]⟩):=by kernel_rfl
theorem r1 (w:World)(os:OsState):segRun tb p' w 11 ann 1 1 (sh p' w os 4 ((mn.take 9).set 0 (ke "__name__" 165 (.str "__main__" 164))) 9 [(12,k0)] 187) (blockOf bd env cb ⟨0,0,0,0⟩ [topFrame q])=some (.next,(sh p' w os 4 ((mn.take 9).set 0 (ke "__name__" 165 (.str "__main__" 164))) 9 [(12,k0)] 187),cb,⟨0,0,0,0⟩):=by kernel_rfl
theorem c0 (w:World)(os:OsState):segRun tb p' w 11 ann 1 626 (sh p' w os 4 ((mn.take 9).set 0 (ke "__name__" 165 (.str "__main__" 164))) 9 [(12,k0)] 187) (piecesOf ((bd.drop 0).take 4) env cb ⟨0,0,0,0⟩ [topFrame q])=some (.next,(sh p' w os 41 ((mn.take 12).set 0 (ke "__name__" 165 (.str lw0 187))) 12 [(12,tl 3),(24,⟨(.type "type"),none,.cls { name := "CutError", bases:=[(.type "ValueError")],mro:=[(.ref 24),(.type "ValueError"),(.type "Exception"),(.type "BaseException"),(.type "object")],ns:=23,qualname := "CutError", hasDict:=true,slotNames:=[],subclasses:=[(.ref 37),(.ref 49)],abstract:=false,hasDel:=false },⟨[some (.ref 15),none,some (.str "CutError" 189),some (.str "CutError" 197),some (.builtin "ValueError.__new__"),some (.bool true)]⟩⟩)] 239),cb,⟨6,0,7,8⟩):=by kernel_rfl
theorem c1 (w:World)(os:OsState):segRun tb p' w 11 ann 1 643 (sh p' w os 41 ((mn.take 12).set 0 (ke "__name__" 165 (.str lw0 187))) 12 [(12,tl 3),(24,⟨(.type "type"),none,.cls { name := "CutError", bases:=[(.type "ValueError")],mro:=[(.ref 24),(.type "ValueError"),(.type "Exception"),(.type "BaseException"),(.type "object")],ns:=23,qualname := "CutError", hasDict:=true,slotNames:=[],subclasses:=[(.ref 37),(.ref 49)],abstract:=false,hasDel:=false },⟨[some (.ref 15),none,some (.str "CutError" 189),some (.str "CutError" 197),some (.builtin "ValueError.__new__"),some (.bool true)]⟩⟩)] 239) (piecesOf ((bd.drop 4).take 3) env cb ⟨6,0,7,8⟩ [topFrame q])=some (.next,(sh p' w os 77 ((mn.take 15).set 0 (ke "__name__" 165 (.str lw0 187))) 15 [(12,tl 6),(24,⟨(.type "type"),none,.cls { name := "CutError", bases:=[(.type "ValueError")],mro:=[(.ref 24),(.type "ValueError"),(.type "Exception"),(.type "BaseException"),(.type "object")],ns:=23,qualname := "CutError", hasDict:=true,slotNames:=[],subclasses:=[(.ref 37),(.ref 49),(.ref 61),(.ref 73),(.ref 85)],abstract:=false,hasDel:=false },⟨[some (.ref 15),none,some (.str "CutError" 189),some (.str "CutError" 197),some (.builtin "ValueError.__new__"),some (.bool true)]⟩⟩)] 287),cb,⟨12,0,13,8⟩):=by kernel_rfl
theorem c2 (w:World)(os:OsState):segRun tb p' w 11 ann 1 643 (sh p' w os 77 ((mn.take 15).set 0 (ke "__name__" 165 (.str lw0 187))) 15 [(12,tl 6),(24,⟨(.type "type"),none,.cls { name := "CutError", bases:=[(.type "ValueError")],mro:=[(.ref 24),(.type "ValueError"),(.type "Exception"),(.type "BaseException"),(.type "object")],ns:=23,qualname := "CutError", hasDict:=true,slotNames:=[],subclasses:=[(.ref 37),(.ref 49),(.ref 61),(.ref 73),(.ref 85)],abstract:=false,hasDel:=false },⟨[some (.ref 15),none,some (.str "CutError" 189),some (.str "CutError" 197),some (.builtin "ValueError.__new__"),some (.bool true)]⟩⟩)] 287) (piecesOf ((bd.drop 7).take 3) env cb ⟨12,0,13,8⟩ [topFrame q])=some (.next,(sh p' w os 113 ((mn.take 18).set 0 (ke "__name__" 165 (.str lw0 187))) 18 [(12,tl 9),(24,⟨(.type "type"),none,.cls { name := "CutError", bases:=[(.type "ValueError")],mro:=[(.ref 24),(.type "ValueError"),(.type "Exception"),(.type "BaseException"),(.type "object")],ns:=23,qualname := "CutError", hasDict:=true,slotNames:=[],subclasses:=[(.ref 37),(.ref 49),(.ref 61),(.ref 73),(.ref 85),(.ref 97),(.ref 109),(.ref 121)],abstract:=false,hasDel:=false },⟨[some (.ref 15),none,some (.str "CutError" 189),some (.str "CutError" 197),some (.builtin "ValueError.__new__"),some (.bool true)]⟩⟩)] 335),cb,⟨18,0,19,8⟩):=by kernel_rfl
theorem c3 (w:World)(os:OsState):segRun tb p' w 11 ann 1 698 (sh p' w os 113 ((mn.take 18).set 0 (ke "__name__" 165 (.str lw0 187))) 18 [(12,tl 9),(24,⟨(.type "type"),none,.cls { name := "CutError", bases:=[(.type "ValueError")],mro:=[(.ref 24),(.type "ValueError"),(.type "Exception"),(.type "BaseException"),(.type "object")],ns:=23,qualname := "CutError", hasDict:=true,slotNames:=[],subclasses:=[(.ref 37),(.ref 49),(.ref 61),(.ref 73),(.ref 85),(.ref 97),(.ref 109),(.ref 121)],abstract:=false,hasDel:=false },⟨[some (.ref 15),none,some (.str "CutError" 189),some (.str "CutError" 197),some (.builtin "ValueError.__new__"),some (.bool true)]⟩⟩)] 335) (piecesOf ((bd.drop 10).take 13) env cb ⟨18,0,19,8⟩ [topFrame q])=some (.next,(sh p' w os 189 ((mn.take 29).set 0 (ke "__name__" 165 (.str lw3 399))) 29 [(12,tl 19)] 432),cb,⟨47,0,48,89⟩):=by kernel_rfl
theorem c4 (w:World)(os:OsState):segRun tb p' w 11 ann 1 714 (sh p' w os 189 ((mn.take 29).set 0 (ke "__name__" 165 (.str lw3 399))) 29 [(12,tl 19)] 432) (piecesOf ((bd.drop 23).take 26) env cb ⟨47,0,48,89⟩ [topFrame q])=some (.next,(sh p' w os 327 (mn.take 51) 51 [(12,tl 41)] 623),cb,⟨180,0,183,24⟩):=by kernel_rfl
theorem c5 (w:World)(os:OsState):segRun tb p' w 11 ann 1 537 (sh p' w os 327 (mn.take 51) 51 [(12,tl 41)] 623) (piecesOf ((bd.drop 49).take 18) env cb ⟨180,0,183,24⟩ [topFrame q])=some (.next,(sh p' w os 435 mn 69 [] 763),cb,⟨296,0,312,15⟩):=by kernel_rfl
theorem xif:bd=(((bd.drop 0).take 4)++(((bd.drop 4).take 3)++(((bd.drop 7).take 3)++(((bd.drop 10).take 13)++(((bd.drop 23).take 26)++(((bd.drop 49).take 18)++[])))))):=by kernel_rfl
theorem cl (w:World)(os:OsState):topRun tb p' w 11 ann 2 (sh p' w os 435 mn 69 [] 763) ⟨doneF .next,cb,⟨296,0,312,15⟩,[topFrame q]⟩=some (sh p' w os 435 mn 69 [] 763):=by kernel_rfl
theorem run (w:World)(os:OsState):topRun tb p' w 11 ann (12+(1+(626+(643+(643+(698+(714+(537+2)))))))) ⟨boot_heap w.params,⟨[]⟩,boot_drawn,boot_toks,os⟩ (topStub p')=some ⟨hf p' w.params,⟨[]⟩,{},763,os⟩ :=
 go_top (r0 w os) (piece_block (r1 w os) (xif▸(piece_app (c0 w os) (piece_app (c1 w os) (piece_app (c2 w os) (piece_app (c3 w os) (piece_app (c4 w os) (piece_app (c5 w os) (piece_nil (cl w os))))))))))
theorem z0 (w:World):((boot_heap w.params).isNs mainGlobals&&(⟨[]⟩:Array GenState).size == 0,(boot_heap w.params).objs.size,(boot_heap w.params).nsMap mainGlobals "__annotations__")=(true,11,ann):=by kernel_rfl
theorem z1 (w:World)(os:OsState):(staticsOk im (boot_heap w.params) (hf p' w.params)&&namesBound p' (hf p' w.params)&&gensDone ⟨hf p' w.params,⟨[]⟩,{},763,os⟩&&laidKept (boot_heap w.params) (hf p' w.params))=true:=by kernel_rfl
abbrev zx (w:World)(os:OsState):=PySem.W.Fast.tw4187177175401517315 v' [] im (fun s=>xlAt v' [] s&&recOk [] s) true ⟨hf p' w.params,⟨[]⟩,{},763,os⟩
theorem z20 (w os):(zx w os).1=PyProof.Rows.expectedOf v':=by kernel_rfl
theorem z21 (w os):(zx w os).2.1=bltViewBooted:=by kernel_rfl
theorem z22 (w os):(zx w os).2.2.1=true:=by kernel_rfl
theorem z23 (w os):(zx w os).2.2.2.1=true:=by kernel_rfl
theorem z24 (w os):(zx w os).2.2.2.2.1=pinGoodD (PyProof.Rows.drecsOf v'):=by kernel_rfl
theorem z25 (w os):(zx w os).2.2.2.2.2.1=PyProof.Rows.plainGoodE v' (looseW v' []):=by kernel_rfl
theorem z26 (w os):(zx w os).2.2.2.2.2.2.1=PyProof.Rows.plainGoodD v' []:=by kernel_rfl
theorem z27 (w os):(zx w os).2.2.2.2.2.2.2.1=wideGood v':=by kernel_rfl
theorem z28 (w os):(zx w os).2.2.2.2.2.2.2.2=clsGoodW v' []:=by kernel_rfl
theorem z2 (w os):zx w os=openGood v' []:=Prod.ext (z20 w os) (Prod.ext (z21 w os) (Prod.ext (z22 w os) (Prod.ext (z23 w os) (Prod.ext (z24 w os) (Prod.ext (z25 w os) (Prod.ext (z26 w os) (Prod.ext (z27 w os) (z28 w os))))))))
theorem z3 (w:World)(os:OsState):Hook.obs (Hk p') ⟨hf p' w.params,⟨[]⟩,{},763,os⟩=Hook.val (Hk p') w:=by kernel_rfl
theorem xh_:LeftO p' v' [] (fun s=>xlAt v' [] s&&recOk [] s) (Hook.obs (Hk p')) (Hook.val (Hk p')) 7702:=by
 have h1:=run;have h2:=z1;have h3:=z2;unfold zx at h3
 rw[show tb=treeTable from PySem.W.Fast.te14364793385576792824.symm] at h1
 rw[show im=importedModules p'.main.body from congrFun PySem.W.Fast.te5923862056798008813.symm _] at h2 h3
 rw[show PySem.W.Fast.tw4187177175401517315=openSeen from PySem.W.Fast.te4187177175401517315.symm] at h3
 exact LeftO.of_pieces (boot_open rfl rfl fun _=>rfl) z0 h1 (by decide) fun w=>funext fun os=>by
  rw[h2 w os,h3 w os,z3 w os]
theorem xe0 (p:Program)(h:p=p'):LeftO p (view p keep) [] (fun s=>xlAt (view p keep) [] s&&recOk [] s) (Hook.obs (Hk p)) (Hook.val (Hk p)) 7702:=by
 subst h;exact xh_
theorem left:LeftO pg vw [] (fun s=>xlAt vw [] s&&recOk [] s) (Hook.obs (Hk pg)) (Hook.val (Hk pg)) 7702:=xe0 pg PySem.W.Fast.te14622542732624681439
end K91
namespace K91
open PySem L2 Tx NumText
open Builtin.Str (occurrences)
theorem code_at {P:Params}{h:Heap}(X:(K P).In h):PySem.W.CodeHd h 444 442 :=
 ⟨_,_,_,_,_,_,_,_,_,X 444 (kc "law" 757 296 1 3 441 442 .none .none 443 760 761) (by kernel_rfl),rfl,rfl,rfl,rfl,rfl,rfl,rfl,rfl,by decide⟩
theorem xha {P:Params}{h:Heap}{mg:Str→Option Value}(M:Mod (K P) mg h):h.BuiltinsAt mg 442 :=
 ⟨4,⟨.type "module", some 0,.plain,#[]⟩,PySem.W.mg_of M.kin M.glob (by kernel_rfl),by decide,by decide,by decide,M.kin _ _ (by kernel_rfl),rfl,rfl,rfl⟩
theorem bE (P:Params):lA (K P) 121:=⟨by kernel_rfl,by kernel_rfl,by kernel_rfl,by kernel_rfl,by kernel_rfl,by kernel_rfl,by kernel_rfl,by kernel_rfl⟩
theorem there {l:PySem.W.OpenLaw}{w:World}{P:Params}{h:Heap}{mg:Str→Option Value}{fa:Addr}(X:(K P).In h)(G:h.Ns mainGlobals mg)(hfa:mg "law" = some (.ref fa)) :
  ∃fd:FuncData,(∀(s:Shared) (v:Value),BindsTo s fd ⟨[v],[]⟩ [("_law_script", v)])∧∀base:Heap,Mod (K P) mg base→sY l.prog w (K P) mg base CX0 11 fa fd ["_law_script"] (fY (K P)) :=
 all_mk (c:=444) (T:=442) (a_CutError:=24) (a_NoField:=37) (a_NoWeights:=49) (a_NoCut:=61) (a_Nothing:=73) (a_NoTurn:=85) (a_NoCorner:=97) (a_NoNumber:=109) (a_NoText:=121) (a_NoLine:=133) (a_NoDeed:=145) X G hfa (dl 154 153 lw2 367)
  (dl 166 165 lw2 367)
  (dl 213 212 lw3 399)
  (dl 232 231 lw3 399)
  (dl 246 245 lw4 483)
  (dl 284 283 lw1 530)
  (dl 289 288 lw5 554)
  (dl 304 303 lw5 554)
  (dl 311 310 lw 580)
  (dl 325 324 lw 580)
  (dl 337 336 lw 580)
  (dl 372 371 lw 580)
  (dl 423 422 lw 580)
  (dl 159 158 lw2 367)
  (dl 173 172 lw2 367)
  (dl 218 217 lw3 399)
  (dl 225 224 lw3 399)
  (dl 260 259 lw4 483)
  (dl 267 266 lw4 483)
  (dl 299 298 lw5 554)
  (dl 318 317 lw 580)
  (dl 330 329 lw 580)
  (dl 344 343 lw 580)
  (dl 440 439 lw 580)
  (dl 199 198 lw3 399)
  (dl 206 205 lw3 399)
  (dl 239 238 lw4 483)
  (dl 253 252 lw4 483)
  (dl 351 350 lw 580)
  (dl 358 357 lw 580)
  (dl 379 378 lw 580)
  (dl 386 385 lw 580)
  (dl 194 193 lw3 399)
  (dl 279 278 lw1 530)
  (dl 365 364 lw 580)
  (dl 393 392 lw 580)
  (dl 187 186 lw3 399)
  (dl 403 402 lw 580)
  (dl 180 179 lw3 399)
  (dl 398 397 lw 580)
  (dl 413 412 lw 580)
  (dl 272 271 lw1 530)
  (dl 408 407 lw 580)
  (dl 294 293 lw5 554)
  (dl 428 427 lw 580)
  (dl 433 432 lw 580)
  (dl 418 417 lw 580)
  (by kernel_rfl:PySem.W.nsIn (K P) mainGlobals "law" = some (some (.ref 445))) (by kernel_rfl:(K P).lookup 445=some (kf "law" fU 444 lw 580)) (by kernel_rfl:PySem.W.codeIn (K P) (.ref 444) "law" = true) (by kernel_rfl)
  (by kernel_rfl) (by kernel_rfl) (by kernel_rfl) (by kernel_rfl) (by kernel_rfl) (by kernel_rfl) (by kernel_rfl) (by kernel_rfl) (by kernel_rfl) (by kernel_rfl) (by kernel_rfl) (by kernel_rfl) (by kernel_rfl) (by kernel_rfl) (by kernel_rfl) (by kernel_rfl) (by kernel_rfl) (by kernel_rfl:PySem.W.nsIn (K P) mainGlobals "FAR" = some (some (.int 60001 401)))
  (by kernel_rfl) (by kernel_rfl) (by kernel_rfl) (by kernel_rfl) (by kernel_rfl) (by kernel_rfl) (by kernel_rfl) (by kernel_rfl) (by kernel_rfl) (by kernel_rfl) (by kernel_rfl)
  (bE P) (by kernel_rfl) (by kernel_rfl) (by kernel_rfl) (by kernel_rfl) (by kernel_rfl) (by kernel_rfl) (by kernel_rfl) (by kernel_rfl) (by kernel_rfl) (by kernel_rfl) (by kernel_rfl) (by kernel_rfl) (by kernel_rfl)
  (by kernel_rfl) (by decide) (fun _ X=>code_at X) (fun _ M=>xha M)
theorem kin {P:Params}{h:Heap}(Y:(Kh pg P).In h):(K P).In h:=fun b o e=>Y b o (by
 show(((442,_)::K P):List _).lookup b=_
 rw[xkU]
 split
 ·rename_i q
  rw[xlM.mp q] at e
  rw[show(K P).lookup 442=none by kernel_rfl] at e;cases e
 ·exact e)
theorem xjk {P:Params}{h:Heap}(Y:(Kh pg P).In h):h.get? 442=some { cls:=.none,data:=.fields #[] }:=Y _ _ (by kernel_rfl)
end K91
end
open PySem PySem.W PyProof.Rows
set_option maxRecDepth 100000 in
set_option maxHeartbeats 0 in
theorem PySem.Challenge.cw_roundcuts_k91_texts_that_write_no_field_holds : PySem.Challenge.rw_roundcuts_k91_texts_that_write_no_field.Holds := by
 w_on;o_law
 refine holds_open (q:=K91.vw) (XP:=XL K91.vw []) (YP:=Hook.says (K91.Hk _)) K91.left (Hook.of _) (Hook.keeps _) (fun s e=>xl_of s (Bool.and_eq_true_iff.mp e).1)
  XL.keeps rfl rfl rfl (fun s e=>recFacts_of (Bool.and_eq_true_iff.mp e).2) rfl (by assumption) (by decide +kernel) ⟨rfl,rfl,rfl,rfl,rfl,by decide +kernel⟩ ?hw ?hc
 case hw=>w_witness2
 exact L2.xdq (l:=PySem.Challenge.rw_roundcuts_k91_texts_that_write_no_field) (k:=11) (K:=K91.K) (x := "_law_script") (q := "law.<locals>.<lambda>") (T:=442) rfl rfl ⟨rfl,by decide,by decide⟩ (fun w h Y=>K91.kin (PySem.W.kIn_of Y)) (fun P=>by kernel_rfl) (fun w h Y=>K91.xjk (PySem.W.kIn_of Y)) (fun P=>by kernel_rfl)
  (fun w h X=>(K91.code_at X).isTable) (fun w mg fa h X G e=>K91.there X G e)
